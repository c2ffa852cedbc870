package tests

import (
	"slices"
	"testing"

	"loop.example/g01307/impl"
)

func TestCoinsExample(t *testing.T) {
	if values, code := impl.CoinValues(impl.RlRuler, 8); !slices.Equal(values, []impl.Nimber{1, 2, 1, 4, 1, 2, 1, 8}) || code != impl.OK {
		t.Errorf("CoinValues of RlRuler = %v, %d", values, code)
	}
	if values, code := impl.CoinValues(impl.RlMock, 5); !slices.Equal(values, []impl.Nimber{1, 2, 4, 7, 8}) || code != impl.OK {
		t.Errorf("CoinValues of RlMock = %v, %d", values, code)
	}
}

func TestRowExample(t *testing.T) {
	row, code := impl.ReadRow("HTH")
	if row != 5 || code != impl.OK {
		t.Errorf("ReadRow = %d, %d", row, code)
	}
	if value, code := impl.RowValue(impl.RlTurtles, row); value != 2 || code != impl.OK {
		t.Errorf("RowValue = %d, %d", value, code)
	}
	if turn, code := impl.WinningTurn(impl.RlTurtles, row); turn != 5 || code != impl.OK {
		t.Errorf("WinningTurn = %d, %d", turn, code)
	}
}

func TestRectangleExample(t *testing.T) {
	if value, code := impl.RectangleByExclusion(impl.RlTurtles, impl.RlTurtles, 1, 1); value != 3 || code != impl.OK {
		t.Errorf("RectangleByExclusion = %d, %d", value, code)
	}
	if product := impl.TimesNim(2, 2); product != 3 {
		t.Errorf("the product of 2 and 2 is %d", product)
	}
}

// The guarantees name the values of two rules.
func TestGuaranteedValues(t *testing.T) {
	turtles, one := impl.CoinValues(impl.RlTurtles, impl.MaxCoins)
	twins, two := impl.CoinValues(impl.RlTwins, impl.MaxCoins)
	if len(turtles) != 24 || len(twins) != 24 || one != impl.OK || two != impl.OK {
		t.Fatalf("CoinValues = %v, %d and %v, %d", turtles, one, twins, two)
	}
	for coin := range 24 {
		if turtles[coin] != impl.Nimber(coin+1) || twins[coin] != impl.Nimber(coin) {
			t.Errorf("the coin %d has the values %d and %d", coin, turtles[coin], twins[coin])
		}
	}
}

func TestCoinConstants(t *testing.T) {
	got := []int64{impl.MaxCoins, impl.Board, impl.RlSingle, impl.RlTurtles, impl.RlTwins, impl.RlMock, impl.RlRuler, impl.RlTriplets}
	if want := []int64{24, 8, 0, 1, 2, 3, 4, 5}; !slices.Equal(got, want) {
		t.Errorf("constants are %v, want %v", got, want)
	}
}
