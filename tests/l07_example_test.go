package tests

import (
	"testing"

	"loop.example/g01307/impl"
)

func TestCircuitsExample(t *testing.T) {
	zero, code := impl.TimesCircuit(0)
	if text := impl.CircuitText(zero); code != impl.OK || text != "2\ni0 i1 0&1\n2\n" {
		t.Errorf("TimesCircuit 0 = %q, %d", text, code)
	}
	times, code := impl.TimesCircuit(1)
	if code != impl.OK {
		t.Errorf("TimesCircuit 1 has the code %d", code)
	}
	counts, code := impl.CountGates(times)
	wantNumber(t, "CountGates of TimesCircuit 1", [2]int64{counts[impl.GtAnd], counts[impl.GtXor]}, code, [2]int64{4, 3})
	short, code := impl.ShortTimes(1)
	if code != impl.OK {
		t.Errorf("ShortTimes 1 has the code %d", code)
	}
	counts, code = impl.CountGates(short)
	wantNumber(t, "CountGates of ShortTimes 1", [2]int64{counts[impl.GtAnd], counts[impl.GtXor]}, code, [2]int64{3, 4})
	outputs, code := impl.RunCircuit(times, 10)
	wantNumber(t, "RunCircuit of TimesCircuit 1 and 10", outputs, code, 3)
}

func TestHalfExample(t *testing.T) {
	half, code := impl.HalfTimes(1)
	if code != impl.OK || len(half.Gates) != 3 || half.Gates[2] != (impl.Gate{Kind: impl.GtXor, A: 1, B: 0}) || len(half.Outputs) != 2 || half.Outputs[0] != 1 || half.Outputs[1] != 2 {
		t.Errorf("HalfTimes 1 = %v, %d", half, code)
	}
}

func TestCircuitConstants(t *testing.T) {
	if impl.MaxInputs != 16 || impl.MaxGates != 600 || impl.MaxOutputs != 16 {
		t.Errorf("MaxInputs, MaxGates and MaxOutputs are %d, %d and %d", impl.MaxInputs, impl.MaxGates, impl.MaxOutputs)
	}
	if impl.GtInput != 0 || impl.GtOne != 1 || impl.GtXor != 2 || impl.GtAnd != 3 {
		t.Errorf("the kinds of gates are %d, %d, %d and %d", impl.GtInput, impl.GtOne, impl.GtXor, impl.GtAnd)
	}
	if impl.ClPlus != 0 || impl.ClTimes != 1 {
		t.Errorf("the claims are %d and %d", impl.ClPlus, impl.ClTimes)
	}
}
