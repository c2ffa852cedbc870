/-
  The texts of polynomials: of the model and of the program.
-/
import Derived.Test.YtnpadkkjaeblfaaDoorOkD
import Derived.Test.YtnpadkkjaeblfaaDoorNims
namespace Go.Proofs.YtnpadkkjaeblfaaDoor
set_option linter.unusedVariables false
set_option linter.unusedSimpArgs false
open Go.ChangeShapes Go.WideShapes Go.ChangeAt Go.RowKit

def zeroT : ByteArray := ⟨#[48]⟩
def polyT (zs : List Int) : ByteArray := if okP zs then (if zs.length = 0 then zeroT else ⟨(jn zs zs.length).toArray⟩) else ⟨#[]⟩
theorem polyT_no {zs : List Int} (h : okP zs = false) : polyT zs = ⟨#[]⟩ := by unfold polyT; rw [if_neg (by rw [h]; decide)]
theorem polyT_zero {zs : List Int} (h : okP zs = true) (h0 : zs.length = 0) : polyT zs = zeroT := by unfold polyT; rw [if_pos h, if_pos h0]
theorem polyT_yes {zs : List Int} (h : okP zs = true) (h0 : ¬ zs.length = 0) : polyT zs = ⟨(jn zs zs.length).toArray⟩ := by unfold polyT; rw [if_pos h, if_neg h0]
theorem l05Text_any (v : Value) (zs : List Int) (hn : zs.length ≤ 1048576) (ho : okP zs = true) (w : World) (h : NS w v zs) :
    Calls Tryd.prog 14 #[v] w fun e w' => e = .returned (.string (polyT zs)) ∧ Below w.heap.size w w' := by
  have HN := Lib.hid h
  obtain ⟨A, c, rfl, _, _⟩ := h
  by_cases h0 : zs.length = 0
  · have T : ((zs.length : Int) == 0) = true := by rw [h0]; rfl
    have E := Lib.hid (polyT_zero ho h0)
    clear h0 ho
    go_enter Tryd.func14, Tryd.ntmps14
    go_wp2_with fail
    go_ret
    exact ⟨by rw [E.out]; rfl, Below.refl _ _⟩
  · have T : ((zs.length : Int) == 0) = false := by rw [beq_eq_false_iff_ne]; omega
    have E := Lib.hid (polyT_yes ho h0)
    clear h0 ho
    obtain ⟨s, hs⟩ : ∃ s : ByteArray, s = ⟨(jn zs zs.length).toArray⟩ := ⟨_, rfl⟩
    rw [← hs] at E
    have HS := Lib.hid hs
    clear hs
    go_enter Tryd.func14, Tryd.ntmps14
    go_wp2_with fail
    refine (l01ListText_any _ zs hn _ HN.out).mono ?_
    rintro e w' ⟨rfl, hb⟩
    rw [← HS.out]
    have HB := Lib.hid hb
    clear hb
    go_wp2_with fail
    go_ret
    exact ⟨by rw [E.out]; rfl, HB.out⟩
theorem spec_PolyText (v : Value) (zs : List Int) (hn : zs.length ≤ 1048576) (w : World) (h : NS w v zs) :
    Calls Tryd.prog 5 #[v] w fun e w' => e = .returned (.string (polyT zs)) ∧ Below w.heap.size w w' := by
  by_cases ho : okP zs = true
  · obtain ⟨s, hs⟩ : ∃ s : ByteArray, s = polyT zs := ⟨_, rfl⟩
    rw [← hs]
    have HS := Lib.hid hs
    have HO := Lib.hid ho
    clear hs
    go_enter Tryd.func5, Tryd.ntmps5
    go_wp2_with fail
    refine (l05Ok_any v zs hn _ h).mono ?_
    rintro e w' ⟨rfl, hw⟩
    obtain rfl := hw.symm
    rw [ho]
    clear ho
    go_wp2_with fail
    refine (l05Text_any v zs hn HO.out _ h).mono ?_
    rintro e w' ⟨rfl, hb⟩
    rw [← HS.out]
    have HB := Lib.hid hb
    clear hb
    go_wp2_with fail
    go_ret
    exact ⟨rfl, HB.out⟩
  · have ho' : okP zs = false := by simpa using ho
    have E := Lib.hid (polyT_no ho')
    rw [E.out]
    go_enter Tryd.func5, Tryd.ntmps5
    go_wp2_with fail
    refine (l05Ok_any v zs hn _ h).mono ?_
    rintro e w' ⟨rfl, hw⟩
    obtain rfl := hw.symm
    rw [ho']
    clear ho ho'
    go_wp2_with fail
    go_ret
    exact ⟨rfl, Below.refl _ _⟩
theorem impl_PolyText (v : Value) (zs : List Int) (hn : zs.length ≤ 1048576) (w : World) (h : NS w v zs) (htab : POW w) :
    Calls Tryd.prog 7 #[v] w fun e w' => e = .returned (.string (polyT zs)) ∧ Below w.heap.size w w' := by
  have HN := Lib.hid h
  have HT := Lib.hid htab
  clear htab
  obtain ⟨A, c, rfl, _, _⟩ := h
  by_cases ho : okP zs = true
  · by_cases h0 : zs.length = 0
    · have T : decide (zs.length = 0) = true := by simpa using h0
      have E := Lib.hid (polyT_zero ho h0)
      rw [E.out]
      clear h0
      go_enter Tryd.func7, Tryd.ntmps7
      go_wp2_with fail
      refine (valid_any _ zs hn _ HN.out).mono ?_
      rintro e w' ⟨rfl, hw⟩
      obtain rfl := hw.symm
      rw [ho]
      clear ho
      go_wp2_with fail
      refine (isZero_any A zs.length c hn _).mono ?_
      rintro e w' ⟨rfl, hw⟩
      obtain rfl := hw.symm
      rw [T]
      go_wp2_with fail
      go_ret
      exact ⟨rfl, Below.refl _ _⟩
    · have T : decide (zs.length = 0) = false := by rw [decide_eq_false_iff_not]; exact h0
      have E := Lib.hid (polyT_yes ho h0)
      clear h0
      obtain ⟨s, hs⟩ : ∃ s : ByteArray, s = ⟨(jn zs zs.length).toArray⟩ := ⟨_, rfl⟩
      rw [← hs] at E
      rw [E.out]
      have HS := Lib.hid hs
      clear hs
      go_enter Tryd.func7, Tryd.ntmps7
      go_wp2_with fail
      refine (valid_any _ zs hn _ HN.out).mono ?_
      rintro e w' ⟨rfl, hw⟩
      obtain rfl := hw.symm
      rw [ho]
      clear ho
      go_wp2_with fail
      refine (isZero_any A zs.length c hn _).mono ?_
      rintro e w' ⟨rfl, hw⟩
      obtain rfl := hw.symm
      rw [T]
      go_wp2_with fail
      refine (impl_NimsText _ zs hn _ HN.out HT.out).mono ?_
      rintro e w' ⟨rfl, hb⟩
      rw [← HS.out]
      have HB := Lib.hid hb
      clear hb
      go_wp2_with fail
      go_ret
      exact ⟨rfl, HB.out⟩
  · have ho' : okP zs = false := by simpa using ho
    have E := Lib.hid (polyT_no ho')
    rw [E.out]
    go_enter Tryd.func7, Tryd.ntmps7
    go_wp2_with fail
    refine (valid_any _ zs hn _ HN.out).mono ?_
    rintro e w' ⟨rfl, hw⟩
    obtain rfl := hw.symm
    rw [ho']
    clear ho ho'
    go_wp2_with fail
    go_ret
    exact ⟨rfl, Below.refl _ _⟩
end Go.Proofs.YtnpadkkjaeblfaaDoor
