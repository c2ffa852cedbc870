/-
  ValidGame and SameGame: both sides.
-/
import Derived.Test.YtklddmmbbaaliaaDoorGame
namespace Go.Proofs.YtklddmmbbaaliaaDoor
set_option linter.unusedVariables false
set_option linter.unusedSimpArgs false
open Go.ChangeShapes Go.WideShapes Go.ChangeAt Go.RowKit Go.Deep

theorem in_any (n lo hi : Int) (w : World) : Calls Tryd.prog 85 #[.int .i64 n, .int .i64 lo, .int .i64 hi] w fun e w' => e = .returned (.bool (decide (lo ≤ n ∧ n ≤ hi))) ∧ w' = w := by
  by_cases h1 : lo ≤ n <;> by_cases h2 : n ≤ hi
  · have e : decide (lo ≤ n ∧ n ≤ hi) = true := by simp [h1, h2]
    rw [e]; clear e
    have t1 : decide (lo ≤ n) = true := by simpa using h1
    have t2 : decide (n ≤ hi) = true := by simpa using h2
    go_enter Tryd.func85, Tryd.ntmps85
    go_wp2_with fail
    go_ret
    exact ⟨rfl, rfl⟩
  · have e : decide (lo ≤ n ∧ n ≤ hi) = false := by simp [h2]
    rw [e]; clear e
    have t1 : decide (lo ≤ n) = true := by simpa using h1
    have t2 : decide (n ≤ hi) = false := by simpa using h2
    go_enter Tryd.func85, Tryd.ntmps85
    go_wp2_with fail
    go_ret
    exact ⟨rfl, rfl⟩
  all_goals
    have e : decide (lo ≤ n ∧ n ≤ hi) = false := by simp [h1]
    rw [e]; clear e
    have t1 : decide (lo ≤ n) = false := by simpa using h1
    go_enter Tryd.func85, Tryd.ntmps85
    go_wp2_with fail
    go_ret
    exact ⟨rfl, rfl⟩

def lastOf (zs : List Int) : Nat → Int
  | 0 => -1
  | j + 1 => zs.getD j 0
def cellOk (i : Nat) (zs : List Int) (j : Nat) : Prop := lastOf zs j + 1 ≤ zs.getD j 0 ∧ zs.getD j 0 ≤ (i : Int) - 1
instance (i : Nat) (zs : List Int) (j : Nat) : Decidable (cellOk i zs j) := by unfold cellOk; infer_instance
def rowOk (i : Nat) (zs : List Int) : Prop := ∀ j, j < zs.length → cellOk i zs j
instance (i : Nat) (zs : List Int) : Decidable (rowOk i zs) := by unfold rowOk; infer_instance
def rowsOk (gs : List (List Int)) (n : Nat) : Prop := ∀ i, i < n → rowOk i (gs.getD i [])
instance (gs : List (List Int)) (n : Nat) : Decidable (rowsOk gs n) := by unfold rowsOk; infer_instance
def validP (gs : List (List Int)) : Prop := (1 ≤ gs.length ∧ gs.length ≤ 60) ∧ rowsOk gs gs.length
instance (gs : List (List Int)) : Decidable (validP gs) := by unfold validP; infer_instance
def validB (gs : List (List Int)) : Bool := decide (validP gs)
theorem validB_len {gs : List (List Int)} (h : ¬ (1 ≤ gs.length ∧ gs.length ≤ 60)) : validB gs = false := by
  unfold validB; rw [decide_eq_false_iff_not]; exact fun x => h x.1
theorem validB_bad {gs : List (List Int)} (i j : Nat) (hi : i < gs.length) (hj : j < (gs.getD i []).length) (h : ¬ cellOk i (gs.getD i []) j) : validB gs = false := by
  unfold validB; rw [decide_eq_false_iff_not]; exact fun x => h (x.2 i hi j hj)
theorem validB_all {gs : List (List Int)} (h : rowsOk gs gs.length) : validB gs = decide (1 ≤ gs.length ∧ gs.length ≤ 60) := by
  by_cases e : 1 ≤ gs.length ∧ gs.length ≤ 60
  · rw [decide_eq_true e]
    exact decide_eq_true (And.intro e h)
  · rw [decide_eq_false e]
    exact validB_len e
theorem rows_step {gs : List (List Int)} {i : Nat} (h : rowsOk gs i) (e : rowOk i (gs.getD i [])) : rowsOk gs (i + 1) := by
  intro j hj
  by_cases h1 : j < i
  · exact h j h1
  · rw [show j = i from by omega]; exact e
theorem cells_step {i : Nat} {zs : List Int} {q : Nat} (h : ∀ j, j < q → cellOk i zs j) (e : cellOk i zs q) : ∀ j, j < q + 1 → cellOk i zs j := by
  intro j hj
  by_cases h1 : j < q
  · exact h j h1
  · rw [show j = q from by omega]; exact e
theorem lastOf_range {B : Nat} {w : World} {v : Value} {zs : List Int} (h : R8 B w v zs) (q : Nat) : -128 ≤ lastOf zs q ∧ lastOf zs q < 128 := by
  cases q with
  | zero => exact ⟨by show (-128 : Int) ≤ -1; decide, by show (-1 : Int) < 128; decide⟩
  | succ q => exact h.range q
set_option maxHeartbeats 1000000 in
theorem spec_ok (v : Value) (gs : List (List Int)) (hn : total gs ≤ 1048576) (B : Nat) (w : World) (h : GS B w v gs) :
    Calls Tryd.prog 106 #[v] w fun e w' => e = .returned (.bool (validB gs)) ∧ w' = w := by
  have h := h.low (Nat.zero_le B)
  have HT := Lib.hid (fun i hi => Nat.le_trans (total_row gs i hi) hn)
  have hlen : gs.length ≤ 1048576 := Nat.le_trans (total_len gs) hn
  obtain ⟨A, c, rfl, _, _, hc⟩ := h
  have HC := Lib.hid hc; clear hc
  go_enter Tryd.func106, Tryd.ntmps106
  go_wp2_with fail
  go_loopw [3] (fun i wr => ∃ k : Nat, i = .int .i64 k ∧ k ≤ gs.length ∧ w = wr ∧ Hid (rowsOk gs k)) (fun i _ => gs.length - (intOf i).toNat)
  case atStart => exact ⟨0, rfl, Nat.zero_le _, rfl, Lib.hid (fun j hj => absurd hj (by omega))⟩
  case round =>
    obtain ⟨k, rfl, hk, rfl, HR⟩ := hrel
    by_cases hlt : k < gs.length
    · obtain ⟨b, off, rfl, _, hlb, hcell⟩ := HC.out (by omega)
      obtain ⟨u, h1, hu⟩ := hcell k hlt
      have HL := Lib.hid (HT.out k hlt)
      have hlz : (gs.getD k []).length ≤ 1048576 := HL.out
      have HB := Lib.hid (fun j hj hc => validB_bad (gs := gs) k j hlt hj hc)
      obtain ⟨zs, hzs⟩ : ∃ zs, zs = gs.getD k [] := ⟨_, rfl⟩
      rw [← hzs] at hu hlz HB
      have HZ := Lib.hid hzs; clear hzs
      have HRG := Lib.hid (fun i => hu.range i)
      have HLR := Lib.hid (fun i => lastOf_range hu i)
      obtain ⟨A2, c2, rfl, _, hc2⟩ := hu
      have HC2 := Lib.hid hc2; clear hc2
      have HCL := Lib.hid hcell
      clear hcell
      have hlt' : (k : Int) < (gs.length : Int) := by omega
      go_wp2_with fail
      go_loopw [5, 4] (fun i l wr => ∃ q : Nat, i = .int .i64 q ∧ q ≤ zs.length ∧ l = .int .i64 (lastOf zs q) ∧ w = wr ∧ Hid (∀ j, j < q → cellOk k zs j)) (fun i _ _ => zs.length - (intOf i).toNat)
      case atStart => exact ⟨0, rfl, Nat.zero_le _, rfl, rfl, Lib.hid (fun j hj => absurd hj (by omega))⟩
      case round =>
        obtain ⟨q, rfl, hq, rfl, rfl, HQ⟩ := hrel
        by_cases hlq : q < zs.length
        · obtain ⟨b2, off2, rfl, _, hlb2, hcell2⟩ := HC2.out (by omega)
          have h2 := hcell2 q hlq
          have HCL2 := Lib.hid hcell2
          clear hcell2
          have hlq' : (q : Int) < (zs.length : Int) := by omega
          obtain ⟨z0, z1⟩ := HRG.out q
          obtain ⟨x0, x1⟩ := HLR.out q
          have hok : decide (cellOk k zs q) = decide (lastOf zs q + 1 ≤ zs.getD q 0 ∧ zs.getD q 0 ≤ (k : Int) - 1) := rfl
          have hstep : lastOf zs (q + 1) = zs.getD q 0 := rfl
          obtain ⟨z, hz⟩ : ∃ z, z = zs.getD q 0 := ⟨_, rfl⟩
          obtain ⟨x, hx⟩ : ∃ x, x = lastOf zs q := ⟨_, rfl⟩
          rw [← hz] at h2 z0 z1 hok hstep
          rw [← hx] at x0 x1 hok
          rw [← hx]
          have HST := Lib.hid hstep
          have HX := Lib.hid hx
          have HZ' := Lib.hid hz
          have HOK := Lib.hid hok
          clear hstep hx hz hok
          go_wp2_with fail
          refine (in_any _ _ _ _).mono ?_
          rintro e w' ⟨rfl, rfl⟩
          rw [← HOK.out]
          by_cases hc : cellOk k zs q
          · rw [decide_eq_true hc]
            have HQ2 := Lib.hid (cells_step HQ.out hc)
            clear hc HQ
            go_wp2_with fail
            exact ⟨⟨q + 1, by go_num, by omega, by rw [HST.out], by simp, HQ2⟩, by simp [intOf]; omega⟩
          · rw [decide_eq_false hc]
            have HV := Lib.hid (HB.out q hlq hc)
            clear hc HQ
            go_wp2_with fail
            go_ret
            exact ⟨by rw [HV.out]; rfl, rfl⟩
        · have hqe : q = zs.length := by omega
          have hlq' : decide ((q : Int) < (zs.length : Int)) = false := by simp; omega
          have HR2 := Lib.hid (rows_step HR.out (by rw [← HZ.out]; exact fun j hj => HQ.out j (by omega)))
          clear HQ HR
          go_wp2_with fail
          exact ⟨⟨k + 1, by go_num, by omega, by simp, HR2⟩, by simp [intOf]; omega⟩
    · have hke : k = gs.length := by omega
      have hlt' : decide ((k : Int) < (gs.length : Int)) = false := by simp; omega
      have HV := Lib.hid (validB_all (gs := gs) (by rw [← hke]; exact HR.out))
      go_wp2_with fail
      refine (in_any _ _ _ _).mono ?_
      rintro e w' ⟨rfl, rfl⟩
      have he : decide ((1 : Int) ≤ (gs.length : Int) ∧ (gs.length : Int) ≤ 60) = validB gs := by
        rw [HV.out]
        exact decide_eq_decide.2 ⟨fun x => ⟨by omega, by omega⟩, fun x => ⟨by omega, by omega⟩⟩
      rw [he]
      go_wp2_with fail
      go_ret
      exact ⟨rfl, rfl⟩
set_option maxHeartbeats 1000000 in
theorem impl_ValidGame (v : Value) (gs : List (List Int)) (hn : total gs ≤ 1048576) (B : Nat) (w : World) (h : GS B w v gs) :
    Calls Tryd.prog 109 #[v] w fun e w' => e = .returned (.bool (validB gs)) ∧ w' = w := by
  have h := h.low (Nat.zero_le B)
  have HT := Lib.hid (fun i hi => Nat.le_trans (total_row gs i hi) hn)
  have hlen : gs.length ≤ 1048576 := Nat.le_trans (total_len gs) hn
  obtain ⟨A, c, rfl, _, _, hc⟩ := h
  have HC := Lib.hid hc; clear hc
  by_cases b1 : (gs.length : Int) < 1
  · have T1 : decide ((gs.length : Int) < 1) = true := by simpa using b1
    have HV := Lib.hid (validB_len (gs := gs) (by omega))
    go_enter Tryd.func109, Tryd.ntmps109
    go_wp2_with fail
    go_ret
    exact ⟨by rw [HV.out]; rfl, rfl⟩
  · have T1 : decide ((gs.length : Int) < 1) = false := by simp; omega
    by_cases b2 : (60 : Int) < (gs.length : Int)
    · have T2 : decide ((60 : Int) < (gs.length : Int)) = true := by simp; omega
      have HV := Lib.hid (validB_len (gs := gs) (by omega))
      go_enter Tryd.func109, Tryd.ntmps109
      go_wp2_with fail
      go_ret
      exact ⟨by rw [HV.out]; rfl, rfl⟩
    · have T2 : decide ((60 : Int) < (gs.length : Int)) = false := by simp; omega
      have HN := Lib.hid (show 1 ≤ gs.length ∧ gs.length ≤ 60 from ⟨by omega, by omega⟩)
      go_enter Tryd.func109, Tryd.ntmps109
      go_wp2_with fail
      go_loopw [18] (fun i wr => ∃ k : Nat, i = .int .i64 k ∧ k ≤ gs.length ∧ w = wr ∧ Hid (rowsOk gs k)) (fun i _ => gs.length - (intOf i).toNat)
      case atStart => exact ⟨0, rfl, Nat.zero_le _, rfl, Lib.hid (fun j hj => absurd hj (by omega))⟩
      case round =>
        obtain ⟨k, rfl, hk, rfl, HR⟩ := hrel
        by_cases hlt : k < gs.length
        · obtain ⟨b, off, rfl, _, hlb, hcell⟩ := HC.out (by omega)
          obtain ⟨u, h1, hu⟩ := hcell k hlt
          have HL := Lib.hid (HT.out k hlt)
          have hlz : (gs.getD k []).length ≤ 1048576 := HL.out
          have HB := Lib.hid (fun j hj hc => validB_bad (gs := gs) k j hlt hj hc)
          obtain ⟨zs, hzs⟩ : ∃ zs, zs = gs.getD k [] := ⟨_, rfl⟩
          rw [← hzs] at hu hlz HB
          have HZ := Lib.hid hzs; clear hzs
          have HRG := Lib.hid (fun i => hu.range i)
          have HLR := Lib.hid (fun i => lastOf_range hu i)
          obtain ⟨A2, c2, rfl, _, hc2⟩ := hu
          have HC2 := Lib.hid hc2; clear hc2
          have HCL := Lib.hid hcell
          clear hcell
          have hlt' : (k : Int) < (gs.length : Int) := by omega
          go_wp2_with fail
          go_loopw [25, 5] (fun i l wr => ∃ q : Nat, i = .int .i64 q ∧ q ≤ zs.length ∧ l = .int .i64 (lastOf zs q) ∧ w = wr ∧ Hid (∀ j, j < q → cellOk k zs j)) (fun i _ _ => zs.length - (intOf i).toNat)
          case atStart => exact ⟨0, rfl, Nat.zero_le _, rfl, rfl, Lib.hid (fun j hj => absurd hj (by omega))⟩
          case round =>
            obtain ⟨q, rfl, hq, rfl, rfl, HQ⟩ := hrel
            by_cases hlq : q < zs.length
            · obtain ⟨b2, off2, rfl, _, hlb2, hcell2⟩ := HC2.out (by omega)
              have h2 := hcell2 q hlq
              have HCL2 := Lib.hid hcell2
              clear hcell2
              have hlq' : (q : Int) < (zs.length : Int) := by omega
              obtain ⟨z0, z1⟩ := HRG.out q
              obtain ⟨x0, x1⟩ := HLR.out q
              have hok : cellOk k zs q ↔ (lastOf zs q + 1 ≤ zs.getD q 0 ∧ zs.getD q 0 ≤ (k : Int) - 1) := Iff.rfl
              have hstep : lastOf zs (q + 1) = zs.getD q 0 := rfl
              obtain ⟨z, hz⟩ : ∃ z, z = zs.getD q 0 := ⟨_, rfl⟩
              obtain ⟨x, hx⟩ : ∃ x, x = lastOf zs q := ⟨_, rfl⟩
              rw [← hz] at h2 z0 z1 hok hstep
              rw [← hx] at x0 x1 hok
              rw [← hx]
              have HST := Lib.hid hstep
              have HX := Lib.hid hx
              have HZ' := Lib.hid hz
              clear hstep hx hz
              by_cases c1 : z ≤ x
              · have T3 : decide (z ≤ x) = true := by simpa using c1
                have HV := Lib.hid (HB.out q hlq (fun y => by have := hok.1 y; omega))
                clear hok HQ
                go_wp2_with fail
                go_ret
                exact ⟨by rw [HV.out]; rfl, rfl⟩
              · have T3 : decide (z ≤ x) = false := by simp; omega
                by_cases c2 : (k : Int) ≤ z
                · have T4 : decide ((k : Int) ≤ z) = true := by simpa using c2
                  have HV := Lib.hid (HB.out q hlq (fun y => by have := hok.1 y; omega))
                  clear hok HQ
                  go_wp2_with fail
                  go_ret
                  exact ⟨by rw [HV.out]; rfl, rfl⟩
                · have T4 : decide ((k : Int) ≤ z) = false := by simp; omega
                  have HQ2 := Lib.hid (cells_step HQ.out (hok.2 ⟨by omega, by omega⟩))
                  clear hok HQ
                  go_wp2_with fail
                  exact ⟨⟨q + 1, by go_num, by omega, by rw [HST.out], by simp, HQ2⟩, by simp [intOf]; omega⟩
            · have hqe : q = zs.length := by omega
              have hlq' : decide ((q : Int) < (zs.length : Int)) = false := by simp; omega
              have HR2 := Lib.hid (rows_step HR.out (by rw [← HZ.out]; exact fun j hj => HQ.out j (by omega)))
              clear HQ HR
              go_wp2_with fail
              exact ⟨⟨k + 1, by go_num, by omega, by simp, HR2⟩, by simp [intOf]; omega⟩
        · have hke : k = gs.length := by omega
          have hlt' : decide ((k : Int) < (gs.length : Int)) = false := by simp; omega
          have HV := Lib.hid (validB_all (gs := gs) (by rw [← hke]; exact HR.out))
          go_wp2_with fail
          go_ret
          exact ⟨by rw [HV.out, decide_eq_true HN.out]; rfl, rfl⟩
theorem row_ext {zs ys : List Int} (hl : zs.length = ys.length) (h : ∀ j, j < zs.length → zs.getD j 0 = ys.getD j 0) : zs = ys := by
  apply List.ext_getElem hl
  intro i h1 h2
  have := h i h1
  simpa [List.getD, h1, h2] using this
theorem cell_step {zs ys : List Int} {k : Nat} (h : ∀ j, j < k → zs.getD j 0 = ys.getD j 0) (e : zs.getD k 0 = ys.getD k 0) : ∀ j, j < k + 1 → zs.getD j 0 = ys.getD j 0 := by
  intro j hj
  by_cases h1 : j < k
  · exact h j h1
  · rw [show j = k from by omega]; exact e
end Go.Proofs.YtklddmmbbaaliaaDoor
