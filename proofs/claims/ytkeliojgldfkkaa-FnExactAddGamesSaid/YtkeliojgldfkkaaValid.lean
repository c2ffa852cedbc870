/-
  ValidGame and SameGame: both sides.
-/
import Derived.Test.YtkeliojgldfkkaaGame
namespace Go.Proofs.Ytkeliojgldfkkaa
set_option linter.unusedVariables false
set_option linter.unusedSimpArgs false
open Go.ChangeShapes Go.WideShapes Go.ChangeAt Go.RowKit Go.Deep

theorem in_any (n lo hi : Int) (w : World) : Calls Try.prog 31 #[.int .i64 n, .int .i64 lo, .int .i64 hi] w fun e w' => e = .returned (.bool (decide (lo ≤ n ∧ n ≤ hi))) ∧ w' = w := by
  by_cases h1 : lo ≤ n <;> by_cases h2 : n ≤ hi
  · have e : decide (lo ≤ n ∧ n ≤ hi) = true := by simp [h1, h2]
    rw [e]; clear e
    have t1 : decide (lo ≤ n) = true := by simpa using h1
    have t2 : decide (n ≤ hi) = true := by simpa using h2
    go_enter Try.func31, Try.ntmps31
    go_wp2_with fail
    go_ret
    exact ⟨rfl, rfl⟩
  · have e : decide (lo ≤ n ∧ n ≤ hi) = false := by simp [h2]
    rw [e]; clear e
    have t1 : decide (lo ≤ n) = true := by simpa using h1
    have t2 : decide (n ≤ hi) = false := by simpa using h2
    go_enter Try.func31, Try.ntmps31
    go_wp2_with fail
    go_ret
    exact ⟨rfl, rfl⟩
  all_goals
    have e : decide (lo ≤ n ∧ n ≤ hi) = false := by simp [h1]
    rw [e]; clear e
    have t1 : decide (lo ≤ n) = false := by simpa using h1
    go_enter Try.func31, Try.ntmps31
    go_wp2_with fail
    go_ret
    exact ⟨rfl, rfl⟩

def lastOf (zs : List Int) : Nat → Int
  | 0 => -1
  | j + 1 => zs.getD j 0
def cellOk (i : Nat) (zs : List Int) (j : Nat) : Prop := lastOf zs j + 1 ≤ zs.getD j 0 ∧ zs.getD j 0 ≤ (i : Int) - 1
instance (i : Nat) (zs : List Int) (j : Nat) : Decidable (cellOk i zs j) := by unfold cellOk; infer_instance
def rowOk (i : Nat) (zs : List Int) : Prop := ∀ j, j < zs.length → cellOk i zs j
instance (i : Nat) (zs : List Int) : Decidable (rowOk i zs) := by unfold rowOk; infer_instance
def rowsOk (gs : List (List Int)) (n : Nat) : Prop := ∀ i, i < n → rowOk i (gs.getD i [])
instance (gs : List (List Int)) (n : Nat) : Decidable (rowsOk gs n) := by unfold rowsOk; infer_instance
def validP (gs : List (List Int)) : Prop := (1 ≤ gs.length ∧ gs.length ≤ 60) ∧ rowsOk gs gs.length
instance (gs : List (List Int)) : Decidable (validP gs) := by unfold validP; infer_instance
def validB (gs : List (List Int)) : Bool := decide (validP gs)
theorem validB_len {gs : List (List Int)} (h : ¬ (1 ≤ gs.length ∧ gs.length ≤ 60)) : validB gs = false := by
  unfold validB; rw [decide_eq_false_iff_not]; exact fun x => h x.1
theorem validB_bad {gs : List (List Int)} (i j : Nat) (hi : i < gs.length) (hj : j < (gs.getD i []).length) (h : ¬ cellOk i (gs.getD i []) j) : validB gs = false := by
  unfold validB; rw [decide_eq_false_iff_not]; exact fun x => h (x.2 i hi j hj)
theorem validB_all {gs : List (List Int)} (h : rowsOk gs gs.length) : validB gs = decide (1 ≤ gs.length ∧ gs.length ≤ 60) := by
  by_cases e : 1 ≤ gs.length ∧ gs.length ≤ 60
  · rw [decide_eq_true e]
    exact decide_eq_true (And.intro e h)
  · rw [decide_eq_false e]
    exact validB_len e
theorem rows_step {gs : List (List Int)} {i : Nat} (h : rowsOk gs i) (e : rowOk i (gs.getD i [])) : rowsOk gs (i + 1) := by
  intro j hj
  by_cases h1 : j < i
  · exact h j h1
  · rw [show j = i from by omega]; exact e
theorem cells_step {i : Nat} {zs : List Int} {q : Nat} (h : ∀ j, j < q → cellOk i zs j) (e : cellOk i zs q) : ∀ j, j < q + 1 → cellOk i zs j := by
  intro j hj
  by_cases h1 : j < q
  · exact h j h1
  · rw [show j = q from by omega]; exact e
theorem lastOf_range {B : Nat} {w : World} {v : Value} {zs : List Int} (h : R8 B w v zs) (q : Nat) : -128 ≤ lastOf zs q ∧ lastOf zs q < 128 := by
  cases q with
  | zero => exact ⟨by show (-128 : Int) ≤ -1; decide, by show (-1 : Int) < 128; decide⟩
  | succ q => exact h.range q
set_option maxHeartbeats 1000000 in
theorem spec_ok (v : Value) (gs : List (List Int)) (hn : total gs ≤ 1048576) (B : Nat) (w : World) (h : GS B w v gs) :
    Calls Try.prog 26 #[v] w fun e w' => e = .returned (.bool (validB gs)) ∧ w' = w := by
  have h := h.low (Nat.zero_le B)
  have HT := Lib.hid (fun i hi => Nat.le_trans (total_row gs i hi) hn)
  have hlen : gs.length ≤ 1048576 := Nat.le_trans (total_len gs) hn
  obtain ⟨A, c, rfl, _, _, hc⟩ := h
  have HC := Lib.hid hc; clear hc
  go_enter Try.func26, Try.ntmps26
  go_wp2_with fail
  go_loopw [3] (fun i wr => ∃ k : Nat, i = .int .i64 k ∧ k ≤ gs.length ∧ w = wr ∧ Hid (rowsOk gs k)) (fun i _ => gs.length - (intOf i).toNat)
  case atStart => exact ⟨0, rfl, Nat.zero_le _, rfl, Lib.hid (fun j hj => absurd hj (by omega))⟩
  case round =>
    obtain ⟨k, rfl, hk, rfl, HR⟩ := hrel
    by_cases hlt : k < gs.length
    · obtain ⟨b, off, rfl, _, hlb, hcell⟩ := HC.out (by omega)
      obtain ⟨u, h1, hu⟩ := hcell k hlt
      have HL := Lib.hid (HT.out k hlt)
      have hlz : (gs.getD k []).length ≤ 1048576 := HL.out
      have HB := Lib.hid (fun j hj hc => validB_bad (gs := gs) k j hlt hj hc)
      obtain ⟨zs, hzs⟩ : ∃ zs, zs = gs.getD k [] := ⟨_, rfl⟩
      rw [← hzs] at hu hlz HB
      have HZ := Lib.hid hzs; clear hzs
      have HRG := Lib.hid (fun i => hu.range i)
      have HLR := Lib.hid (fun i => lastOf_range hu i)
      obtain ⟨A2, c2, rfl, _, hc2⟩ := hu
      have HC2 := Lib.hid hc2; clear hc2
      have HCL := Lib.hid hcell
      clear hcell
      have hlt' : (k : Int) < (gs.length : Int) := by omega
      go_wp2_with fail
      go_loopw [5, 4] (fun i l wr => ∃ q : Nat, i = .int .i64 q ∧ q ≤ zs.length ∧ l = .int .i64 (lastOf zs q) ∧ w = wr ∧ Hid (∀ j, j < q → cellOk k zs j)) (fun i _ _ => zs.length - (intOf i).toNat)
      case atStart => exact ⟨0, rfl, Nat.zero_le _, rfl, rfl, Lib.hid (fun j hj => absurd hj (by omega))⟩
      case round =>
        obtain ⟨q, rfl, hq, rfl, rfl, HQ⟩ := hrel
        by_cases hlq : q < zs.length
        · obtain ⟨b2, off2, rfl, _, hlb2, hcell2⟩ := HC2.out (by omega)
          have h2 := hcell2 q hlq
          have HCL2 := Lib.hid hcell2
          clear hcell2
          have hlq' : (q : Int) < (zs.length : Int) := by omega
          obtain ⟨z0, z1⟩ := HRG.out q
          obtain ⟨x0, x1⟩ := HLR.out q
          have hok : decide (cellOk k zs q) = decide (lastOf zs q + 1 ≤ zs.getD q 0 ∧ zs.getD q 0 ≤ (k : Int) - 1) := rfl
          have hstep : lastOf zs (q + 1) = zs.getD q 0 := rfl
          obtain ⟨z, hz⟩ : ∃ z, z = zs.getD q 0 := ⟨_, rfl⟩
          obtain ⟨x, hx⟩ : ∃ x, x = lastOf zs q := ⟨_, rfl⟩
          rw [← hz] at h2 z0 z1 hok hstep
          rw [← hx] at x0 x1 hok
          rw [← hx]
          have HST := Lib.hid hstep
          have HX := Lib.hid hx
          have HZ' := Lib.hid hz
          have HOK := Lib.hid hok
          clear hstep hx hz hok
          go_wp2_with fail
          refine (in_any _ _ _ _).mono ?_
          rintro e w' ⟨rfl, rfl⟩
          rw [← HOK.out]
          by_cases hc : cellOk k zs q
          · rw [decide_eq_true hc]
            have HQ2 := Lib.hid (cells_step HQ.out hc)
            clear hc HQ
            go_wp2_with fail
            exact ⟨⟨q + 1, by go_num, by omega, by rw [HST.out], by simp, HQ2⟩, by simp [intOf]; omega⟩
          · rw [decide_eq_false hc]
            have HV := Lib.hid (HB.out q hlq hc)
            clear hc HQ
            go_wp2_with fail
            go_ret
            exact ⟨by rw [HV.out]; rfl, rfl⟩
        · have hqe : q = zs.length := by omega
          have hlq' : decide ((q : Int) < (zs.length : Int)) = false := by simp; omega
          have HR2 := Lib.hid (rows_step HR.out (by rw [← HZ.out]; exact fun j hj => HQ.out j (by omega)))
          clear HQ HR
          go_wp2_with fail
          exact ⟨⟨k + 1, by go_num, by omega, by simp, HR2⟩, by simp [intOf]; omega⟩
    · have hke : k = gs.length := by omega
      have hlt' : decide ((k : Int) < (gs.length : Int)) = false := by simp; omega
      have HV := Lib.hid (validB_all (gs := gs) (by rw [← hke]; exact HR.out))
      go_wp2_with fail
      refine (in_any _ _ _ _).mono ?_
      rintro e w' ⟨rfl, rfl⟩
      have he : decide ((1 : Int) ≤ (gs.length : Int) ∧ (gs.length : Int) ≤ 60) = validB gs := by
        rw [HV.out]
        exact decide_eq_decide.2 ⟨fun x => ⟨by omega, by omega⟩, fun x => ⟨by omega, by omega⟩⟩
      rw [he]
      go_wp2_with fail
      go_ret
      exact ⟨rfl, rfl⟩
theorem spec_ValidGame (v : Value) (gs : List (List Int)) (hn : total gs ≤ 1048576) (B : Nat) (w : World) (h : GS B w v gs) :
    Calls Try.prog 9 #[v] w fun e w' => e = .returned (.bool (validB gs)) ∧ w' = w := by
  go_enter Try.func9, Try.ntmps9
  go_wp2_with fail
  refine (spec_ok v gs hn B w h).mono ?_
  rintro e w' ⟨rfl, rfl⟩
  go_wp2_with fail
  go_ret
  exact ⟨rfl, rfl⟩
set_option maxHeartbeats 1000000 in
theorem impl_ValidGame (v : Value) (gs : List (List Int)) (hn : total gs ≤ 1048576) (B : Nat) (w : World) (h : GS B w v gs) :
    Calls Try.prog 11 #[v] w fun e w' => e = .returned (.bool (validB gs)) ∧ w' = w := by
  have h := h.low (Nat.zero_le B)
  have HT := Lib.hid (fun i hi => Nat.le_trans (total_row gs i hi) hn)
  have hlen : gs.length ≤ 1048576 := Nat.le_trans (total_len gs) hn
  obtain ⟨A, c, rfl, _, _, hc⟩ := h
  have HC := Lib.hid hc; clear hc
  by_cases b1 : (gs.length : Int) < 1
  · have T1 : decide ((gs.length : Int) < 1) = true := by simpa using b1
    have HV := Lib.hid (validB_len (gs := gs) (by omega))
    go_enter Try.func11, Try.ntmps11
    go_wp2_with fail
    go_ret
    exact ⟨by rw [HV.out]; rfl, rfl⟩
  · have T1 : decide ((gs.length : Int) < 1) = false := by simp; omega
    by_cases b2 : (60 : Int) < (gs.length : Int)
    · have T2 : decide ((60 : Int) < (gs.length : Int)) = true := by simp; omega
      have HV := Lib.hid (validB_len (gs := gs) (by omega))
      go_enter Try.func11, Try.ntmps11
      go_wp2_with fail
      go_ret
      exact ⟨by rw [HV.out]; rfl, rfl⟩
    · have T2 : decide ((60 : Int) < (gs.length : Int)) = false := by simp; omega
      have HN := Lib.hid (show 1 ≤ gs.length ∧ gs.length ≤ 60 from ⟨by omega, by omega⟩)
      go_enter Try.func11, Try.ntmps11
      go_wp2_with fail
      go_loopw [18] (fun i wr => ∃ k : Nat, i = .int .i64 k ∧ k ≤ gs.length ∧ w = wr ∧ Hid (rowsOk gs k)) (fun i _ => gs.length - (intOf i).toNat)
      case atStart => exact ⟨0, rfl, Nat.zero_le _, rfl, Lib.hid (fun j hj => absurd hj (by omega))⟩
      case round =>
        obtain ⟨k, rfl, hk, rfl, HR⟩ := hrel
        by_cases hlt : k < gs.length
        · obtain ⟨b, off, rfl, _, hlb, hcell⟩ := HC.out (by omega)
          obtain ⟨u, h1, hu⟩ := hcell k hlt
          have HL := Lib.hid (HT.out k hlt)
          have hlz : (gs.getD k []).length ≤ 1048576 := HL.out
          have HB := Lib.hid (fun j hj hc => validB_bad (gs := gs) k j hlt hj hc)
          obtain ⟨zs, hzs⟩ : ∃ zs, zs = gs.getD k [] := ⟨_, rfl⟩
          rw [← hzs] at hu hlz HB
          have HZ := Lib.hid hzs; clear hzs
          have HRG := Lib.hid (fun i => hu.range i)
          have HLR := Lib.hid (fun i => lastOf_range hu i)
          obtain ⟨A2, c2, rfl, _, hc2⟩ := hu
          have HC2 := Lib.hid hc2; clear hc2
          have HCL := Lib.hid hcell
          clear hcell
          have hlt' : (k : Int) < (gs.length : Int) := by omega
          go_wp2_with fail
          go_loopw [25, 5] (fun i l wr => ∃ q : Nat, i = .int .i64 q ∧ q ≤ zs.length ∧ l = .int .i64 (lastOf zs q) ∧ w = wr ∧ Hid (∀ j, j < q → cellOk k zs j)) (fun i _ _ => zs.length - (intOf i).toNat)
          case atStart => exact ⟨0, rfl, Nat.zero_le _, rfl, rfl, Lib.hid (fun j hj => absurd hj (by omega))⟩
          case round =>
            obtain ⟨q, rfl, hq, rfl, rfl, HQ⟩ := hrel
            by_cases hlq : q < zs.length
            · obtain ⟨b2, off2, rfl, _, hlb2, hcell2⟩ := HC2.out (by omega)
              have h2 := hcell2 q hlq
              have HCL2 := Lib.hid hcell2
              clear hcell2
              have hlq' : (q : Int) < (zs.length : Int) := by omega
              obtain ⟨z0, z1⟩ := HRG.out q
              obtain ⟨x0, x1⟩ := HLR.out q
              have hok : cellOk k zs q ↔ (lastOf zs q + 1 ≤ zs.getD q 0 ∧ zs.getD q 0 ≤ (k : Int) - 1) := Iff.rfl
              have hstep : lastOf zs (q + 1) = zs.getD q 0 := rfl
              obtain ⟨z, hz⟩ : ∃ z, z = zs.getD q 0 := ⟨_, rfl⟩
              obtain ⟨x, hx⟩ : ∃ x, x = lastOf zs q := ⟨_, rfl⟩
              rw [← hz] at h2 z0 z1 hok hstep
              rw [← hx] at x0 x1 hok
              rw [← hx]
              have HST := Lib.hid hstep
              have HX := Lib.hid hx
              have HZ' := Lib.hid hz
              clear hstep hx hz
              by_cases c1 : z ≤ x
              · have T3 : decide (z ≤ x) = true := by simpa using c1
                have HV := Lib.hid (HB.out q hlq (fun y => by have := hok.1 y; omega))
                clear hok HQ
                go_wp2_with fail
                go_ret
                exact ⟨by rw [HV.out]; rfl, rfl⟩
              · have T3 : decide (z ≤ x) = false := by simp; omega
                by_cases c2 : (k : Int) ≤ z
                · have T4 : decide ((k : Int) ≤ z) = true := by simpa using c2
                  have HV := Lib.hid (HB.out q hlq (fun y => by have := hok.1 y; omega))
                  clear hok HQ
                  go_wp2_with fail
                  go_ret
                  exact ⟨by rw [HV.out]; rfl, rfl⟩
                · have T4 : decide ((k : Int) ≤ z) = false := by simp; omega
                  have HQ2 := Lib.hid (cells_step HQ.out (hok.2 ⟨by omega, by omega⟩))
                  clear hok HQ
                  go_wp2_with fail
                  exact ⟨⟨q + 1, by go_num, by omega, by rw [HST.out], by simp, HQ2⟩, by simp [intOf]; omega⟩
            · have hqe : q = zs.length := by omega
              have hlq' : decide ((q : Int) < (zs.length : Int)) = false := by simp; omega
              have HR2 := Lib.hid (rows_step HR.out (by rw [← HZ.out]; exact fun j hj => HQ.out j (by omega)))
              clear HQ HR
              go_wp2_with fail
              exact ⟨⟨k + 1, by go_num, by omega, by simp, HR2⟩, by simp [intOf]; omega⟩
        · have hke : k = gs.length := by omega
          have hlt' : decide ((k : Int) < (gs.length : Int)) = false := by simp; omega
          have HV := Lib.hid (validB_all (gs := gs) (by rw [← hke]; exact HR.out))
          go_wp2_with fail
          go_ret
          exact ⟨by rw [HV.out, decide_eq_true HN.out]; rfl, rfl⟩
theorem impl_SameGame (v u : Value) (xs ys : List (List Int)) (hn : total xs ≤ 1048576) (hn2 : total ys ≤ 1048576) (B B' : Nat) (w : World) (h : GS B w v xs) (h' : GS B' w u ys) :
    Calls Try.prog 14 #[v, u] w fun e w' => e = .returned (.bool (geqB xs ys)) ∧ ∃ m, w' = w.drewN m := by
  go_enter Try.func14, Try.ntmps14
  go_wp2_with fail
  refine (equalFunc_any v u xs ys hn hn2 B B' w h h').mono ?_
  rintro e w' ⟨rfl, m, rfl⟩
  go_wp2_with fail
  go_ret
  exact ⟨rfl, m, rfl⟩
theorem row_ext {zs ys : List Int} (hl : zs.length = ys.length) (h : ∀ j, j < zs.length → zs.getD j 0 = ys.getD j 0) : zs = ys := by
  apply List.ext_getElem hl
  intro i h1 h2
  have := h i h1
  simpa [List.getD, h1, h2] using this
theorem cell_step {zs ys : List Int} {k : Nat} (h : ∀ j, j < k → zs.getD j 0 = ys.getD j 0) (e : zs.getD k 0 = ys.getD k 0) : ∀ j, j < k + 1 → zs.getD j 0 = ys.getD j 0 := by
  intro j hj
  by_cases h1 : j < k
  · exact h j h1
  · rw [show j = k from by omega]; exact e
set_option maxHeartbeats 1000000 in
theorem spec_SameGame (v u : Value) (xs ys : List (List Int)) (hn : total xs ≤ 1048576) (hn2 : total ys ≤ 1048576) (B B' : Nat) (w : World) (h : GS B w v xs) (h' : GS B' w u ys) :
    Calls Try.prog 13 #[v, u] w fun e w' => e = .returned (.bool (geqB xs ys)) ∧ ∃ m, w' = w.drewN m := by
  have h := h.low (Nat.zero_le B)
  have h' := h'.low (Nat.zero_le B')
  have n1 : xs.length ≤ 1048576 := Nat.le_trans (total_len xs) hn
  have n2 : ys.length ≤ 1048576 := Nat.le_trans (total_len ys) hn2
  have HT := Lib.hid (fun i hi => Nat.le_trans (total_row xs i hi) hn)
  have HT' := Lib.hid (fun i hi => Nat.le_trans (total_row ys i hi) hn2)
  obtain ⟨A, c, rfl, _, _, hc⟩ := h
  obtain ⟨A', c', rfl, _, _, hc'⟩ := h'
  have HC := Lib.hid hc; clear hc
  have HC' := Lib.hid hc'; clear hc'
  by_cases hl : xs.length = ys.length
  · have HL := Lib.hid hl
    have ht : ((xs.length : Int) != (ys.length : Int)) = false := by rw [hl]; simp
    have hle : ys.length ≤ xs.length := by omega
    have hge : xs.length ≤ ys.length := by omega
    clear hl
    go_enter Try.func13, Try.ntmps13
    go_wp2_with fail
    go_loopw [5] (fun i wr => ∃ k m : Nat, i = .int .i64 k ∧ k ≤ xs.length ∧ wr = w.drewN m ∧ Hid (∀ j, j < k → xs.getD j [] = ys.getD j [])) (fun i _ => xs.length - (intOf i).toNat)
    case atStart => exact ⟨0, 0, rfl, Nat.zero_le _, rfl, Lib.hid (fun j hj => absurd hj (by omega))⟩
    case round =>
      obtain ⟨k, m, rfl, hk, rfl, hall⟩ := hrel
      by_cases hlt : k < xs.length
      · obtain ⟨b, off, rfl, _, hlb, hcell⟩ := HC.out (by omega)
        obtain ⟨b', off', rfl, _, hlb', hcell'⟩ := HC'.out (by omega)
        obtain ⟨x, h1, hx⟩ := hcell k hlt
        obtain ⟨y, h2, hy⟩ := hcell' k (by omega)
        have HCL := Lib.hid hcell; have HCL' := Lib.hid hcell'
        clear hcell hcell'
        have hlt' : (k : Int) < (xs.length : Int) := by omega
        have hlt2 : (k : Int) < (ys.length : Int) := by omega
        have lz : (xs.getD k []).length ≤ 1048576 := HT.out k hlt
        have lz' : (ys.getD k []).length ≤ 1048576 := HT'.out k (by omega)
        have HNE := Lib.hid (fun hxy => geqB_ne (xs := xs) (ys := ys) k hxy)
        have HEQ := Lib.hid (fun e => gall_step (xs := xs) (ys := ys) hall.out e)
        obtain ⟨zs, hzs⟩ : ∃ zs, zs = xs.getD k [] := ⟨_, rfl⟩
        obtain ⟨zy, hzy⟩ : ∃ zy, zy = ys.getD k [] := ⟨_, rfl⟩
        rw [← hzs] at hx lz HNE HEQ
        rw [← hzy] at hy lz' HNE HEQ
        have HZS := Lib.hid hzs; have HZY := Lib.hid hzy
        clear hzs hzy
        obtain ⟨A2, c2, rfl, _, hc2⟩ := hx
        obtain ⟨A3, c3, rfl, _, hc3⟩ := hy
        have HC2 := Lib.hid hc2; have HC3 := Lib.hid hc3
        clear hc2 hc3
        by_cases hll : zs.length = zy.length
        · have T2 : ((zs.length : Int) != (zy.length : Int)) = false := by rw [hll]; simp
          have hle2 : zy.length ≤ zs.length := by omega
          have hge2 : zs.length ≤ zy.length := by omega
          have HLL := Lib.hid hll
          clear hll
          go_wp2_with fail
          go_quiet (fail)
          go_wp2_with fail
          go_loopw [6] (fun i wr => ∃ q n : Nat, i = .int .i64 q ∧ q ≤ zs.length ∧ wr = w.drewN n ∧ Hid (∀ j, j < q → zs.getD j 0 = zy.getD j 0)) (fun i _ => zs.length - (intOf i).toNat)
          case atStart => exact ⟨0, m + nq, rfl, Nat.zero_le _, by simp, Lib.hid (fun j hj => absurd hj (by omega))⟩
          case round =>
            obtain ⟨q, n, rfl, hq, rfl, hal2⟩ := hrel
            by_cases hlq : q < zs.length
            · obtain ⟨b2, off2, rfl, _, hlb2, hcell2⟩ := HC2.out (by omega)
              obtain ⟨b3, off3, rfl, _, hlb3, hcell3⟩ := HC3.out (by omega)
              have h3 := hcell2 q hlq
              have h4 := hcell3 q (by omega)
              have HCL2 := Lib.hid hcell2; have HCL3 := Lib.hid hcell3
              clear hcell2 hcell3
              have hlq' : (q : Int) < (zs.length : Int) := by omega
              have hlq2 : (q : Int) < (zy.length : Int) := by omega
              obtain ⟨z, hz⟩ : ∃ z, z = zs.getD q 0 := ⟨_, rfl⟩
              obtain ⟨y, hy⟩ : ∃ y, y = zy.getD q 0 := ⟨_, rfl⟩
              rw [← hz] at h3; rw [← hy] at h4
              by_cases hxy : z = y
              · have hstep := Lib.hid (cell_step hal2.out (by rw [← hz, ← hy]; exact hxy))
                subst hxy
                have HX := Lib.hid hz; have HY := Lib.hid hy; clear hz hy
                go_wp2_with fail
                go_quiet (fail)
                go_wp2_with fail
                exact ⟨⟨q + 1, n + nq, by go_num, by omega, rfl, hstep⟩, by simp [intOf]; omega⟩
              · have hst := Lib.hid (HNE.out (fun e => hxy (by rw [hz, hy, e])))
                have hne : (z != y) = true := bne_iff_ne.2 hxy
                have HX := Lib.hid hz; have HY := Lib.hid hy; clear hz hy hxy
                go_wp2_with fail
                go_quiet (fail)
                go_wp2_with fail
                go_ret
                exact ⟨by rw [hst.out]; rfl, n + nq, by simp⟩
            · have hqe : q = zs.length := by omega
              have hlq' : decide ((q : Int) < (zs.length : Int)) = false := by simp; omega
              have hstep := Lib.hid (HEQ.out (row_ext HLL.out (fun j hj => hal2.out j (by omega))))
              go_wp2_with fail
              exact ⟨⟨k + 1, _, by go_num, by omega, rfl, hstep⟩, by simp [intOf]; omega⟩
        · have hst := Lib.hid (HNE.out (fun e => hll (by rw [e])))
          have T2 : ((zs.length : Int) != (zy.length : Int)) = true := by rw [bne_iff_ne]; omega
          clear hll
          go_wp2_with fail
          go_quiet (fail)
          go_wp2_with fail
          go_ret
          exact ⟨by rw [hst.out]; rfl, m + nq, by simp⟩
      · have hst := Lib.hid (show geqB xs ys = true from geqB_all HL.out (fun j hj => hall.out j (by omega)))
        have hlt' : decide ((k : Int) < (xs.length : Int)) = false := by simp; omega
        go_wp2_with fail
        go_ret
        exact ⟨by rw [hst.out]; rfl, m, rfl⟩
  · have hst := Lib.hid (geqB_len hl)
    have ht : ((xs.length : Int) != (ys.length : Int)) = true := by rw [bne_iff_ne]; omega
    clear hl
    go_enter Try.func13, Try.ntmps13
    go_wp2_with fail
    go_ret
    exact ⟨by rw [hst.out]; rfl, 0, rfl⟩
end Go.Proofs.Ytkeliojgldfkkaa
