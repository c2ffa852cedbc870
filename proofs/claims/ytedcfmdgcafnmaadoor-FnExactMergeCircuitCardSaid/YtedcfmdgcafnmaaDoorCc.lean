/-
  Valid circuits: what both sides ask of a gate, of all gates, of the outputs.
-/
import Derived.Test.YtedcfmdgcafnmaaDoorCb
import Derived.Shelf.Abstract
import Derived.RangeFuncCalls
import Derived.Laws.StructEq
import Derived.IntWalk
namespace Go.Proofs.YtedcfmdgcafnmaaDoor
set_option linter.unusedVariables false
set_option linter.unusedSimpArgs false
open Go.ChangeShapes Go.WideShapes Go.ChangeAt Go.RowKit Go.Deep

def idxB (a n : Int) : Bool := decide (0 ≤ a ∧ a < n)
def gateB (n i : Int) (g : G3) : Bool :=
  if g.1 = 0 then idxB g.2.1 n && decide (g.2.2 = 0)
  else if g.1 = 1 then decide (g.2.1 = 0) && decide (g.2.2 = 0)
  else if g.1 = 2 then idxB g.2.1 i && idxB g.2.2 i
  else if g.1 = 3 then idxB g.2.1 i && idxB g.2.2 i
  else false
def circB (n : Int) (gs : List G3) (os : List Int) : Bool :=
  decide (0 ≤ n ∧ n ≤ 16 ∧ gs.length ≤ 600 ∧ os.length ≤ 16 ∧ (∀ i, i < gs.length → gateB n i (gs.getD i gz) = true) ∧ ∀ i, i < os.length → idxB (os.getD i 0) gs.length = true)
theorem circ_gate {n : Int} {gs : List G3} {os : List Int} {i : Nat} (hi : i < gs.length) (h : gateB n i (gs.getD i gz) = false) : circB n gs os = false := by
  unfold circB
  exact decide_eq_false (fun q => by have := q.2.2.2.2.1 i hi; rw [h] at this; cases this)
theorem circ_out {n : Int} {gs : List G3} {os : List Int} {i : Nat} (hi : i < os.length) (h : idxB (os.getD i 0) gs.length = false) : circB n gs os = false := by
  unfold circB
  exact decide_eq_false (fun q => by have := q.2.2.2.2.2 i hi; rw [h] at this; cases this)
theorem idxB_eq (n r : Int) : decide (0 ≤ n ∧ n ≤ r - 1) = idxB n r := by
  unfold idxB
  rw [decide_eq_decide]
  omega

theorem inC_any (n lo hi : Int) (w : World) : Calls Tryd.prog 102 #[.int .i64 n, .int .i64 lo, .int .i64 hi] w fun e w' => e = .returned (.bool (decide (lo ≤ n ∧ n ≤ hi))) ∧ w' = w := by
  by_cases h1 : lo ≤ n <;> by_cases h2 : n ≤ hi
  · have e : decide (lo ≤ n ∧ n ≤ hi) = true := by simp [h1, h2]
    rw [e]; clear e
    have t1 : decide (lo ≤ n) = true := by simpa using h1
    have t2 : decide (n ≤ hi) = true := by simpa using h2
    go_enter Tryd.func102, Tryd.ntmps102
    go_wp2_with fail
    go_ret
    exact ⟨rfl, rfl⟩
  · have e : decide (lo ≤ n ∧ n ≤ hi) = false := by simp [h2]
    rw [e]; clear e
    have t1 : decide (lo ≤ n) = true := by simpa using h1
    have t2 : decide (n ≤ hi) = false := by simpa using h2
    go_enter Tryd.func102, Tryd.ntmps102
    go_wp2_with fail
    go_ret
    exact ⟨rfl, rfl⟩
  all_goals
    have e : decide (lo ≤ n ∧ n ≤ hi) = false := by simp [h1]
    rw [e]; clear e
    have t1 : decide (lo ≤ n) = false := by simpa using h1
    go_enter Tryd.func102, Tryd.ntmps102
    go_wp2_with fail
    go_ret
    exact ⟨rfl, rfl⟩
theorem isIndex_any (n hi : Int) (hn : -32768 ≤ n ∧ n < 32768) (w : World) : Calls Tryd.prog 94 #[.int .i16 n, .int .i64 hi] w fun e w' => e = .returned (.bool (decide (0 ≤ n ∧ n < hi))) ∧ w' = w := by
  have cv : wrap64 n = n := IntWalk.wrap64_in n (by omega)
  by_cases h1 : 0 ≤ n <;> by_cases h2 : n < hi
  · have e : decide (0 ≤ n ∧ n < hi) = true := by simp [h1, h2]
    rw [e]; clear e
    have t1 : decide (0 ≤ n) = true := by simpa using h1
    have t2 : decide (n < hi) = true := by simpa using h2
    go_enter Tryd.func94, Tryd.ntmps94
    go_wp2_with fail
    go_ret
    exact ⟨rfl, rfl⟩
  · have e : decide (0 ≤ n ∧ n < hi) = false := by simp [h2]
    rw [e]; clear e
    have t1 : decide (0 ≤ n) = true := by simpa using h1
    have t2 : decide (n < hi) = false := by simpa using h2
    go_enter Tryd.func94, Tryd.ntmps94
    go_wp2_with fail
    go_ret
    exact ⟨rfl, rfl⟩
  all_goals
    have e : decide (0 ≤ n ∧ n < hi) = false := by simp [h1]
    rw [e]; clear e
    have t1 : decide (0 ≤ n) = false := by simpa using h1
    go_enter Tryd.func94, Tryd.ntmps94
    go_wp2_with fail
    go_ret
    exact ⟨rfl, rfl⟩
set_option maxHeartbeats 2000000 in
theorem fits_any (g : G3) (hg : GW g) (i : Nat) (hi : i ≤ 600) (n : Int) (hn : 0 ≤ n ∧ n ≤ 16) (w : World) :
    Calls Tryd.prog 92 #[gv g, .int .i64 (i : Int), .int .i8 n] w fun e w' => e = .returned (.bool (gateB n i g)) ∧ Below w.heap.size w w' := by
  obtain ⟨k, a, b⟩ := g
  obtain ⟨hk, ha, hb⟩ := hg
  simp only at hk ha hb
  have HB := Lib.hid (nw1 w (.cells #[.int .i8 k, .int .i16 a, .int .i16 b] 67)).2.1
  have cv : wrap64 n = n := IntWalk.wrap64_in n (by omega)
  by_cases k0 : k = 0
  · subst k0
    have T0 : ((0 : Int) == 0) = true := rfl
    go_enter Tryd.func92, Tryd.ntmps92
    go_wp2_with fail
    refine (isIndex_any a n ha _).mono ?_
    rintro e w' ⟨rfl, rfl⟩
    by_cases q : 0 ≤ a ∧ a < n
    · rw [decide_eq_true q]
      by_cases b0 : b = 0
      · subst b0
        have T1 : ((0 : Int) == 0) = true := rfl
        go_wp2_with fail
        go_ret
        exact ⟨by simp [gateB, idxB]; omega, HB.out⟩
      · have T1 : (b == 0) = false := by simpa using b0
        go_wp2_with fail
        go_ret
        exact ⟨by simp [gateB, idxB, b0], HB.out⟩
    · rw [decide_eq_false q]
      go_wp2_with fail
      go_ret
      exact ⟨by simp [gateB, idxB]; omega, HB.out⟩
  have T0 : (k == 0) = false := by simpa using k0
  by_cases k1 : k = 1
  · subst k1
    have T1 : ((1 : Int) == 1) = true := rfl
    by_cases a0 : a = 0
    · subst a0
      have A0 : ((0 : Int) == 0) = true := rfl
      by_cases b0 : b = 0
      · subst b0
        go_enter Tryd.func92, Tryd.ntmps92
        go_wp2_with fail
        go_ret
        exact ⟨by simp [gateB], HB.out⟩
      · have B0 : (b == 0) = false := by simpa using b0
        go_enter Tryd.func92, Tryd.ntmps92
        go_wp2_with fail
        go_ret
        exact ⟨by simp [gateB, b0], HB.out⟩
    · have A0 : (a == 0) = false := by simpa using a0
      go_enter Tryd.func92, Tryd.ntmps92
      go_wp2_with fail
      go_ret
      exact ⟨by simp [gateB, a0], HB.out⟩
  have T1 : (k == 1) = false := by simpa using k1
  by_cases k2 : k = 2
  · subst k2
    have T2 : ((2 : Int) == 2) = true := rfl
    go_enter Tryd.func92, Tryd.ntmps92
    go_wp2_with fail
    refine (isIndex_any a (i : Int) ha _).mono ?_
    rintro e w' ⟨rfl, rfl⟩
    by_cases q : 0 ≤ a ∧ a < (i : Int)
    · rw [decide_eq_true q]
      go_wp2_with fail
      refine (isIndex_any b (i : Int) hb _).mono ?_
      rintro e w' ⟨rfl, rfl⟩
      by_cases q2 : 0 ≤ b ∧ b < (i : Int)
      · rw [decide_eq_true q2]
        go_wp2_with fail
        go_ret
        exact ⟨by simp [gateB, idxB]; omega, HB.out⟩
      · rw [decide_eq_false q2]
        go_wp2_with fail
        go_ret
        exact ⟨by simp [gateB, idxB]; omega, HB.out⟩
    · rw [decide_eq_false q]
      go_wp2_with fail
      go_ret
      exact ⟨by simp [gateB, idxB]; omega, HB.out⟩
  have T2 : (k == 2) = false := by simpa using k2
  by_cases k3 : k = 3
  · subst k3
    have T3 : ((3 : Int) == 3) = true := rfl
    go_enter Tryd.func92, Tryd.ntmps92
    go_wp2_with fail
    refine (isIndex_any a (i : Int) ha _).mono ?_
    rintro e w' ⟨rfl, rfl⟩
    by_cases q : 0 ≤ a ∧ a < (i : Int)
    · rw [decide_eq_true q]
      go_wp2_with fail
      refine (isIndex_any b (i : Int) hb _).mono ?_
      rintro e w' ⟨rfl, rfl⟩
      by_cases q2 : 0 ≤ b ∧ b < (i : Int)
      · rw [decide_eq_true q2]
        go_wp2_with fail
        go_ret
        exact ⟨by simp [gateB, idxB]; omega, HB.out⟩
      · rw [decide_eq_false q2]
        go_wp2_with fail
        go_ret
        exact ⟨by simp [gateB, idxB]; omega, HB.out⟩
    · rw [decide_eq_false q]
      go_wp2_with fail
      go_ret
      exact ⟨by simp [gateB, idxB]; omega, HB.out⟩
  have T3 : (k == 3) = false := by simpa using k3
  go_enter Tryd.func92, Tryd.ntmps92
  go_wp2_with fail
  go_ret
  exact ⟨by simp [gateB, k0, k1, k2, k3], HB.out⟩
set_option maxHeartbeats 2000000 in
theorem l07Gate_any (g : G3) (hg : GW g) (i : Nat) (hi : i ≤ 600) (n : Int) (hn : 0 ≤ n ∧ n ≤ 16) (w : World) :
    Calls Tryd.prog 103 #[gv g, .int .i64 n, .int .i64 (i : Int)] w fun e w' => e = .returned (.bool (gateB n i g)) ∧ Below w.heap.size w w' := by
  obtain ⟨k, a, b⟩ := g
  obtain ⟨hk, ha, hb⟩ := hg
  simp only at hk ha hb
  have HB := Lib.hid (nw1 w (.cells #[.int .i8 k, .int .i16 a, .int .i16 b] 67)).2.1
  have cv : wrap64 a = a := IntWalk.wrap64_in a (by omega)
  have cv2 : wrap64 b = b := IntWalk.wrap64_in b (by omega)
  have cv3 : wrap64 (n - 1) = n - 1 := IntWalk.wrap64_in _ (by omega)
  have cv4 : wrap64 ((i : Int) - 1) = (i : Int) - 1 := IntWalk.wrap64_in _ (by omega)
  by_cases k0 : k = 0
  · subst k0
    have T0 : ((0 : Int) == 0) = true := rfl
    go_enter Tryd.func103, Tryd.ntmps103
    go_wp2_with fail
    refine (inC_any a 0 (n - 1) _).mono ?_
    rintro e w' ⟨rfl, rfl⟩
    by_cases q : 0 ≤ a ∧ a ≤ n - 1
    · rw [decide_eq_true q]
      by_cases b0 : b = 0
      · subst b0
        have T1 : ((0 : Int) == 0) = true := rfl
        go_wp2_with fail
        go_ret
        exact ⟨by simp [gateB, idxB]; omega, HB.out⟩
      · have T1 : (b == 0) = false := by simpa using b0
        go_wp2_with fail
        go_ret
        exact ⟨by simp [gateB, idxB, b0], HB.out⟩
    · rw [decide_eq_false q]
      go_wp2_with fail
      go_ret
      exact ⟨by simp [gateB, idxB]; omega, HB.out⟩
  have T0 : (k == 0) = false := by simpa using k0
  by_cases k1 : k = 1
  · subst k1
    have T1 : ((1 : Int) == 1) = true := rfl
    by_cases a0 : a = 0
    · subst a0
      have A0 : ((0 : Int) == 0) = true := rfl
      by_cases b0 : b = 0
      · subst b0
        go_enter Tryd.func103, Tryd.ntmps103
        go_wp2_with fail
        go_ret
        exact ⟨by simp [gateB], HB.out⟩
      · have B0 : (b == 0) = false := by simpa using b0
        go_enter Tryd.func103, Tryd.ntmps103
        go_wp2_with fail
        go_ret
        exact ⟨by simp [gateB, b0], HB.out⟩
    · have A0 : (a == 0) = false := by simpa using a0
      go_enter Tryd.func103, Tryd.ntmps103
      go_wp2_with fail
      go_ret
      exact ⟨by simp [gateB, a0], HB.out⟩
  have T1 : (k == 1) = false := by simpa using k1
  by_cases k2 : k = 2
  · subst k2
    have T2 : ((2 : Int) == 2) = true := rfl
    go_enter Tryd.func103, Tryd.ntmps103
    go_wp2_with fail
    refine (inC_any a 0 ((i : Int) - 1) _).mono ?_
    rintro e w' ⟨rfl, rfl⟩
    by_cases q : 0 ≤ a ∧ a ≤ (i : Int) - 1
    · rw [decide_eq_true q]
      go_wp2_with fail
      refine (inC_any b 0 ((i : Int) - 1) _).mono ?_
      rintro e w' ⟨rfl, rfl⟩
      by_cases q2 : 0 ≤ b ∧ b ≤ (i : Int) - 1
      · rw [decide_eq_true q2]
        go_wp2_with fail
        go_ret
        exact ⟨by simp [gateB, idxB]; omega, HB.out⟩
      · rw [decide_eq_false q2]
        go_wp2_with fail
        go_ret
        exact ⟨by simp [gateB, idxB]; omega, HB.out⟩
    · rw [decide_eq_false q]
      go_wp2_with fail
      go_ret
      exact ⟨by simp [gateB, idxB]; omega, HB.out⟩
  have T2 : (k == 2) = false := by simpa using k2
  by_cases k3 : k = 3
  · subst k3
    have T3 : ((3 : Int) == 3) = true := rfl
    go_enter Tryd.func103, Tryd.ntmps103
    go_wp2_with fail
    refine (inC_any a 0 ((i : Int) - 1) _).mono ?_
    rintro e w' ⟨rfl, rfl⟩
    by_cases q : 0 ≤ a ∧ a ≤ (i : Int) - 1
    · rw [decide_eq_true q]
      go_wp2_with fail
      refine (inC_any b 0 ((i : Int) - 1) _).mono ?_
      rintro e w' ⟨rfl, rfl⟩
      by_cases q2 : 0 ≤ b ∧ b ≤ (i : Int) - 1
      · rw [decide_eq_true q2]
        go_wp2_with fail
        go_ret
        exact ⟨by simp [gateB, idxB]; omega, HB.out⟩
      · rw [decide_eq_false q2]
        go_wp2_with fail
        go_ret
        exact ⟨by simp [gateB, idxB]; omega, HB.out⟩
    · rw [decide_eq_false q]
      go_wp2_with fail
      go_ret
      exact ⟨by simp [gateB, idxB]; omega, HB.out⟩
  have T3 : (k == 3) = false := by simpa using k3
  go_enter Tryd.func103, Tryd.ntmps103
  go_wp2_with fail
  go_ret
  exact ⟨by simp [gateB, k0, k1, k2, k3], HB.out⟩
end Go.Proofs.YtedcfmdgcafnmaaDoor
