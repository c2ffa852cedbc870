/-
  Is a matrix valid.
-/
import Derived.Test.YtklddmmbbaaliaaDoorMat2
import Derived.Test.YtklddmmbbaaliaaDoorArr
namespace Go.Proofs.YtklddmmbbaaliaaDoor
set_option linter.unusedVariables false
set_option linter.unusedSimpArgs false
open Go.ChangeShapes Go.WideShapes Go.ChangeAt Go.RowKit

def inSide (n : Int) : Bool := decide (1 ≤ n ∧ n ≤ 6)
theorem in_side (n : Int) (w : World) : Calls Tryd.prog 85 #[.int .i64 n, .int .i64 1, .int .i64 6] w fun e w' => e = .returned (.bool (inSide n)) ∧ w' = w := by
  by_cases h1 : 1 ≤ n <;> by_cases h2 : n ≤ 6
  · have e : inSide n = true := by unfold inSide; simp [h1, h2]
    rw [e]; clear e
    have t1 : decide (1 ≤ n) = true := by simpa using h1
    have t2 : decide (n ≤ 6) = true := by simpa using h2
    go_enter Tryd.func85, Tryd.ntmps85
    go_wp2_with fail
    go_ret
    exact ⟨rfl, rfl⟩
  · have e : inSide n = false := by unfold inSide; simp [h2]
    rw [e]; clear e
    have t1 : decide (1 ≤ n) = true := by simpa using h1
    have t2 : decide (n ≤ 6) = false := by simpa using h2
    go_enter Tryd.func85, Tryd.ntmps85
    go_wp2_with fail
    go_ret
    exact ⟨rfl, rfl⟩
  all_goals
    have e : inSide n = false := by unfold inSide; simp [h1]
    rw [e]; clear e
    have t1 : decide (1 ≤ n) = false := by simpa using h1
    go_enter Tryd.func85, Tryd.ntmps85
    go_wp2_with fail
    go_ret
    exact ⟨rfl, rfl⟩
theorem is_side (n : Int) (w : World) : Calls Tryd.prog 103 #[.int .i64 n] w fun e w' => e = .returned (.bool (inSide n)) ∧ w' = w := by
  by_cases h1 : 1 ≤ n <;> by_cases h2 : n ≤ 6
  · have e : inSide n = true := by unfold inSide; simp [h1, h2]
    rw [e]; clear e
    have t1 : decide (1 ≤ n) = true := by simpa using h1
    have t2 : decide (n ≤ 6) = true := by simpa using h2
    go_enter Tryd.func103, Tryd.ntmps103
    go_wp2_with fail
    go_ret
    exact ⟨rfl, rfl⟩
  · have e : inSide n = false := by unfold inSide; simp [h2]
    rw [e]; clear e
    have t1 : decide (1 ≤ n) = true := by simpa using h1
    have t2 : decide (n ≤ 6) = false := by simpa using h2
    go_enter Tryd.func103, Tryd.ntmps103
    go_wp2_with fail
    go_ret
    exact ⟨rfl, rfl⟩
  all_goals
    have e : inSide n = false := by unfold inSide; simp [h1]
    rw [e]; clear e
    have t1 : decide (1 ≤ n) = false := by simpa using h1
    go_enter Tryd.func103, Tryd.ntmps103
    go_wp2_with fail
    go_ret
    exact ⟨rfl, rfl⟩

def okB (r c : Int) (f : Nat → Int) : Bool := inSide r && (inSide c && decide (∀ i : Nat, i < 6 → ∀ k : Nat, k < 6 → (r ≤ (i : Int) ∨ c ≤ (k : Int)) → f (i * 6 + k) = 0))
/-- all cells ahead of (i, k) are as they should be -/
def seen (r c : Int) (f : Nat → Int) (i k : Nat) : Prop := ∀ i' k' : Nat, (i' < i ∨ i' = i ∧ k' < k) → k' < 6 → (r ≤ (i' : Int) ∨ c ≤ (k' : Int)) → f (i' * 6 + k') = 0
theorem seen_next {r c : Int} {f : Nat → Int} {i k : Nat} (h : seen r c f i k) (hn : (r ≤ (i : Int) ∨ c ≤ (k : Int)) → f (i * 6 + k) = 0) : seen r c f i (k + 1) := fun i' k' h1 h2 h3 => by
  rcases Nat.lt_or_ge k' k with hk | hk
  · exact h i' k' (by omega) h2 h3
  · rcases h1 with h1 | ⟨rfl, h1⟩
    · exact h i' k' (by omega) h2 h3
    · obtain rfl : k' = k := by omega
      exact hn h3
theorem seen_row {r c : Int} {f : Nat → Int} {i : Nat} (h : seen r c f i 6) : seen r c f (i + 1) 0 := fun i' k' h1 h2 h3 => h i' k' (by omega) h2 h3
theorem ok_yes {r c : Int} {f : Nat → Int} (h1 : inSide r = true) (h2 : inSide c = true) (h : seen r c f 6 0) : okB r c f = true := by
  unfold okB
  rw [h1, h2, Bool.true_and, Bool.true_and, decide_eq_true_eq]
  exact fun i hi k hk ho => h i k (by omega) hk ho
theorem ok_no {r c : Int} {f : Nat → Int} {i k : Nat} (hi : i < 6) (hk : k < 6) (ho : r ≤ (i : Int) ∨ c ≤ (k : Int)) (hz : f (i * 6 + k) ≠ 0) : okB r c f = false := by
  unfold okB
  have : decide (∀ i : Nat, i < 6 → ∀ k : Nat, k < 6 → (r ≤ (i : Int) ∨ c ≤ (k : Int)) → f (i * 6 + k) = 0) = false := decide_eq_false (fun h => hz (h i hi k hk ho))
  rw [this, Bool.and_false, Bool.and_false]
theorem MB.cell2 {w : World} {g : Nat} {t : TypeId} {r c : Int} {f : Nat → Int} (h : MB w g t r c f) (i k : Nat) (hi : i < 6) (hk : k < 6) : w.cell? ⟨g, 2 + i * 6 + k, none⟩ = some (.int .u16 (f (i * 6 + k))) := by
  rw [Nat.add_assoc]; exact h.cell _ (by omega)
set_option maxRecDepth 100000 in
set_option maxHeartbeats 1000000 in
theorem l02Ok_any (r c : Int) (f : Nat → Int) (hm : MW r c f) (g : Nat) (t : TypeId) (w : World) (hM : MB w g t r c f) : Calls Tryd.prog 97 #[.pointer (some ⟨g, 0, none⟩)] w fun e w' => e = .returned (.bool (okB r c f)) ∧ w' = w := by
  have c0 := hM.rows
  have c1 := hM.cols
  have hr := hm.1
  have hr' := hm.2.1
  have hc := hm.2.2.1
  have hc' := hm.2.2.2.1
  have HM := Lib.hid hM
  have HW := Lib.hid hm.2.2.2.2
  clear hM hm
  by_cases h1 : inSide r = true
  · by_cases h2 : inSide c = true
    · go_enter Tryd.func97, Tryd.ntmps97
      go_wp2_with (first | (go_at_call 85; refine (in_side _ _).mono ?_; rintro e w' ⟨rfl, rfl⟩))
      go_loopw [3] (fun p wr => ∃ (i : Nat), p = .int .i64 i ∧ i ≤ 6 ∧ Hid (seen r c f i 0) ∧ wr = w') (fun p _ => (6 - intOf p).toNat)
      case atStart => exact ⟨0, rfl, by omega, Lib.hid (fun _ _ h _ _ => by omega), rfl⟩
      case round =>
        obtain ⟨i, rfl, hi, hs, rfl⟩ := hrel
        by_cases hlt : i < 6
        · have T1 : decide ((i : Int) < 6) = true := by simp; omega
          go_wp2_with fail
          go_loopw [4] (fun p wr' => ∃ (k : Nat), p = .int .i64 k ∧ k ≤ 6 ∧ Hid (seen r c f i k) ∧ wr' = wr) (fun p _ => (6 - intOf p).toNat)
          case atStart => exact ⟨0, rfl, by omega, hs, rfl⟩
          case round =>
            obtain ⟨k, rfl, hk, hs, rfl⟩ := hrel
            by_cases hlk : k < 6
            · have T2 : decide ((k : Int) < 6) = true := by simp; omega
              have cc := HM.out.cell2 i k hlt hlk
              have bb := HW.out (i * 6 + k)
              by_cases o1 : r ≤ (i : Int)
              · have t1 : decide (r ≤ (i : Int)) = true := decide_eq_true o1
                by_cases z : f (i * 6 + k) = 0
                · have t3 : (f (i * 6 + k) != 0) = false := by simp [z]
                  go_wp2_with fail
                  exact ⟨⟨k + 1, rfl, by omega, Lib.hid (seen_next hs.out (fun _ => z)), trivial⟩, by simp [intOf]; omega⟩
                · have t3 : (f (i * 6 + k) != 0) = true := by simp [z]
                  go_wp2_with fail
                  go_ret
                  exact ⟨congrArg (fun b => Ending.returned (.bool b)) (ok_no hlt hlk (.inl o1) z).symm, rfl⟩
              · have t1 : decide (r ≤ (i : Int)) = false := decide_eq_false o1
                by_cases o2 : c ≤ (k : Int)
                · have t2 : decide (c ≤ (k : Int)) = true := decide_eq_true o2
                  by_cases z : f (i * 6 + k) = 0
                  · have t3 : (f (i * 6 + k) != 0) = false := by simp [z]
                    go_wp2_with fail
                    exact ⟨⟨k + 1, rfl, by omega, Lib.hid (seen_next hs.out (fun _ => z)), trivial⟩, by simp [intOf]; omega⟩
                  · have t3 : (f (i * 6 + k) != 0) = true := by simp [z]
                    go_wp2_with fail
                    go_ret
                    exact ⟨congrArg (fun b => Ending.returned (.bool b)) (ok_no hlt hlk (.inr o2) z).symm, rfl⟩
                · have t2 : decide (c ≤ (k : Int)) = false := decide_eq_false o2
                  clear cc
                  go_wp2_with fail
                  exact ⟨⟨k + 1, rfl, by omega, Lib.hid (seen_next hs.out (fun h => absurd h (by omega))), trivial⟩, by simp [intOf]; omega⟩
            · obtain rfl : k = 6 := by omega
              have T2 : decide (((6 : Nat) : Int) < 6) = false := by simp
              go_wp2_with fail
              exact ⟨⟨i + 1, rfl, by omega, Lib.hid (seen_row hs.out), trivial⟩, by simp [intOf]; omega⟩
        · obtain rfl : i = 6 := by omega
          have T2 : decide (((6 : Nat) : Int) < 6) = false := by simp
          go_wp2_with fail
          go_ret
          exact ⟨congrArg (fun b => Ending.returned (.bool b)) (ok_yes h1 h2 hs.out).symm, rfl⟩
    · have h2' : inSide c = false := by simpa using h2
      clear h2
      have e : okB r c f = false := by unfold okB; rw [h2']; simp
      rw [e]; clear e
      go_enter Tryd.func97, Tryd.ntmps97
      go_wp2_with (first | (go_at_call 85; refine (in_side _ _).mono ?_; rintro e w' ⟨rfl, rfl⟩))
      go_ret
      exact ⟨rfl, rfl⟩
  · have h1' : inSide r = false := by simpa using h1
    clear h1
    have e : okB r c f = false := by unfold okB; rw [h1']; simp
    rw [e]; clear e
    go_enter Tryd.func97, Tryd.ntmps97
    go_wp2_with (first | (go_at_call 85; refine (in_side _ _).mono ?_; rintro e w' ⟨rfl, rfl⟩))
    go_ret
    exact ⟨rfl, rfl⟩
/-- a vector fits so many cells -/
def fitB (c : Nat) (f : Nat → Int) : Bool := decide (∀ k : Nat, k < 6 → c ≤ k → f k = 0)
theorem fit_cells (c : Nat) (hc : c ≤ 6) (f : Nat → Int) : ((TL 6 fun _ => 0).take 0 ++ (TL c f ++ (TL 6 fun _ => 0).drop (0 + c))).toArray = (TL 6 fun k => if k < c then f k else 0).toArray := by
  congr 1
  apply List.ext_getElem?
  intro i
  rw [List.take_zero, List.nil_append, Nat.zero_add, List.getElem?_append, TL_len]
  by_cases h1 : i < c
  · rw [if_pos h1, TL_at c f i h1, TL_at 6 _ i (by omega), if_pos h1]
  · rw [if_neg h1, List.getElem?_drop, show c + (i - c) = i from by omega]
    by_cases h2 : i < 6
    · rw [TL_at 6 _ i h2, TL_at 6 _ i h2, if_neg h1]
    · rw [List.getElem?_eq_none (by rw [TL_len]; omega), List.getElem?_eq_none (by rw [TL_len]; omega)]
theorem fit_eq (c : Nat) (f : Nat → Int) : ((List.range 6).all fun i => (if i < c then f i else 0) == f i) = fitB c f := by
  rw [all_dec 6 (fun k => if k < c then f k else 0) f]
  unfold fitB
  rw [decide_eq_decide]
  constructor
  · intro h k hk hck
    have := h k hk
    rw [if_neg (by omega)] at this
    exact this.symm
  · intro h k hk
    by_cases e : k < c
    · rw [if_pos e]
    · rw [if_neg e, h k hk (by omega)]
set_option maxRecDepth 100000 in
theorem fits_any (f : Nat → Int) (hf : VW f) (c : Nat) (hc : c ≤ 6) (w : World) : Calls Tryd.prog 129 #[VV f, .int .i8 c] w fun e w' => e = .returned (.bool (fitB c f)) ∧ Below w.heap.size w w' := by
  go_enter Tryd.func129, Tryd.ntmps129
  go_upto_region 2 with fail
  obtain ⟨a1, a2, a4, _⟩ := new2 w (.cells (TL 6 f).toArray 153) (.cells (TL 6 fun _ => 0).toArray 153)
  rw [zero6]
  obtain ⟨g, hg⟩ : ∃ g, g = w.heap.size := ⟨_, rfl⟩
  rw [← hg] at a1 a2 a4 ⊢
  generalize World.alloc (World.alloc w _) _ = w2 at a1 a2 a4 ⊢
  replace a1 : RB w2 g 153 6 f := a1
  replace a2 : RB w2 (g + 1) 153 6 (fun _ => 0) := a2
  have HG := Lib.hid hg
  have t1 : (c : Int) ≤ 6 := by omega
  clear hg
  refine wp_region_still_tail 3 (by kernel_rfl) (by kernel_rfl) ?_
  simp only [List.take_succ_cons, List.take_zero, List.drop_succ_cons, List.drop_zero]
  still_step
  still_step
  still_step
  refine wpStill_nil ?_
  change wpList _ _ _ _ _ w2.drew
  refine wpList_copy_own rfl _ _ 31 31 rfl 24 (by kernel_rfl) (by kernel_rfl) (g + 1) 0 c 6 ⟨g, 0, none⟩ 6 6 rfl rfl (TL 6 fun _ => 0).toArray 153 a2 (TL c f) (by rw [TL_len]; exact (Nat.min_eq_right hc).symm) ?_ ?_ (fun v hv => by simp [TL] at hv; obtain ⟨_, _, rfl⟩ := hv; rfl) ?_
  · intro j v hv
    have hj : j < c := by have := (List.getElem?_eq_some_iff.1 hv).1; rw [TL_len] at this; exact this
    rw [TL_at c f j hj] at hv
    rw [Addr.add_mid, Nat.zero_add]
    exact (a1.cell j (by omega)).trans hv
  · rw [TL_len, List.size_toArray, TL_len]; omega
  rw [TL_len, show (TL 6 fun _ => 0).toArray.toList = TL 6 fun _ => 0 from rfl, fit_cells c hc f]
  have b1 := a1.setRow_other (b := g + 1) (by omega) (TL 6 fun k => if k < c then f k else 0).toArray
  have b2 := a2.setRow (fun k => if k < c then f k else 0)
  have b3 := Below.setRow a4 (Nat.le_succ g) (TL 6 fun k => if k < c then f k else 0).toArray
  clear a1 a2 a4
  rw [show w2.drew.setRow (g + 1) (TL 6 fun k => if k < c then f k else 0).toArray = (w2.setRow (g + 1) (TL 6 fun k => if k < c then f k else 0).toArray).drew from rfl]
  generalize w2.setRow (g + 1) (TL 6 fun k => if k < c then f k else 0).toArray = w3 at b1 b2 b3 ⊢
  have hE := Lib.hid (show (Op.equal 153 (.agg (TL 6 fun k => if k < c then f k else 0).toArray) (.agg (TL 6 f).toArray)).run Tryd.prog w3.drew = .ok (fitB c f) w3.drew from by
    rw [← fit_eq c f]
    exact equal_vec (t := 153) (e := 24) 6 9998 (by kernel_rfl) (by kernel_rfl) (by kernel_rfl) _ _)
  go_wp2_with (first | (guard_target =~ wpList _ _ _ (⟨_, Op.load 153 (Operand.tmp 5), _, _, _, _⟩ :: _) _ _; refine wpList_load_row rfl 153 _ rfl (g + 1) rfl _ (TL 6 fun k => if k < c then f k else 0).toArray (0, 0) (.array 6 24) b2 (by kernel_rfl) rfl (by kernel_rfl) ?_) | (guard_target =~ wpList _ _ _ (⟨_, Op.load 153 (Operand.tmp 2), _, _, _, _⟩ :: _) _ _; refine wpList_load_row rfl 153 _ rfl g rfl _ (TL 6 f).toArray (0, 0) (.array 6 24) b1 (by kernel_rfl) rfl (by kernel_rfl) ?_) | (guard_target =~ wpList _ _ _ (⟨_, Op.binOp BinOp.eql 153 _ _ _, _, _, _, _⟩ :: _) _ _; refine wpList_eql_agg rfl .eql 153 _ _ _ rfl (.inl rfl) (fitB c f) _ _ rfl rfl (by kernel_rfl) hE.out ?_))
  go_ret
  obtain rfl := HG.out
  exact ⟨rfl, b3.drew⟩

def fitAll (r c : Nat) (f : Nat → Int) (i : Nat) : Prop := ∀ i', i' < i → fitB (if i' < r then c else 0) (fun k => f (i' * 6 + k)) = true
theorem okB_fit (r c : Nat) (f : Nat → Int) (hr : inSide r = true) (hc : inSide c = true) (h : fitAll r c f 6) : okB r c f = true := by
  refine ok_yes hr hc (fun i k h1 h2 h3 => ?_)
  have hi : i < 6 := by omega
  have := h i hi
  unfold fitB at this
  rw [decide_eq_true_eq] at this
  exact this k h2 (by by_cases e : i < r <;> simp [e] <;> omega)
theorem okB_unfit (r c : Nat) (f : Nat → Int) (i : Nat) (hi : i < 6) (h : fitB (if i < r then c else 0) (fun k => f (i * 6 + k)) = false) : okB r c f = false := by
  unfold fitB at h
  rw [decide_eq_false_iff_not] at h
  rcases hb : okB (r : Int) (c : Int) f with _ | _
  · rfl
  · exfalso
    apply h
    intro k hk hck
    unfold okB at hb
    simp only [Bool.and_eq_true, decide_eq_true_eq] at hb
    refine hb.2.2 i hi k hk ?_
    by_cases e : i < r
    · rw [if_pos e] at hck; right; omega
    · left; omega
end Go.Proofs.YtklddmmbbaaliaaDoor
