/-
  slices.Sort of two nimbers.
-/
import Derived.Test.YtjbaeomjinnlhaaMarkM
import Derived.Test.YtjbaeomjinnlhaaShelf
import Derived.Deep.QuietTactic
import Derived.BigQuiet
import Derived.Deep.RegionWith
namespace Go.Proofs.Ytjbaeomjinnlhaa
set_option linter.unusedVariables false
set_option linter.unusedSimpArgs false
open Go.ChangeShapes Go.WideShapes Go.ChangeAt Go.RowKit
theorem isNaN_any (x : Int) (w : World) : Calls Try.prog 190 #[.int .u16 x] w fun e w' => e = .returned (.bool false) ∧ w = w' := by
  have T : (x != x) = false := by simp
  go_enter Try.func190, Try.ntmps190
  go_wp2_with fail
  go_ret
  exact ⟨rfl, rfl⟩
theorem less_any (x y : Int) (w : World) : Calls Try.prog 179 #[.int .u16 x, .int .u16 y] w fun e w' => e = .returned (.bool (decide (x < y))) ∧ w' = w := by
  go_enter Try.func179, Try.ntmps179
  go_wp2_with fail
  refine (isNaN_any _ _).mono ?_
  rintro e w' ⟨rfl, rfl⟩
  go_wp2_with fail
  go_ret
  exact ⟨rfl, rfl⟩
theorem grown_drewN (w : World) (n : Nat) (r : Option Nat) : w.grownBy (w.drewN n) r := by
  have h := bdrewN (Below.refl w.heap.size w) n
  exact ⟨h.os, h.tape, h.output, h.size, fun k hk _ => h.block k hk⟩
def Swapped (b : Nat) (x y : Int) (w w' : World) : Prop := ∃ n m, w' = (((w.drewN n).setCell ⟨b, 1, none⟩ (.int .u16 x)).setCell ⟨b, 0, none⟩ (.int .u16 y)).drewN m
theorem Swapped.drewN {b : Nat} {x y : Int} {w w' : World} (h : Swapped b x y w w') (k : Nat) : Swapped b x y w (w'.drewN k) := by
  obtain ⟨n, m, h⟩ := h
  exact ⟨n, m + k, by rw [h]; simp⟩
set_option maxRecDepth 100000 in
set_option maxHeartbeats 1000000 in
theorem insert2_swap (b c : Nat) (x y : Int) (w : World) (hyx : y < x) (h0 : w.cell? ⟨b, 0, none⟩ = some (.int .u16 x)) (h1 : w.cell? ⟨b, 1, none⟩ = some (.int .u16 y)) (f0 : w.frozen? ⟨b, 0, none⟩ = false) (f1 : w.frozen? ⟨b, 1, none⟩ = false) :
    Calls Try.prog 173 #[.slice (some ⟨b, 0, none⟩) 2 c, .int .i64 0, .int .i64 2] w fun e w' => (∃ v, e = .returned v) ∧ Swapped b x y w w' := by
  have T1 : decide (y < x) = true := by simpa using hyx
  go_enter Try.func173, Try.ntmps173
  go_wp2_with fail
  go_loopw [6] (fun i wr => (i = .int .i64 1 ∧ w = wr) ∨ (i = .int .i64 2 ∧ Hid (Swapped b x y w wr))) (fun i _ => (2 - intOf i).toNat)
  case atStart => exact .inl ⟨rfl, rfl⟩
  case round =>
    rcases hrel with ⟨rfl, rfl⟩ | ⟨rfl, HS⟩
    · go_wp2_with fail
      go_loopw [7] (fun j wr => (j = .int .i64 1 ∧ w = wr) ∨ (j = .int .i64 0 ∧ Hid (Swapped b x y w wr))) (fun j _ => (intOf j).toNat)
      case atStart => exact .inl ⟨rfl, rfl⟩
      case round =>
        rcases hrel with ⟨rfl, rfl⟩ | ⟨rfl, HS⟩
        · go_wp2_with fail
          have s0 : IntKind.i64.wrap ((1 : Int) - 1) = 0 := by decide
          go_quiet ((go_at_call 179; exact Calls.quiet_of_same (less_any _ _ _)))
          go_wp2_with fail
          have q0 : (w.drewN nq).cell? ⟨b, 0, none⟩ = some (.int .u16 x) := by simpa using h0
          have q1 : (w.drewN nq).cell? ⟨b, 1, none⟩ = some (.int .u16 y) := by simpa using h1
          have p0 : (w.drewN nq).frozen? ⟨b, 0, none⟩ = false := by simpa using f0
          have p1 : (w.drewN nq).frozen? ⟨b, 1, none⟩ = false := by simpa using f1
          clear h0 h1 f0 f1
          generalize hw1 : w.drewN nq = w1 at q0 q1 p0 p1 ⊢
          have HW := Lib.hid hw1
          clear hw1
          go_region
          have HS2 : Hid (Swapped b x y w (((w1.setCell ⟨b, 1, none⟩ (.int .u16 x)).setCell ⟨b, 0, none⟩ (.int .u16 y)).drew)) := Lib.hid ⟨nq, 1, by rw [HW.out]; rfl⟩
          clear q0 q1 p0 p1
          generalize ((w1.setCell ⟨b, 1, none⟩ (.int .u16 x)).setCell ⟨b, 0, none⟩ (.int .u16 y)).drew = w2 at HS2 ⊢
          go_wp2_with fail
          exact ⟨.inr ⟨rfl, HS2⟩, by simp [intOf]⟩
        · go_wp2_with fail
          go_quiet (fail)
          go_wp2_with fail
          have HS2 := Lib.hid (show Swapped b x y w (wr.drewN nq) from HS.out.drewN nq)
          exact ⟨.inr ⟨rfl, HS2⟩, by simp [intOf]⟩
    · go_wp2_with fail
      go_end0
      exact ⟨⟨_, rfl⟩, HS.out⟩
set_option maxRecDepth 100000 in
set_option maxHeartbeats 1000000 in
theorem insert2_keep (b c : Nat) (x y : Int) (w : World) (hyx : ¬ y < x) (h0 : w.cell? ⟨b, 0, none⟩ = some (.int .u16 x)) (h1 : w.cell? ⟨b, 1, none⟩ = some (.int .u16 y)) :
    Calls Try.prog 173 #[.slice (some ⟨b, 0, none⟩) 2 c, .int .i64 0, .int .i64 2] w fun e w' => (∃ v, e = .returned v) ∧ ∃ n, w' = w.drewN n := by
  have T1 : decide (y < x) = false := by simpa using hyx
  go_enter Try.func173, Try.ntmps173
  go_wp2_with fail
  go_loopw [6] (fun i wr => (i = .int .i64 1 ∧ w = wr) ∨ (i = .int .i64 2 ∧ Hid (∃ n, wr = w.drewN n))) (fun i _ => (2 - intOf i).toNat)
  case atStart => exact .inl ⟨rfl, rfl⟩
  case round =>
    rcases hrel with ⟨rfl, rfl⟩ | ⟨rfl, HS⟩
    · go_wp2_with fail
      go_loopw [7] (fun j wr => j = .int .i64 1 ∧ w = wr) (fun j _ => (intOf j).toNat)
      case atStart => exact ⟨rfl, rfl⟩
      case round =>
        obtain ⟨rfl, rfl⟩ := hrel
        go_wp2_with fail
        have s0 : IntKind.i64.wrap ((1 : Int) - 1) = 0 := by decide
        go_quiet ((go_at_call 179; exact Calls.quiet_of_same (less_any _ _ _)))
        go_wp2_with fail
        exact ⟨.inr ⟨rfl, Lib.hid ⟨nq, rfl⟩⟩, by simp [intOf]⟩
    · go_wp2_with fail
      go_end0
      exact ⟨⟨_, rfl⟩, HS.out⟩
/-- two nimbers in ascending order -/
def srt2 (x y : Int) : List Int := if y < x then [y, x] else [x, y]
theorem setTwo {w : World} {B b c : Nat} {x y u v : Int} (h : w.ownsRow B 29 1 (.slice (some ⟨b, 0, none⟩) 2 c) 2 (u16s [x, y])) :
    ((w.setCell ⟨b, 1, none⟩ (.int .u16 v)).setCell ⟨b, 0, none⟩ (.int .u16 u)).ownsRow B 29 1 (.slice (some ⟨b, 0, none⟩) 2 c) 2 (u16s [u, v]) := by
  have h1 := (h.stored 1 (.int .u16 v)).1
  have h2 := (h1.stored 0 (.int .u16 u)).1
  exact h2
set_option maxRecDepth 100000 in
set_option maxHeartbeats 1000000 in
theorem insert2_any (B b c : Nat) (x y : Int) (w : World) (h : w.ownsRow B 29 1 (.slice (some ⟨b, 0, none⟩) 2 c) 2 (u16s [x, y])) :
    Calls Try.prog 173 #[.slice (some ⟨b, 0, none⟩) 2 c, .int .i64 0, .int .i64 2] w fun e w' => (∃ v, e = .returned v) ∧ w'.ownsRow B 29 1 (.slice (some ⟨b, 0, none⟩) 2 c) 2 (u16s (srt2 x y)) ∧ w.grownBy w' (some b) := by
  have h0 : w.cell? ⟨b, 0, none⟩ = some (.int .u16 x) := h.cellAt 0 (by omega)
  have h1 : w.cell? ⟨b, 1, none⟩ = some (.int .u16 y) := h.cellAt 1 (by omega)
  by_cases hyx : y < x
  · refine (insert2_swap b c x y w hyx h0 h1 (h.frozenAt 0) (h.frozenAt 1)).mono ?_
    rintro e w' ⟨hv, n, m, rfl⟩
    have hd : (w.drewN n).ownsRow B 29 1 (.slice (some ⟨b, 0, none⟩) 2 c) 2 (u16s [x, y]) := own_below h (bdrewN (Below.refl _ w) n)
    refine ⟨hv, own_below (by unfold srt2; rw [if_pos hyx]; exact setTwo hd) (bdrewN (Below.refl _ _) m), ?_⟩
    exact grown_trans (grown_trans (grown_trans (grown_drewN w n _) (grown_put _ b 1 _)) (grown_put _ b 0 _)) (grown_drewN _ m _)
  · refine (insert2_keep b c x y w hyx h0 h1).mono ?_
    rintro e w' ⟨hv, n, rfl⟩
    refine ⟨hv, own_below (by unfold srt2; rw [if_neg hyx]; exact h) (bdrewN (Below.refl _ w) n), grown_drewN w n _⟩
set_option maxRecDepth 100000 in
set_option maxHeartbeats 1000000 in
theorem pdq2_any (B b c : Nat) (x y L : Int) (w : World) (h : w.ownsRow B 29 1 (.slice (some ⟨b, 0, none⟩) 2 c) 2 (u16s [x, y])) :
    Calls Try.prog 163 #[.slice (some ⟨b, 0, none⟩) 2 c, .int .i64 0, .int .i64 2, .int .i64 L] w fun e w' => (∃ v, e = .returned v) ∧ w'.ownsRow B 29 1 (.slice (some ⟨b, 0, none⟩) 2 c) 2 (u16s (srt2 x y)) ∧ w.grownBy w' (some b) := by
  have H := Lib.hid h
  clear h
  go_enter Try.func163, Try.ntmps163
  go_wp2_with fail
  go_loopw [1, 2] (fun a y wr => a = .int .i64 0 ∧ y = .int .i64 2 ∧ w = wr) (fun _ _ _ => 0)
  case atStart => exact ⟨rfl, rfl, rfl⟩
  case round =>
    obtain ⟨rfl, rfl, rfl⟩ := hrel
    go_wp2_with fail
    refine (insert2_any B b c x y _ H.out).mono ?_
    rintro e w1 ⟨⟨v, rfl⟩, ho, hg⟩
    have HO := Lib.hid ho
    have HG := Lib.hid hg
    clear ho hg
    go_wp2_with fail
    refine bodyPost_ret (results_none rfl _ _ _) rfl ?_
    exact ⟨⟨_, rfl⟩, HO.out, HG.out⟩
set_option maxHeartbeats 1000000 in
theorem sort2_any (B b c : Nat) (x y : Int) (w : World) (h : w.ownsRow B 29 1 (.slice (some ⟨b, 0, none⟩) 2 c) 2 (u16s [x, y])) :
    Calls Try.prog 141 #[.slice (some ⟨b, 0, none⟩) 2 c] w fun e w' => (∃ v, e = .returned v) ∧ w'.ownsRow B 29 1 (.slice (some ⟨b, 0, none⟩) 2 c) 2 (u16s (srt2 x y)) ∧ w.grownBy w' (some b) := by
  have H := Lib.hid h
  clear h
  go_enter Try.func141, Try.ntmps141
  go_wp2_with fail
  refine (Try.bits_Len 2 _ (by omega) (by omega)).mono ?_
  rintro e w1 ⟨rfl, rfl⟩
  go_wp2_with fail
  refine (pdq2_any B b c x y _ _ H.out).mono ?_
  rintro e w1 ⟨⟨v, rfl⟩, ho, hg⟩
  have HO := Lib.hid ho
  have HG := Lib.hid hg
  clear ho hg
  go_wp2_with fail
  go_end0
  exact ⟨⟨_, rfl⟩, HO.out, HG.out⟩
end Go.Proofs.Ytjbaeomjinnlhaa
