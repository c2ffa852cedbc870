/-
  Logarithms: the first powers in a map (the program), in a list (the model).
-/
import Derived.Test.YtklddmmbbaaliaaDoorLead
import Derived.Test.YtklddmmbbaaliaaDoorAlg
import Derived.Maps.OwnSet
import Derived.Maps.Views
import Derived.OwnWalk
namespace Go.Proofs.YtklddmmbbaaliaaDoor
set_option linter.unusedVariables false
set_option linter.unusedSimpArgs false
open Go.ChangeShapes Go.WideShapes Go.ChangeAt Go.RowKit Go.Maps

/-- the powers of x, one behind the other -/
def pj (x : Int) : Nat → Int
  | 0 => 1
  | j + 1 => mulI (pj x j) x
theorem pj_b (x : Int) (x1 : x < 65536) (j : Nat) : 0 ≤ pj x j ∧ pj x j < 65536 := by
  induction j with
  | zero => exact ⟨by show (0 : Int) ≤ 1; decide, by show (1 : Int) < 65536; decide⟩
  | succ j ih => exact mulI_b _ _ ih.2 x1
def isAt (x a : Int) (j : Nat) : Bool := decide (pj x j = a)
def idx (x a : Int) (k : Nat) : Option Nat := firstAt (isAt x a) k 0
theorem firstAt_snoc (p : Nat → Bool) : ∀ (f i : Nat), firstAt p (f + 1) i = match firstAt p f i with | some j => some j | none => bif p (i + f) then some (i + f) else none := by
  intro f
  induction f with
  | zero => intro i; rfl
  | succ f ih =>
    intro i
    rw [show firstAt p (f + 1 + 1) i = bif p i then some i else firstAt p (f + 1) (i + 1) from rfl, show firstAt p (f + 1) i = bif p i then some i else firstAt p f (i + 1) from rfl, ih (i + 1)]
    cases p i
    · simp only [cond_false]; rw [show i + 1 + f = i + (f + 1) from by omega]
    · rfl
theorem idx_some_keep {x a : Int} {k j : Nat} (h : idx x a k = some j) : idx x a (k + 1) = some j := by
  unfold idx at *; rw [firstAt_snoc, h]
theorem idx_none_hit {x a : Int} {k : Nat} (h : idx x a k = none) (e : pj x k = a) : idx x a (k + 1) = some k := by
  unfold idx at *; rw [firstAt_snoc, h]; simp [isAt, e]
theorem idx_none_miss {x a : Int} {k : Nat} (h : idx x a k = none) (e : ¬ pj x k = a) : idx x a (k + 1) = none := by
  unfold idx at *; rw [firstAt_snoc, h]; simp [isAt, e]
theorem idx_miss {x a : Int} {k : Nat} (e : ¬ pj x k = a) : idx x a (k + 1) = idx x a k := by
  cases h : idx x a k with
  | none => exact idx_none_miss h e
  | some j => exact idx_some_keep h
/-- D holds the least exponent, below k, of each power -/
def MF (D : DataW Unit) (x : Int) (k : Nat) : Prop :=
  IsMap D ∧ ∀ a : Int, 0 ≤ a → a < 65536 → Maps.has D (.int .u16 a) = (idx x a k).isSome ∧ ∀ j, idx x a k = some j → D.atKey (.int .u16 a) (.lit (.int .i64 0)) = .lit (.int .i64 j)
theorem isKey (a : Int) : WideAt.IsKeyLit (.int .u16 a) := trivial
theorem MF_zero (x : Int) : MF (.map []) x 0 := ⟨isMap_empty, fun a _ _ => ⟨rfl, fun j h => by cases h⟩⟩
theorem MF_skip {D : DataW Unit} {x : Int} {k : Nat} (h : MF D x k) (hx : x < 65536) (hf : Maps.has D (.int .u16 (pj x k)) = true) : MF D x (k + 1) := by
  have hs := (h.2 (pj x k) (pj_b x hx k).1 (pj_b x hx k).2).1
  rw [hf] at hs
  refine ⟨h.1, fun a a0 a1 => ?_⟩
  by_cases e : pj x k = a
  · subst e
    obtain ⟨j, hj⟩ := Option.isSome_iff_exists.1 hs.symm
    have h2 := h.2 _ a0 a1
    rw [idx_some_keep hj]
    rw [hj] at h2
    exact h2
  · rw [idx_miss e]; exact h.2 a a0 a1
theorem MF_put {D : DataW Unit} {x : Int} {k : Nat} (h : MF D x k) (hx : x < 65536) (hf : Maps.has D (.int .u16 (pj x k)) = false) : MF (D.put (.int .u16 (pj x k)) (.lit (.int .i64 k))) x (k + 1) := by
  have hs := (h.2 (pj x k) (pj_b x hx k).1 (pj_b x hx k).2).1
  rw [hf] at hs
  have hnone : idx x (pj x k) k = none := by
    cases e : idx x (pj x k) k with
    | none => rfl
    | some j => rw [e] at hs; cases hs
  refine ⟨h.1.put _ _, fun a a0 a1 => ?_⟩
  by_cases e : pj x k = a
  · subst e
    rw [has_put_same h.1 (isKey _), atKey_put_same h.1 (isKey _), idx_none_hit hnone rfl]
    exact ⟨rfl, fun j hj => by injection hj with hj; rw [hj]⟩
  · have hne : (Lit.int .u16 a) ≠ (Lit.int .u16 (pj x k)) := by intro e2; injection e2 with _ e3; exact e e3.symm
    rw [has_put_other hne, atKey_put_other hne, idx_miss e]
    exact h.2 a a0 a1

theorem keyed25 : Keyed Tryd.prog 24 := int_keyed Tryd.underlying24
theorem zero2 (w : World) : (zeroValue 2).run Tryd.prog w = .ok (.int .i64 0) w := by kernel_rfl
theorem wf16 {x : Int} (x0 : 0 ≤ x) (x1 : x < 65536) : (Lit.int .u16 x).wf = true := WalkArith.wf_u16 ⟨x0, by omega⟩
theorem wf64 {n : Nat} (h : n ≤ 1000000) : (Lit.int .i64 (n : Int)).wf = true := WalkArith.wf_i64 (by omega)

set_option maxRecDepth 100000 in
set_option maxHeartbeats 1000000 in
theorem firstPowers_any (x : Int) (x0 : 0 ≤ x) (x1 : x < 65536) (w : World) :
    Calls Tryd.prog 90 #[.int .u16 x] w fun e w' => e = .returned (.tuple #[.map (some w.heap.size), .int .u16 (pj x 256)]) ∧
      (∃ D, w'.ownsMap Tryd.prog 24 (plainElem Tryd.prog 2) w.heap.size 256 D ∧ MF D x 256) ∧ Below w.heap.size w w' := by
  have hmm := @run_makeMap Tryd.prog
  go_enter Tryd.func90, Tryd.ntmps90
  go_wp2_with fail
  go_loopw [5, 10] (fun p i wr => ∃ (y : Int) (k : Nat) (D : DataW Unit), p = .int .u16 y ∧ i = .int .i64 k ∧ k ≤ 256 ∧ 0 ≤ y ∧ y < 65536 ∧ Hid (y = pj x k) ∧ wr.ownsMap Tryd.prog 24 (plainElem Tryd.prog 2) w.heap.size k D ∧ Hid (MF D x k) ∧ Below w.heap.size w wr) (fun _ i _ => 256 - (intOf i).toNat)
  case atStart => exact ⟨1, 0, .map [], rfl, rfl, by omega, by omega, by omega, Lib.hid rfl, World.ownsMap_made _ _ _ _, Lib.hid (MF_zero x), (Below.refl _ _).alloc (Nat.le_refl _) _⟩
  case round =>
    obtain ⟨y, k, D, rfl, rfl, hk, y0, y1, hy, hown, hmf, hb⟩ := hrel
    by_cases hlt : k < 256
    · have hkey : keyOf Tryd.prog 24 (.int .u16 y) = some (.int .u16 y) := keyOf_int_mk Tryd.underlying24 (wf16 y0 y1)
      have hbs := hb.size
      have HB := Lib.hid hb; clear hb
      cases hf : Maps.has D (.int .u16 y) with
      | true =>
        have HF := Lib.hid hf; clear hf
        go_wp2_with (at_lookup; refine wpList_lookup_own_ok_int _ rfl _ _ 104 rfl 24 2 .i64 keyed25 Tryd.underlying104 Tryd.underlying2 (zero2 _) w.heap.size k _ rfl hown _ _ rfl hkey ?_; intro c hat hwc; rw [HF.out])
        refine (times_any _ _ y0 y1 x0 x1 _).mono ?_
        rintro e w' ⟨⟨y', rfl, hy', y0', y1'⟩, rfl⟩
        have HM := Lib.hid (MF_skip hmf.out x1 (by rw [← hy.out]; exact HF.out))
        clear hat
        go_wp2_with fail
        go_roundw
        case rel => exact ⟨y', k + 1, D, rfl, by go_num, by omega, y0', y1', Lib.hid (by rw [hy'.out, hy.out]; rfl), hown.mono (by omega), HM, HB.out⟩
        case measure => simp [intOf]; omega
      | false =>
        have HF := Lib.hid hf; clear hf
        go_wp2_with (first | (at_lookup; refine wpList_lookup_own_ok_int _ rfl _ _ 104 rfl 24 2 .i64 keyed25 Tryd.underlying104 Tryd.underlying2 (zero2 _) w.heap.size k _ rfl hown _ _ rfl hkey ?_; intro c hat hwc; rw [HF.out]) | (at_mapUpdate; refine wpList_mapUpdate_own _ rfl _ _ _ 104 rfl 24 2 keyed25 Tryd.underlying104 _ w.heap.size k _ rfl hown (by unfold maxLen; omega) _ _ _ rfl rfl hkey _ [] (plainElem_int Tryd.underlying2 (wf64 (by omega))) ?_; intro w1 hown1 hgrow1))
        refine (times_any _ _ y0 y1 x0 x1 _).mono ?_
        rintro e w' ⟨⟨y', rfl, hy', y0', y1'⟩, rfl⟩
        have HM := MF_put hmf.out x1 (by rw [← hy.out]; exact HF.out)
        rw [← hy.out] at HM
        replace HM := Lib.hid HM
        clear hat
        have HB2 := Lib.hid (HB.out.grown hgrow1 hbs (fun j hj => by cases hj; exact Nat.le_refl _))
        go_wp2_with fail
        go_roundw
        case rel => exact ⟨y', k + 1, _, rfl, by go_num, by omega, y0', y1', Lib.hid (by rw [hy'.out, hy.out]; rfl), hown1, HM, HB2.out⟩
        case measure => simp [intOf]; omega
    · have HB := Lib.hid hb; clear hb
      have HO := Lib.hid hown; clear hown
      go_wp2_with fail
      go_ret2
      have hke : k = 256 := by omega
      subst hke
      exact ⟨by rw [← hy.out]; rfl, ⟨D, HO.out, hmf.out⟩, HB.out⟩
end Go.Proofs.YtklddmmbbaaliaaDoor
