/-
  The first move that leads, of the program and of the model.
-/
import Derived.Test.YtklddmmbbaaliaaDoorFold
import Derived.Test.YtklddmmbbaaliaaDoorLaw
namespace Go.Proofs.YtklddmmbbaaliaaDoor
set_option linter.unusedVariables false
set_option linter.unusedSimpArgs false
open Go.ChangeShapes Go.WideShapes Go.ChangeAt Go.RowKit

/-- the first index from i on, within f of them, at which p holds -/
def firstAt (p : Nat → Bool) : Nat → Nat → Option Nat
  | 0, _ => none
  | f + 1, i => bif p i then some i else firstAt p f (i + 1)
theorem firstAt_some (p : Nat → Bool) (k : Nat) (hp : p k = true) : ∀ (f i : Nat), i ≤ k → k < i + f → (∀ j, i ≤ j → j < k → p j = false) → firstAt p f i = some k := by
  intro f
  induction f with
  | zero => intro i h1 h2 _; omega
  | succ f ih =>
    intro i h1 h2 h3
    unfold firstAt
    by_cases e : i = k
    · subst e; rw [hp]; rfl
    · rw [h3 i (Nat.le_refl _) (by omega)]
      exact ih (i + 1) (by omega) (by omega) (fun j hj hk => h3 j (by omega) hk)
theorem firstAt_none (p : Nat → Bool) : ∀ (f i : Nat), (∀ j, i ≤ j → j < i + f → p j = false) → firstAt p f i = none := by
  intro f
  induction f with
  | zero => intro i _; rfl
  | succ f ih =>
    intro i h
    unfold firstAt
    rw [h i (Nat.le_refl _) (by omega)]
    exact ih (i + 1) (fun j hj hk => h j (by omega) (by omega))
def leads (zs : List Int) (s : Int) (j : Nat) : Bool := decide (xorI (zs.getD j 0) s < zs.getD j 0)
/-- what both answer -/
def leadV (zs : List Int) : Value :=
  match firstAt (leads zs (foldA xorI 0 zs)) zs.length 0 with
  | some k => .tuple #[.int .i64 k, .int .u16 (xorI (zs.getD k 0) (foldA xorI 0 zs)), .int .i64 0]
  | none => .tuple #[.int .i64 0, .int .u16 0, .int .i64 6]
theorem leadV_some {zs : List Int} {s : Int} (hs : s = foldA xorI 0 zs) {k : Nat} (hk : k < zs.length) (hall : ∀ j, j < k → leads zs s j = false) (h : leads zs s k = true) :
    leadV zs = .tuple #[.int .i64 k, .int .u16 (xorI (zs.getD k 0) s), .int .i64 0] := by
  unfold leadV
  rw [← hs, firstAt_some _ k h zs.length 0 (Nat.zero_le _) (by omega) (fun j _ hj => hall j hj)]
theorem leadV_none {zs : List Int} {s : Int} (hs : s = foldA xorI 0 zs) (hall : ∀ j, j < zs.length → leads zs s j = false) :
    leadV zs = .tuple #[.int .i64 0, .int .u16 0, .int .i64 6] := by
  unfold leadV
  rw [← hs, firstAt_none _ zs.length 0 (fun j _ hj => hall j (by omega))]
theorem leadV_form (zs : List Int) : ∃ i t c : Int, leadV zs = .tuple #[.int .i64 i, .int .u16 t, .int .i64 c] := by
  unfold leadV
  split
  · exact ⟨_, _, _, rfl⟩
  · exact ⟨_, _, _, rfl⟩
theorem leads_step {zs : List Int} {s : Int} {k : Nat} (h : ∀ j, j < k → leads zs s j = false) (e : leads zs s k = false) : ∀ j, j < k + 1 → leads zs s j = false := by
  intro j hj
  by_cases h1 : j < k
  · exact h j h1
  · rw [show j = k from by omega]; exact e

set_option maxHeartbeats 1000000 in
theorem impl_LeadingMove (v : Value) (zs : List Int) (hn : zs.length ≤ 1048576) (w : World) (h : NS w v zs) :
    Calls Tryd.prog 46 #[v] w fun e w' => e = .returned (leadV zs) ∧ Below w.heap.size w w' := by
  have HR := Lib.hid h.range
  have HS := Lib.hid h
  obtain ⟨A, c, rfl, hz, hc⟩ := h
  have HC := Lib.hid hc; clear hc hz
  go_enter Tryd.func46, Tryd.ntmps46
  go_wp2_with fail
  refine (impl_SumOf _ zs hn _ HS.out).mono ?_
  rintro e w2 ⟨⟨s, rfl, hs, s0, s1⟩, hb, _⟩
  have HB := Lib.hid hb; clear hb
  go_wp2_with fail
  go_loop [13] (fun i => ∃ k : Nat, i = .int .i64 k ∧ k ≤ zs.length ∧ Hid (∀ j, j < k → leads zs s j = false)) (fun i => zs.length - (intOf i).toNat)
  case atStart => exact ⟨0, rfl, Nat.zero_le _, Lib.hid (fun j hj => absurd hj (by omega))⟩
  case round =>
    obtain ⟨k, rfl, hk, hall⟩ := hrel
    by_cases hlt : k < zs.length
    · obtain ⟨b, off, rfl, hlb, hcell⟩ := HC.out (by omega)
      have h1 : w2.cell? ⟨b, off + k, none⟩ = some (.int .u16 (zs.getD k 0)) := (HB.out.cell (p := ⟨b, off + k, none⟩) hlb).trans (hcell k hlt)
      have hr := HR.out k
      obtain ⟨x, hx⟩ : ∃ x, x = zs.getD k 0 := ⟨_, rfl⟩
      rw [← hx] at h1 hr
      have HX := Lib.hid hx; have HCL := Lib.hid hcell
      clear hx hcell
      have r0 := hr.1
      have r1 := hr.2
      clear hr
      by_cases hc : xorI x s < x
      · have hl : leads zs s k = true := by unfold leads; rw [← HX.out]; exact decide_eq_true hc
        have HV := Lib.hid (leadV_some hs.out hlt hall.out hl)
        clear hl
        have HC2 := Lib.hid hc; clear hc
        go_wp2_with fail
        refine (plus_any 65536 (by decide) _ _ r0 r1 s0 s1 _).mono ?_
        rintro e w' ⟨⟨t, rfl, ht, t0, t1⟩, rfl⟩
        have hd : decide (t < x) = true := decide_eq_true (by rw [ht.out]; exact HC2.out)
        go_wp2_with fail
        go_ret3
        exact ⟨by rw [HV.out, ← HX.out, ← ht.out]; rfl, HB.out⟩
      · have hl : leads zs s k = false := by unfold leads; rw [← HX.out]; exact decide_eq_false hc
        have HV := Lib.hid (leads_step hall.out hl)
        clear hl
        have HC2 := Lib.hid hc; clear hc
        go_wp2_with fail
        refine (plus_any 65536 (by decide) _ _ r0 r1 s0 s1 _).mono ?_
        rintro e w' ⟨⟨t, rfl, ht, t0, t1⟩, rfl⟩
        have hd : decide (t < x) = false := decide_eq_false (by rw [ht.out]; have := HC2.out; omega)
        go_wp2_with fail
        go_round
        case rel => exact ⟨k + 1, by go_num, by omega, HV⟩
        case measure => simp [intOf]; omega
    · have HV := Lib.hid (leadV_none hs.out (fun j hj => hall.out j (by omega)))
      go_wp2_with fail
      go_ret3
      exact ⟨by rw [HV.out]; rfl, HB.out⟩

set_option maxHeartbeats 1000000 in
theorem spec_LeadingMove (v : Value) (zs : List Int) (hn : zs.length ≤ 1048576) (w : World) (h : NS w v zs) :
    Calls Tryd.prog 47 #[v] w fun e w' => e = .returned (leadV zs) ∧ ∃ m, w' = w.drewN m := by
  have HR := Lib.hid h.range
  have HS := Lib.hid h
  obtain ⟨A, c, rfl, hz, hc⟩ := h
  have HC := Lib.hid hc; clear hc hz
  go_enter Tryd.func47, Tryd.ntmps47
  go_wp2_with fail
  refine (l01Sum_any _ zs hn _ HS.out).mono ?_
  rintro e w2 ⟨⟨s, rfl, hs, s0, s1⟩, rfl⟩
  go_wp2_with fail
  go_loopw [6] (fun i wr => ∃ k m : Nat, i = .int .i64 k ∧ k ≤ zs.length ∧ wr = w.drewN m ∧ Hid (∀ j, j < k → leads zs s j = false)) (fun i _ => zs.length - (intOf i).toNat)
  case atStart => exact ⟨0, 0, rfl, Nat.zero_le _, rfl, Lib.hid (fun j hj => absurd hj (by omega))⟩
  case round =>
    obtain ⟨k, m, rfl, hk, rfl, hall⟩ := hrel
    by_cases hlt : k < zs.length
    · obtain ⟨b, off, rfl, hlb, hcell⟩ := HC.out (by omega)
      have h1 : w.cell? ⟨b, off + k, none⟩ = some (.int .u16 (zs.getD k 0)) := hcell k hlt
      have hlt' : (k : Int) < (zs.length : Int) := by omega
      have hr := HR.out k
      obtain ⟨x, hx⟩ : ∃ x, x = zs.getD k 0 := ⟨_, rfl⟩
      rw [← hx] at h1 hr
      have HX := Lib.hid hx; have HCL := Lib.hid hcell
      clear hx hcell
      have r0 := hr.1
      have r1 := hr.2
      clear hr
      have hbx := Lib.hid (bits_xor x s r0 r1 s0 s1)
      by_cases hc : xorI x s < x
      · have hl : leads zs s k = true := by unfold leads; rw [← HX.out]; exact decide_eq_true hc
        have HV := Lib.hid (leadV_some hs.out hlt hall.out hl)
        have hd : decide (bits .xor .u16 x s < x) = true := decide_eq_true (by rw [hbx.out]; exact hc)
        clear hl hc
        go_wp2_with fail
        go_quiet (fail)
        go_wp2_with fail
        go_quiet (fail)
        go_wp2_with fail
        go_ret3
        exact ⟨by rw [HV.out, ← HX.out, ← hbx.out]; rfl, _, by simp; rfl⟩
      · have hl : leads zs s k = false := by unfold leads; rw [← HX.out]; exact decide_eq_false hc
        have HV := Lib.hid (leads_step hall.out hl)
        have hd : decide (bits .xor .u16 x s < x) = false := decide_eq_false (by rw [hbx.out]; exact hc)
        clear hl hc
        go_wp2_with fail
        go_quiet (fail)
        go_wp2_with fail
        exact ⟨⟨k + 1, _, by go_num, by omega, rfl, HV⟩, by simp [intOf]; omega⟩
    · have HV := Lib.hid (leadV_none hs.out (fun j hj => hall.out j (by omega)))
      go_wp2_with fail
      go_ret3
      exact ⟨by rw [HV.out]; rfl, m, rfl⟩
end Go.Proofs.YtklddmmbbaaliaaDoor
