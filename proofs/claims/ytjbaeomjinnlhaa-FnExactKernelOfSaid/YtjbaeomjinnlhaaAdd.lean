/-
  A row is added to another one.
-/
import Derived.Test.YtjbaeomjinnlhaaOk2
import Derived.Deep.RegionHeld
import Derived.Test.YtjbaeomjinnlhaaRows1
namespace Go.Proofs.Ytjbaeomjinnlhaa
set_option linter.unusedVariables false
set_option linter.unusedSimpArgs false
open Go.ChangeShapes Go.WideShapes Go.ChangeAt Go.RowKit

def addN (n : Nat) (f : Nat → Int) (a b : Nat) (y : Int) : Nat → Int := fun s => if s / 6 = b ∧ s % 6 < n then xorI (f s) (mulI (f (a * 6 + s % 6)) y) else f s
def addF (f : Nat → Int) (a b : Nat) (y : Int) : Nat → Int := fun s => if s / 6 = b then xorI (f s) (mulI (f (a * 6 + s % 6)) y) else f s
theorem addN_zero (f : Nat → Int) (a b : Nat) (y : Int) : addN 0 f a b y = f := by funext s; unfold addN; rw [if_neg (by omega)]
theorem addN_step (f : Nat → Int) (a b : Nat) (y : Int) (k : Nat) (hb : b < 6) (hk : k < 6) : ∀ s, s < 36 → upd (addN k f a b y) (b * 6 + k) (xorI (f (b * 6 + k)) (mulI (f (a * 6 + k)) y)) s = addN (k + 1) f a b y s := fun s hs => by
  unfold upd addN
  by_cases e : s = b * 6 + k
  · rw [if_pos e, if_pos (by omega), e, show (b * 6 + k) % 6 = k from by omega]
  · rw [if_neg e]
    by_cases h : s / 6 = b ∧ s % 6 < k
    · rw [if_pos h, if_pos (by omega)]
    · rw [if_neg h, if_neg (by omega)]
theorem addN_old (f : Nat → Int) (a b : Nat) (y : Int) (k s : Nat) (h : s / 6 ≠ b ∨ k ≤ s % 6) : addN k f a b y s = f s := by unfold addN; rw [if_neg (by omega)]
theorem mulI_zero (y : Int) : mulI 0 y = 0 := by
  unfold mulI
  rw [show (0 : Int).toNat = 0 from rfl, show Nim.mul 0 y.toNat = 0 from Nim.nm_zero_left 4 _]; rfl
theorem xorI_zero {x : Int} (h : 0 ≤ x) : xorI x 0 = x := by
  unfold xorI
  rw [show (0 : Int).toNat = 0 from rfl, Nat.xor_zero]; omega
theorem xorI_comm (x y : Int) : xorI x y = xorI y x := by unfold xorI; rw [Nat.xor_comm]
theorem addN_all (f : Nat → Int) (a b : Nat) (y : Int) (c : Nat) (hf : VW f) (ha : a < 6) (hz : ∀ i k : Nat, i < 6 → k < 6 → c ≤ k → f (i * 6 + k) = 0) : ∀ s, s < 36 → addN c f a b y s = addF f a b y s := fun s hs => by
  unfold addN addF
  by_cases h : s / 6 = b
  · rw [if_pos h]
    by_cases h2 : s % 6 < c
    · rw [if_pos ⟨h, h2⟩]
    · rw [if_neg (by omega), hz a (s % 6) ha (by omega) (by omega), mulI_zero, xorI_zero (hf _).1]
  · rw [if_neg h, if_neg (by omega)]
theorem addF_b {f : Nat → Int} (h : VW f) (a b : Nat) {y : Int} (y0 : 0 ≤ y) (y1 : y < 65536) : VW (addF f a b y) := fun t => by
  unfold addF
  split
  · have := mulI_b (h (a * 6 + t % 6)).1 (h (a * 6 + t % 6)).2 y0 y1
    exact xorI_b (h t).1 (h t).2 this.1 this.2
  · exact h t
theorem ok_zero {r c : Int} {f : Nat → Int} (h : okB r c f = true) (C : Nat) (hC : c = C) : ∀ i k : Nat, i < 6 → k < 6 → C ≤ k → f (i * 6 + k) = 0 := fun i k hi hk hc => by
  unfold okB at h
  simp only [Bool.and_eq_true, decide_eq_true_eq] at h
  exact h.2.2 i hi k hk (by omega)
theorem ok_dims {r c : Int} {f : Nat → Int} (h : okB r c f = true) : ∃ R C : Nat, r = R ∧ c = C ∧ 1 ≤ R ∧ R ≤ 6 ∧ 1 ≤ C ∧ C ≤ 6 := by
  unfold okB inSide at h
  simp only [Bool.and_eq_true, decide_eq_true_eq] at h
  exact ⟨r.toNat, c.toNat, by omega, by omega, by omega, by omega, by omega, by omega⟩
set_option maxRecDepth 100000 in
set_option maxHeartbeats 1000000 in
theorem spec_l02Add (r : Int) (C : Nat) (hC : C ≤ 6) (f : Nat → Int) (hf : VW f) (g a b : Nat) (ha : a < 6) (hb : b < 6) (hab : a ≠ b) (y : Int) (y0 : 0 ≤ y) (y1 : y < 65536) (w : World) (hM : MB w g 33 r C f) :
    Calls Try.prog 129 #[.pointer (some ⟨g, 0, none⟩), .int .i64 a, .int .i64 b, .int .u16 y] w fun e w' => e = .returned (.tuple #[]) ∧ MB w' g 33 r C (addN C f a b y) ∧ (∀ x, x ≠ g → w'.heap[x]? = w.heap[x]?) ∧ Below 0 w w' := by
  have i1 : (a : Int) < 6 := by omega
  have i2 : (b : Int) < 6 := by omega
  have HF := Lib.hid hf
  clear hf
  go_enter Try.func129, Try.ntmps129
  go_wp2_with fail
  go_loopw [8] (fun p wr => ∃ (k : Nat), p = .int .i64 k ∧ k ≤ C ∧ MB wr g 33 r C (addN k f a b y) ∧ Hid (∀ x, x ≠ g → wr.heap[x]? = w.heap[x]?) ∧ Hid (Below 0 w wr)) (fun p _ => (6 - intOf p).toNat)
  case atStart => exact ⟨0, rfl, by omega, hM.ext (fun s _ => by rw [addN_zero]), Lib.hid (fun _ _ => rfl), Lib.hid (Below.refl 0 w)⟩
  case round =>
    clear hM
    obtain ⟨k, rfl, hk, m1, hx, hB⟩ := hrel
    have c1 := m1.cols
    have n1 : (C : Int) ≤ 6 := by omega
    by_cases hlk : k < C
    · have hk6 : k < 6 := by omega
      have k1 : (k : Int) < 6 := by omega
      have T1 : decide ((k : Int) < (C : Int)) = true := by simp; omega
      have q1 := m1.cell2 b k hb hk6
      have q2 := m1.cell2 a k ha hk6
      rw [addN_old f a b y k _ (by omega)] at q1
      rw [addN_old f a b y k _ (by omega)] at q2
      have f3 := m1.free (2 + b * 6 + k)
      have b1 := HF.out (b * 6 + k)
      have b2 := HF.out (a * 6 + k)
      have b3 := mulI_b b2.1 b2.2 y0 y1
      have bx := bits_xor (f (b * 6 + k)) (mulI (f (a * 6 + k)) y) b1.1 b1.2 b3.1 b3.2
      have M1 := Lib.hid m1
      clear m1
      go_wp2_with fail
      refine wp_region_still_tail 26 (by kernel_rfl) (by kernel_rfl) ?_
      simp only [List.take_succ_cons, List.take_zero, List.drop_succ_cons, List.drop_zero]
      iterate 20 still_step
      still_call (ltimes_eq (f (a * 6 + k)) y b2.1 b2.2 y0 y1 _)
      iterate 5 still_step
      refine wpStill_nil ?_
      change wpList _ _ _ _ _ wr.drew
      go_wp2_with fail
      exact ⟨⟨k + 1, rfl, by omega, (M1.out.put2 b k hb hk6 _).ext (addN_step f a b y k hb hk6), Lib.hid (fun x hx' => (heap_setCell_other _ _ _ _ (by simpa using hx')).trans (hx.out x hx')), Lib.hid (hB.out.setCell (p := ⟨g, 2 + b * 6 + k, none⟩) (Nat.zero_le _) _).drew⟩, by simp [intOf]; omega⟩
    · obtain rfl : k = C := by omega
      have T1 : decide ((k : Int) < (k : Int)) = false := by simp
      go_wp2_with fail
      refine bodyPost_end (results_none rfl _ _ _) rfl ?_
      exact ⟨rfl, m1, hx.out, hB.out⟩
def addC (r c : Int) (f : Nat → Int) (a b : Int) : Int := if rowC r c f a b = 0 ∧ a = b then 4 else rowC r c f a b
def addV (r c : Int) (f : Nat → Int) (a b y : Int) : Value := if addC r c f a b = 0 then .tuple #[MV r c (addF f a.toNat b.toNat y), .int .i64 0] else .tuple #[MV 0 0 (fun _ => 0), .int .i64 (addC r c f a b)]
theorem addV_form (r c : Int) (f : Nat → Int) (hm : MW r c f) (a b y : Int) (y0 : 0 ≤ y) (y1 : y < 65536) : ∃ R C F k, addV r c f a b y = .tuple #[MV R C F, .int .i64 k] ∧ MW R C F := by
  unfold addV
  split
  · exact ⟨_, _, _, _, rfl, hm.1, hm.2.1, hm.2.2.1, hm.2.2.2.1, addF_b hm.2.2.2.2 _ _ y0 y1⟩
  · exact ⟨_, _, _, _, rfl, by omega, by omega, by omega, by omega, fun _ => ⟨Int.le_refl 0, show (0 : Int) < 65536 by decide⟩⟩

set_option maxRecDepth 100000 in
set_option maxHeartbeats 2000000 in
theorem spec_AddRow (r c : Int) (f : Nat → Int) (hm : MW r c f) (a b y : Int) (y0 : 0 ≤ y) (y1 : y < 65536) (w : World) : Calls Try.prog 67 #[MV r c f, .int .i64 a, .int .i64 b, .int .u16 y] w fun e w' => e = .returned (addV r c f a b y) ∧ Below w.heap.size w w' := by
  go_enter Try.func67, Try.ntmps67
  go_upto_region 1 with fail
  obtain ⟨a1, a2, a4, a5⟩ := new2 w (.cells (CL r c f).toArray 33) (.cells (CL 0 0 fun _ => 0).toArray 33)
  rw [zero38]
  obtain ⟨g, hg⟩ : ∃ g, g = w.heap.size := ⟨_, rfl⟩
  rw [← hg] at a1 a2 a4 a5 ⊢
  generalize World.alloc (World.alloc w _) _ = w2 at a1 a2 a4 a5 ⊢
  replace a1 : MB w2 g 33 r c f := a1
  replace a2 : MB w2 (g + 1) 33 0 0 (fun _ => 0) := a2
  have HG := Lib.hid hg
  clear hg
  go_wp2_with fail
  refine (spec_l02Row r c f hm a b g _ _ a1).mono ?_
  rintro e wn ⟨rfl, rfl⟩
  rcases rowC_cases r c f a b with ⟨hc, h1⟩ | ⟨hc, h1, h2⟩ | ⟨hc, h1, h2, h3, x, z, rfl, rfl, hx, hz⟩
  · have hV : addV r c f a b y = .tuple #[MV 0 0 (fun _ => 0), .int .i64 1] := by unfold addV addC; rw [hc]; rfl
    have HV := Lib.hid hV
    rw [hc]
    clear hV h1 hc
    go_wp2_with (first | (guard_target =~ wpList _ _ _ (⟨_, Op.build 33 _, _, _, _, _⟩ :: _) _ _; refine wpList_build0 rfl 33 rfl (CL 0 0 fun _ => 0).toArray (by kernel_rfl) ?_) | (guard_target =~ wpList _ _ _ (⟨_, Op.store 33 (Operand.tmp 8) _, _, _, _, _⟩ :: _) _ _; refine wpList_store_row rfl 33 _ _ rfl (g + 1) (CL 0 0 fun _ => 0).toArray rfl rfl _ _ a2 (by kernel_rfl) rfl (CL_one _ _ _) ?_))
    refine bodyPost_ret (v := .tuple #[MV 0 0 (fun _ => 0), .int .i64 1]) ?_ rfl ⟨congrArg Ending.returned HV.out.symm, by obtain rfl := HG.out; exact Below.setRow a4 (Nat.le_succ _) _⟩
    exact results_cell_tmp2 rfl _ _ (g + 1) _ _ (0, 0) _ _ rfl rfl (a2.setRow _) Try.underlying33 rfl (by kernel_rfl)
  · have hV : addV r c f a b y = .tuple #[MV 0 0 (fun _ => 0), .int .i64 2] := by unfold addV addC; rw [hc]; rfl
    have HV := Lib.hid hV
    rw [hc]
    clear hV h1 h2 hc
    go_wp2_with (first | (guard_target =~ wpList _ _ _ (⟨_, Op.build 33 _, _, _, _, _⟩ :: _) _ _; refine wpList_build0 rfl 33 rfl (CL 0 0 fun _ => 0).toArray (by kernel_rfl) ?_) | (guard_target =~ wpList _ _ _ (⟨_, Op.store 33 (Operand.tmp 8) _, _, _, _, _⟩ :: _) _ _; refine wpList_store_row rfl 33 _ _ rfl (g + 1) (CL 0 0 fun _ => 0).toArray rfl rfl _ _ a2 (by kernel_rfl) rfl (CL_one _ _ _) ?_))
    refine bodyPost_ret (v := .tuple #[MV 0 0 (fun _ => 0), .int .i64 2]) ?_ rfl ⟨congrArg Ending.returned HV.out.symm, by obtain rfl := HG.out; exact Below.setRow a4 (Nat.le_succ _) _⟩
    exact results_cell_tmp2 rfl _ _ (g + 1) _ _ (0, 0) _ _ rfl rfl (a2.setRow _) Try.underlying33 rfl (by kernel_rfl)
  · by_cases hxz : x = z
    · subst hxz
      have hV : addV r c f x x y = .tuple #[MV 0 0 (fun _ => 0), .int .i64 4] := by unfold addV addC; rw [hc]; simp
      have HV := Lib.hid hV
      rw [hc]
      clear hV h1 h2 h3 hc
      go_wp2_with (first | (guard_target =~ wpList _ _ _ (⟨_, Op.build 33 _, _, _, _, _⟩ :: _) _ _; refine wpList_build0 rfl 33 rfl (CL 0 0 fun _ => 0).toArray (by kernel_rfl) ?_) | (guard_target =~ wpList _ _ _ (⟨_, Op.store 33 (Operand.tmp 8) _, _, _, _, _⟩ :: _) _ _; refine wpList_store_row rfl 33 _ _ rfl (g + 1) (CL 0 0 fun _ => 0).toArray rfl rfl _ _ a2 (by kernel_rfl) rfl (CL_one _ _ _) ?_))
      refine bodyPost_ret (v := .tuple #[MV 0 0 (fun _ => 0), .int .i64 4]) ?_ rfl ⟨congrArg Ending.returned HV.out.symm, by obtain rfl := HG.out; exact Below.setRow a4 (Nat.le_succ _) _⟩
      exact results_cell_tmp2 rfl _ _ (g + 1) _ _ (0, 0) _ _ rfl rfl (a2.setRow _) Try.underlying33 rfl (by kernel_rfl)
    · have hne : ¬ ((x : Int) = (z : Int)) := by omega
      have hq : ((x : Int) == (z : Int)) = false := by simpa using hne
      have hV : addV r c f x z y = .tuple #[MV r c (addF f x z y), .int .i64 0] := by
        have h0 : addC r c f x z = 0 := by unfold addC; rw [if_neg (by omega)]; exact hc
        unfold addV; rw [if_pos h0]; rfl
      have HV := Lib.hid hV
      obtain ⟨R, C, rfl, rfl, _, _, _, hC⟩ := ok_dims h1
      have hz0 := ok_zero h1 C rfl
      rw [hc]
      clear hV h1 h2 h3 hc hne
      have i1 : (x : Int) < 6 := by omega
      have i2 : (z : Int) < 6 := by omega
      go_wp2_with fail
      refine (spec_l02Add R C hC f hm.2.2.2.2 g x z hx hz hxz y y0 y1 _ a1).mono ?_
      rintro e wm ⟨rfl, b1, b3, b4⟩
      replace b1 := b1.ext (addN_all f x z y C hm.2.2.2.2 hx hz0)
      have b2 : MB wm (g + 1) 33 0 0 (fun _ => 0) := (b3 _ (by omega)).trans a2
      have b8 := Below.one a4 (Nat.le_refl g) (by omega) (fun x hx _ => b3 x hx) b4.size b4.os b4.tape b4.output
      clear a1 a2 a4 b3 b4 hz0
      go_wp2_with (first | (guard_target =~ wpList _ _ _ (⟨_, Op.load 33 (Operand.tmp 4), _, _, _, _⟩ :: _) _ _; refine wpList_load_row rfl 33 _ rfl (g) rfl _ (CL R C (addF f x z y)).toArray (0, 0) _ b1 Try.underlying33 rfl (by kernel_rfl) ?_) | (guard_target =~ wpList _ _ _ (⟨_, Op.store 33 (Operand.tmp 8) _, _, _, _, _⟩ :: _) _ _; refine wpList_store_row rfl 33 _ _ rfl (g + 1) (CL R C (addF f x z y)).toArray rfl rfl _ _ b2 (by kernel_rfl) rfl (CL_one _ _ _) ?_))
      refine bodyPost_ret (v := .tuple #[MV R C (addF f x z y), .int .i64 0]) ?_ rfl ⟨congrArg Ending.returned HV.out.symm, by obtain rfl := HG.out; exact Below.setRow b8 (Nat.le_succ _) _⟩
      exact results_cell_tmp2 rfl _ _ (g + 1) _ _ (0, 0) _ _ rfl rfl (b2.setRow _) Try.underlying33 rfl (by kernel_rfl)
end Go.Proofs.Ytjbaeomjinnlhaa
