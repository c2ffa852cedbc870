/-
  The statement Rows.FnEquationsSaid for every input the law returns true; the walk is ours, the rest is the guide's template at this function's number and types.
  Conditions: none.
-/
import Derived.Test.YtjbaeomjinnlhaaRows
import Derived.WalkKit
import Derived.ProofKit
import Derived.OpenShut
import Derived.Test.YtjbaeomjinnlhaaHead
import Derived.Test.YtjbaeomjinnlhaaOpen


import Derived.Test.YtjbaeomjinnlhaaLeaving







import Derived.Test.YtjbaeomjinnlhaaEqN
namespace Go.Proofs.Ytjbaeomjinnlhaa.fnEquations
open Go.ChangeShapes Go.WideShapes Go.ChangeAt Go.RowKit
set_option linter.unusedVariables false
set_option linter.unusedSimpArgs false

theorem own : ownKnob Try.prog.godebug = none := by kernel_rfl
/-- the least generators, and the sizes of the levels -/
def genN (k : Nat) : Nat := if k = 1 then 2 else if k = 2 then 4 else if k = 3 then 18 else 258
def szN : Nat → Nat
  | 0 => 2
  | k + 1 => szN k * szN k
theorem impl_genN (k g : Nat) (h : 1 ≤ k ∧ k ≤ 4) (hg : Hid (genN k = g)) (w : World) :
    Calls Try.prog 96 #[.int .i64 (k : Int)] w fun e w' => e = .returned (.tuple #[.int .u16 (g : Int), .int .i64 0]) ∧ w = w' := by
  obtain ⟨h1, h2⟩ := h
  rcases (show k = 1 ∨ k = 2 ∨ k = 3 ∨ k = 4 by omega) with rfl | rfl | rfl | rfl
  · obtain rfl : 2 = g := hg.out
    exact E.impl_gen_1 w
  · obtain rfl : 4 = g := hg.out
    exact E.impl_gen_2 w
  · obtain rfl : 18 = g := hg.out
    exact E.impl_gen_3 w
  · obtain rfl : 258 = g := hg.out
    exact E.impl_gen_4 w
theorem spec_genN (k g : Nat) (h : 1 ≤ k ∧ k ≤ 4) (hg : Hid (genN k = g)) (w : World) :
    Calls Try.prog 97 #[.int .i64 (k : Int)] w fun e w' => e = .returned (.tuple #[.int .u16 (g : Int), .int .i64 0]) ∧ E.GrB w w' := by
  obtain ⟨h1, h2⟩ := h
  rcases (show k = 1 ∨ k = 2 ∨ k = 3 ∨ k = 4 by omega) with rfl | rfl | rfl | rfl
  · obtain rfl : 2 = g := hg.out
    exact E.spec_gen_1 w
  · obtain rfl : 4 = g := hg.out
    exact E.spec_gen_2 w
  · obtain rfl : 18 = g := hg.out
    exact E.spec_gen_3 w
  · obtain rfl : 258 = g := hg.out
    exact E.spec_gen_4 w
theorem ord_gen (k : Nat) (h : 1 ≤ k ∧ k ≤ 4) : E.ordI ((genN k : Nat) : Int) = ((szN k - 1 : Nat) : Int) := by
  obtain ⟨h1, h2⟩ := h
  rcases (show k = 1 ∨ k = 2 ∨ k = 3 ∨ k = 4 by omega) with rfl | rfl | rfl | rfl <;> (rw [E.ordF_eq _ (by decide)]; exact congrArg (fun q : Nat => (q : Int)) (by decide +kernel))
theorem sz_small (k : Nat) (h : k ≤ 4) : 2 ≤ szN k ∧ szN k ≤ 65536 := by
  rcases (show k = 0 ∨ k = 1 ∨ k = 2 ∨ k = 3 ∨ k = 4 by omega) with rfl | rfl | rfl | rfl | rfl <;> decide +kernel
theorem sz_sq (k : Nat) (h : k < 4) : szN k ≤ 256 := by
  rcases (show k = 0 ∨ k = 1 ∨ k = 2 ∨ k = 3 by omega) with rfl | rfl | rfl | rfl <;> decide +kernel
theorem gen_small (k : Nat) : 0 < genN k ∧ genN k < 65536 := by unfold genN; (repeat' split) <;> omega
theorem impl_ordG (k g o : Nat) (h : 1 ≤ k ∧ k ≤ 4) (hg : Hid (genN k = g)) (ho : Hid (szN k - 1 = o)) (w : World) :
    Calls Try.prog 98 #[.int .u16 (g : Int)] w fun e w' => e = .returned (.tuple #[.int .i64 (o : Int), .int .i64 0]) ∧ w = w' := by
  have hs := gen_small k
  have e := ord_gen k h
  rw [hg.out] at hs e
  rw [ho.out] at e
  refine (E.impl_OrderOf (g : Int) (by omega) (by omega) (by omega) w).mono ?_
  rintro e' w' ⟨rfl, rfl⟩
  exact ⟨by rw [e], rfl⟩
/-- what the model's list holds, root by root -/
theorem model_at {p q : Nat} {Z : List Int} (hp : p < 65536) (hq : q < 65536) (h : QuadIs p q Z) (i : Nat) (hi : i < Z.length) :
    ∃ x : Nat, x < 65536 ∧ Z.getD i 0 = (x : Int) ∧ Nim.mul x x ^^^ Nim.mul p x ^^^ q = 0 ∧ (0 < i → ∃ y : Nat, Z.getD (i - 1) 0 = (y : Int) ∧ Z.getD 0 0 = (y : Int) ∧ y < x ∧ x ^^^ y = p) := by
  rcases quad_shape hp hq h with ⟨rfl, _⟩ | ⟨r, hr, rfl, h0, hrr⟩ | ⟨x, y, hxy, hy, rfl, _, e, r1, r2⟩
  · simp at hi
  · obtain rfl : i = 0 := by simp at hi; omega
    exact ⟨r, hr, rfl, by rw [h0, Nim.mul_zero_left, Nat.xor_zero, hrr, Nat.xor_self], fun h => by omega⟩
  · rcases (show i = 0 ∨ i = 1 by simp at hi; omega) with rfl | rfl
    · exact ⟨x, by omega, rfl, r1, fun h => by omega⟩
    · exact ⟨y, hy, rfl, r2, fun _ => ⟨x, rfl, rfl, hxy, by rw [Nat.xor_comm]; exact e⟩⟩
theorem own_one {w : World} {B : Nat} {e : TypeId} {v : Value} {a : Int} (h : w.ownsRow B e 1 v [a].length (u16s [a])) :
    ∃ g c, v = .slice (some ⟨g, 0, none⟩) 1 c ∧ w.cell? ⟨g, 0, none⟩ = some (.int .u16 a) := by
  obtain ⟨A, c, rfl, _, hA⟩ := own_form h
  obtain ⟨g, rfl, _, _⟩ := hA (by simp)
  exact ⟨g, c, rfl, (h.cellAt 0 (by simp [u16s])).trans rfl⟩
theorem own_pair {w : World} {B : Nat} {e : TypeId} {v : Value} {a b : Int} (h : w.ownsRow B e 1 v [a, b].length (u16s [a, b])) :
    ∃ g c, v = .slice (some ⟨g, 0, none⟩) 2 c ∧ g < w.heap.size ∧ w.cell? ⟨g, 0, none⟩ = some (.int .u16 a) ∧ w.cell? ⟨g, 1, none⟩ = some (.int .u16 b) := by
  obtain ⟨A, c, rfl, _, hA⟩ := own_form h
  obtain ⟨g, rfl, _, hg⟩ := hA (by simp)
  exact ⟨g, c, rfl, hg, (h.cellAt 0 (by simp [u16s])).trans rfl, (h.cellAt 1 (by simp [u16s])).trans rfl⟩
theorem conjI_at (a p i : Nat) (hi : i < p) : (conjI a p).getD i 0 = ((Nim.sqs i a : Nat) : Int) := by
  unfold conjI; simp [List.getD, List.getElem?_map, List.getElem?_range hi]

set_option maxRecDepth 100000 in
set_option maxHeartbeats 10000000 in
theorem walk (w : World) (a0 : Value) (z0 : List Int) (a1 : Value) (z1 : List Int) (w0 : KS .u8 w a0 z0) (w1 : KS .u8 w a1 z1) :
    Calls Try.prog 27 #[a0, a1] w fun e w' => e = .returned (.bool true) ∧ Below w.heap.size w w' := by
  have HB0 := Lib.hid (BY.of_ks w0)
  have HB1 := Lib.hid (BY.of_ks w1)
  obtain ⟨A0, c0, rfl, -, -, -⟩ := w0
  obtain ⟨A1, c1, rfl, -, -, -⟩ := w1
  by_cases hlong : 3000 < z0.length ∨ 3000 < z1.length
  · go_enter Try.func27, Try.ntmps27
    go_wp2_with fail
    refine (a2Long_yes _ _ _ _ _ _ hlong _).mono ?_
    rintro e w1 ⟨rfl, rfl⟩
    go_wp2_with fail
    go_ret
    exact ⟨rfl, Below.refl _ _⟩
  have l0 : z0.length ≤ 3000 := by omega
  have l1 : z1.length ≤ 3000 := by omega
  clear hlong
  go_enter Try.func27, Try.ntmps27
  go_wp2_with fail
  refine (a2Long_no _ _ _ _ _ _ l0 l1 _).mono ?_
  rintro e w1 ⟨rfl, rfl⟩
  go_wp2_with fail
  refine (A2Nim_any _ _ HB0.out).mono ?_
  rintro e w2 ⟨⟨a, ha, rfl⟩, hb2⟩
  have HX2 := Lib.hid hb2
  clear hb2
  go_wp2_with fail
  refine (A2Nim_any _ _ (HB1.out.below HX2.out)).mono ?_
  rintro e w3 ⟨⟨b, hb, rfl⟩, hb3⟩
  have HX3 := Lib.hid (HX2.out.trans (hb3.mono HX2.out.size))
  clear hb3 HX2
  obtain ⟨t, ht⟩ : ∃ t, a / 32768 = t := ⟨_, rfl⟩
  obtain ⟨tb, htb⟩ : ∃ t, b / 32768 = t := ⟨_, rfl⟩
  obtain ⟨s, hs⟩ : ∃ p, a ^^^ b = p := ⟨_, rfl⟩
  obtain ⟨ts, hts⟩ : ∃ t, s / 32768 = t := ⟨_, rfl⟩
  obtain ⟨sq, hsq⟩ : ∃ p, Nim.mul a a = p := ⟨_, rfl⟩
  obtain ⟨ab, hab⟩ : ∃ p, Nim.mul a b = p := ⟨_, rfl⟩
  have t1 : t ≤ 1 := by omega
  have tb1 : tb ≤ 1 := by omega
  have ls : s < 65536 := hs ▸ Nim.x_b ha hb
  have lsq : sq < 65536 := hsq ▸ Nim.mul_b ha ha
  have lab : ab < 65536 := hab ▸ Nim.mul_b ha hb
  have hts2 : t ^^^ tb = ts := by
    have q := Nim.shr_xor a b 15
    rw [hs, Nat.shiftRight_eq_div_pow, Nat.shiftRight_eq_div_pow, Nat.shiftRight_eq_div_pow, show 2 ^ 15 = 32768 from rfl, ht, htb, hts] at q
    exact q.symm
  have htq : sq / 32768 = t := by
    have q := Nim.sq_top a ha
    rw [hsq, Nat.shiftRight_eq_div_pow, Nat.shiftRight_eq_div_pow, show 2 ^ 15 = 32768 from rfl, ht] at q
    exact q
  have X1 : bits .xor .u16 (a : Int) (b : Int) = (s : Int) := by rw [xor16 a b ha hb, hs]
  have X2 : bits .xor .u16 (t : Int) (tb : Int) = (ts : Int) := by rw [xor16 t tb (by omega) (by omega), hts2]
  have T1 : decide ((1 : Int) < (t : Int)) = false := by simp; omega
  have Ht := Lib.hid ht
  have Htb := Lib.hid htb
  have Hts := Lib.hid hts
  have Hs := Lib.hid hs
  have Hsq := Lib.hid hsq
  have Htq := Lib.hid htq
  have Hab := Lib.hid hab
  clear ht htb hs hts hsq hab hts2 htq
  go_wp2_with (first | ((with_reducible refine (impl_trN a t ha Ht _).mono ?_); rintro e w' ⟨rfl, rfl⟩) | ((with_reducible refine (spec_trN a t ha Ht _).mono ?_); rintro e w' ⟨rfl, rfl⟩) | ((with_reducible refine (impl_trN s ts ls Hts _).mono ?_); rintro e w' ⟨rfl, rfl⟩) | ((with_reducible refine (spec_trN b tb hb Htb _).mono ?_); rintro e w' ⟨rfl, rfl⟩) | ((with_reducible refine (spec_sqN a sq ha Hsq _).mono ?_); rintro e w' ⟨rfl, rfl⟩) | ((with_reducible refine (impl_trN sq t lsq Htq _).mono ?_); rintro e w' ⟨rfl, rfl⟩))
  clear X2 T1
  obtain ⟨p, hp⟩ := per_ex a ha
  have hp1 := hp.1
  have hp2 := hp.2.1
  have hpd := per_dvd ha hp
  have HP := Lib.hid hp
  have HSM := Lib.hid (conjI_small a p ha)
  clear hp
  refine (impl_ConjugatesOf a p ha HP.out _).mono ?_
  rintro e w4 ⟨v4, rfl, ho4, hb4⟩
  obtain ⟨zs, hzs⟩ : ∃ zs, zs = conjI a p := ⟨_, rfl⟩
  have hzl : zs.length = p := by rw [hzs, conjI_len]
  rw [← hzs, ← hzl] at ho4
  rw [← hzs] at HSM
  obtain ⟨A4, c4, rfl, _, _⟩ := own_form ho4
  have HN4 := Lib.hid (NS.of_own ho4 HSM.out)
  have HX4 := Lib.hid (HX3.out.trans (hb4.mono HX3.out.size))
  have HZ := Lib.hid hzs
  have HL := Lib.hid hzl
  clear ho4 hb4 HX3 hzs hzl
  go_wp2_with fail
  refine (spec_ConjugatesOf a p ha HP.out _).mono ?_
  rintro e w5 ⟨v5, rfl, ho5, hb5⟩
  rw [← HZ.out, ← HL.out] at ho5
  obtain ⟨A5, c5, rfl, _, hA5⟩ := own_form ho5
  have hl1 : 1 ≤ zs.length := by rw [HL.out]; exact hp1
  obtain ⟨g5, rfl, _, _⟩ := hA5 (by omega)
  have HN5 := Lib.hid (NS.of_own ho5 HSM.out)
  have HN45 := Lib.hid (HN4.out.below hb5)
  have HX5 := Lib.hid (HX4.out.trans (hb5.mono HX4.out.size))
  have hcells : ∀ i, i < zs.length → w5.cell? ⟨g5, i, none⟩ = some (.int .u16 (zs.getD i 0)) := by
    intro i hi
    have h := ho5.cellAt i (by simpa [u16s] using hi)
    rw [h]; simp [u16s, List.getD, hi]
  have HC5 := Lib.hid hcells
  clear ho5 hb5 HX4 HN4 hcells
  have hln : zs.length ≤ 1048576 := by rw [HL.out]; omega
  go_wp2_with fail
  refine (sameNims_any _ _ zs hln _ HN45.out HN5.out).mono ?_
  rintro e w6 ⟨rfl, m6, rfl⟩
  obtain ⟨la, hla⟩ : ∃ x, Nim.sqs (p - 1) a = x := ⟨_, rfl⟩
  have lla : la < 65536 := hla ▸ Nim.sqs_b _ _ ha
  have z0' : zs.getD 0 0 = (a : Int) := by rw [HZ.out, conjI_at a p 0 (by omega)]; rfl
  have z1' : zs.getD (p - 1) 0 = (la : Int) := by rw [HZ.out, conjI_at a p (p - 1) (by omega), hla]
  have q0 : (w5.drewN m6).cell? ⟨g5, 0, none⟩ = some (.int .u16 (a : Int)) := by rw [← z0']; exact HC5.out 0 (by omega)
  have q1 : (w5.drewN m6).cell? ⟨g5, p - 1, none⟩ = some (.int .u16 (la : Int)) := by rw [← z1']; exact HC5.out (p - 1) (by rw [HL.out]; omega)
  have Hla := Lib.hid (show Nim.mul la la = a by rw [← hla, ← Nim.sqs_succ, show p - 1 + 1 = p by omega]; exact HP.out.2.2.1)
  have D1 : (16 : Int) % (p : Int) = 0 := by have q := Int.natCast_emod 16 p; rw [hpd] at q; exact q.symm
  have D2 : ((p : Int) == 0) = false := by rw [beq_eq_false_iff_ne]; omega
  have D3 : ¬ (p : Int) = 0 := by omega
  have D4 : (p : Int) - 1 = ((p - 1 : Nat) : Int) := by omega
  have D5 : ((p - 1 : Nat) : Int) < (p : Int) := by omega
  have D6 : (0 : Int) < (p : Int) := by omega
  obtain ⟨W, hW⟩ : ∃ W, W = w5.drewN m6 := ⟨_, rfl⟩
  have HX6 : Hid (Below w.heap.size w W) := Lib.hid (by rw [hW]; exact bdrewN HX5.out m6)
  rw [← hW] at q0 q1 ⊢
  rw [HL.out]
  clear z0' z1' hla hW HN45 HN5 HX5 HC5 hl1 hpd hln
  go_wp2_with (first | ((with_reducible refine (spec_sqN la a lla Hla _).mono ?_); rintro e w' ⟨rfl, rfl⟩))
  refine (impl_HalfRoot a ha _).mono ?_
  rintro e w7 ⟨rfl, hb7⟩
  have HX7 := Lib.hid (HX6.out.trans (hb7.mono HX6.out.size))
  clear hb7 HX6 D1 D2 D3 D4 D5 D6 q0 q1
  obtain ⟨kv, cd, hV, hcase⟩ : ∃ (kv : Nat) (cd : Int), halfV a = .tuple #[.int .u16 (kv : Int), .int .i64 cd] ∧ ((t = 0 ∧ cd = 0 ∧ kv = Nim.half a) ∨ (t = 1 ∧ cd = 6 ∧ kv = 0)) := by
    have ht := Ht.out
    unfold halfV
    split
    · exact ⟨_, _, rfl, .inl ⟨by omega, rfl, rfl⟩⟩
    · exact ⟨0, _, rfl, .inr ⟨by omega, rfl, rfl⟩⟩
  rw [hV]
  have HV := Lib.hid hV
  have HCS := Lib.hid hcase
  clear hV hcase
  go_wp2_with fail
  refine (spec_HalfRoot a ha _).mono ?_
  rintro e w8 ⟨rfl, hb8⟩
  rw [HV.out]
  have HX8 := Lib.hid (HX7.out.trans (hb8.mono HX7.out.size))
  clear hb8 HX7 HV
  obtain ⟨Z, hZ⟩ := quad_ex a b ha hb
  have HQ := Lib.hid hZ
  clear hZ
  rcases HCS.out with ⟨ht0, hc0, hkv⟩ | ⟨ht0, hc0, hkv⟩
  · subst ht0
    subst hc0
    clear HCS
    have lkv : kv < 65536 := by rw [hkv]; exact Nim.halfN_lt a ha
    obtain ⟨ksq, hksq⟩ : ∃ x, Nim.mul kv kv = x := ⟨_, rfl⟩
    have lksq : ksq < 65536 := hksq ▸ Nim.mul_b lkv lkv
    have hxk : kv ^^^ ksq = a := by
      have q := Nim.half_root a ha
      rw [← hkv, hksq] at q
      have := Ht.out
      rw [Nat.xor_comm, q]; omega
    have X3 : bits .xor .u16 (kv : Int) (ksq : Int) = (a : Int) := by rw [xor16 kv ksq lkv lksq, hxk]
    have hev : kv % 2 = 0 := by rw [hkv]; exact Nim.half_even a ha
    have X4 : (kv : Int) % 2 = 0 := by omega
    have Hksq := Lib.hid hksq
    clear hksq hxk hev hkv
    go_wp2_with (first | ((with_reducible refine (spec_sqN kv ksq lkv Hksq _).mono ?_); rintro e w' ⟨rfl, rfl⟩))
    clear X3 X4
    refine (impl_QuadraticRoots a b ha hb Z HQ.out _).mono ?_
    rintro e w9 ⟨v9, rfl, ho9, hb9⟩
    obtain ⟨A9, c9, rfl, _, _⟩ := own_form ho9
    have hZ2 := (quad_small ha HQ.out).2
    have HZS := Lib.hid (quad_small ha HQ.out).1
    have HN9 := Lib.hid (NS.of_own ho9 HZS.out)
    have HX9 := Lib.hid (HX8.out.trans (hb9.mono HX8.out.size))
    clear ho9 hb9 HX8
    go_wp2_with fail
    refine (spec_QuadraticRoots a b ha hb Z HQ.out _).mono ?_
    rintro e w10 ⟨v10, rfl, ho10, hb10⟩
    obtain ⟨A10, c10, rfl, _, hA10⟩ := own_form ho10
    have HN10 := Lib.hid (NS.of_own ho10 HZS.out)
    have HN9' := Lib.hid (HN9.out.below hb10)
    have HX10 := Lib.hid (HX9.out.trans (hb10.mono HX9.out.size))
    have HA10 := Lib.hid hA10
    have hcells : ∀ g i, A10 = some ⟨g, 0, none⟩ → i < Z.length → w10.cell? ⟨g, i, none⟩ = some (.int .u16 (Z.getD i 0)) := by
      intro g i e hi
      subst e
      have h := ho10.cellAt i (by simpa [u16s] using hi)
      rw [h]; simp [u16s, List.getD, hi]
    have HC10 := Lib.hid hcells
    clear ho10 hb10 HX9 HN9 hcells hA10
    have hln : Z.length ≤ 1048576 := by omega
    go_wp2_with fail
    refine (sameNims_any _ _ Z hln _ HN9'.out HN10.out).mono ?_
    rintro e w11 ⟨rfl, m11, rfl⟩
    obtain ⟨W2, hW2⟩ : ∃ W, W = w10.drewN m11 := ⟨_, rfl⟩
    have HX11 : Hid (Below w.heap.size w W2) := Lib.hid (by rw [hW2]; exact bdrewN HX10.out m11)
    have HCM : Hid (∀ g i, A10 = some ⟨g, 0, none⟩ → i < Z.length → W2.cell? ⟨g, i, none⟩ = some (.int .u16 (Z.getD i 0))) := Lib.hid (by rw [hW2]; exact HC10.out)
    rw [← hW2]
    clear hW2 HN9' HN10 HX10 HC10
    go_wp2_with fail
    go_loopw [16] (fun y wr => ∃ i : Nat, y = .int .i64 (i : Int) ∧ i ≤ Z.length ∧ W2 = wr) (fun y _ => Z.length - (intOf y).toNat)
    case atStart => exact ⟨0, rfl, by omega, rfl⟩
    case round =>
      obtain ⟨i, rfl, hi, rfl⟩ := hrel
      by_cases hlt : i < Z.length
      · have T1 : decide ((i : Int) < (Z.length : Int)) = true := by simp; omega
        have i1 : (i : Int) < (Z.length : Int) := by omega
        obtain ⟨g, hg, _, _⟩ := HA10.out (by omega)
        obtain ⟨x, hx, hzx, hroot, hmore⟩ := model_at ha hb HQ.out i hlt
        have c1 := HCM.out g i hg hlt
        rw [hzx] at c1
        obtain ⟨xx, hxx⟩ : ∃ k, Nim.mul x x = k := ⟨_, rfl⟩
        obtain ⟨ax, hax⟩ : ∃ k, Nim.mul a x = k := ⟨_, rfl⟩
        have lxx : xx < 65536 := hxx ▸ Nim.mul_b hx hx
        have lax : ax < 65536 := hax ▸ Nim.mul_b ha hx
        rw [hxx, hax] at hroot
        obtain ⟨u, hu⟩ : ∃ u, xx ^^^ ax = u := ⟨_, rfl⟩
        have lu : u < 65536 := hu ▸ Nim.x_b lxx lax
        rw [hu] at hroot
        have Y1 : bits .xor .u16 (xx : Int) (ax : Int) = (u : Int) := by rw [xor16 xx ax lxx lax, hu]
        have Y2 : bits .xor .u16 (u : Int) (b : Int) = 0 := by rw [xor16 u b lu hb, hroot]; rfl
        have Hxx := Lib.hid hxx
        have Hax := Lib.hid hax
        subst hg
        by_cases hi0 : i = 0
        · subst hi0
          have T2 : decide ((0 : Int) < ((0 : Nat) : Int)) = false := rfl
          clear hmore hroot hu hxx hax hzx
          go_wp2_with (first | ((with_reducible refine (spec_sqN x xx hx Hxx _).mono ?_); rintro e w' ⟨rfl, rfl⟩) | ((with_reducible refine (spec_tmN a x ax ha hx Hax _).mono ?_); rintro e w' ⟨rfl, rfl⟩))
          exact ⟨⟨0 + 1, by go_num, by omega, by first | trivial | rfl⟩, by simp [intOf]; omega⟩
        · obtain ⟨y, hy1, hy0, hyx, hxy⟩ := hmore (by omega)
          have c2 := HCM.out g (i - 1) rfl (by omega)
          have c3 := HCM.out g 0 rfl (by omega)
          rw [hy1] at c2
          rw [hy0] at c3
          have ly : y < 65536 := by omega
          have T2 : decide ((0 : Int) < (i : Int)) = true := by simp; omega
          have T2' : decide (0 < i) = true := by simp; omega
          have T3 : decide ((x : Int) ≤ (y : Int)) = false := by simp; omega
          have Y3 : bits .xor .u16 (x : Int) (y : Int) = (a : Int) := by rw [xor16 x y hx ly, hxy]
          have D4 : (i : Int) - 1 = ((i - 1 : Nat) : Int) := by omega
          have D5 : ((i - 1 : Nat) : Int) < (Z.length : Int) := by omega
          have D6 : (0 : Int) < (Z.length : Int) := by omega
          clear hmore hroot hu hxx hax hzx hy1 hy0 hxy
          go_wp2_with (first | ((with_reducible refine (spec_sqN x xx hx Hxx _).mono ?_); rintro e w' ⟨rfl, rfl⟩) | ((with_reducible refine (spec_tmN a x ax ha hx Hax _).mono ?_); rintro e w' ⟨rfl, rfl⟩))
          exact ⟨⟨i + 1, by go_num, by omega, by first | trivial | rfl⟩, by simp [intOf]; omega⟩
      · obtain rfl : i = Z.length := by omega
        have T1 : decide ((Z.length : Int) < (Z.length : Int)) = false := by simp
        obtain ⟨Z2, hZ3⟩ := quad_ex s ab ls lab
        have HQ2 := Lib.hid hZ3
        clear hZ3
        go_wp2_with (first | ((with_reducible refine (spec_tmN a b ab ha hb Hab _).mono ?_); rintro e w' ⟨rfl, rfl⟩))
        refine (impl_QuadraticRoots s ab ls lab Z2 HQ2.out _).mono ?_
        rintro e w12 ⟨v12, rfl, ho12, hb12⟩
        have HX12 := Lib.hid (HX11.out.trans (hb12.mono HX11.out.size))
        have hq2 := quad_two (Z := Z2) ha hb (by rw [Hs.out, Hab.out]; exact HQ2.out)
        by_cases hab' : a = b
        · obtain rfl := hq2.1 hab'
          obtain ⟨g2, c2, rfl, q0⟩ := own_one ho12
          have T0 : ((a : Int) == (b : Int)) = true := by rw [beq_iff_eq]; omega
          have hzl : a = 0 → Z.length = 1 := by
            intro h0
            rcases quad_shape ha hb HQ.out with ⟨_, h⟩ | ⟨r, _, rfl, _, _⟩ | ⟨x, y, _, _, _, h, _⟩
            · exact absurd h0 h
            · rfl
            · exact absurd h0 h
          clear hq2 ho12 hb12 hab' HX11
          by_cases h0 : a = 0
          · have T2 : ((a : Int) != 0) = false := by rw [h0]; rfl
            have T3 : ((Z.length : Int) == 1) = true := by rw [hzl h0]; rfl
            clear hzl h0
            go_wp2_with fail
            go_ret
            exact ⟨rfl, HX12.out⟩
          · have T2 : ((a : Int) != 0) = true := by rw [bne_iff_ne]; omega
            clear hzl h0
            go_wp2_with fail
            go_ret
            exact ⟨rfl, HX12.out⟩
        · obtain rfl := hq2.2 hab'
          obtain ⟨g2, c2, rfl, hg2, q0, q1⟩ := own_pair ho12
          have T0 : ((a : Int) == (b : Int)) = false := by rw [beq_eq_false_iff_ne]; omega
          obtain ⟨mn, hmn⟩ : ∃ m, min a b = m := ⟨_, rfl⟩
          obtain ⟨mx, hmx⟩ : ∃ m, max a b = m := ⟨_, rfl⟩
          rw [hmn] at q0
          rw [hmx] at q1
          have M1 : min (a : Int) (b : Int) = (mn : Int) := by omega
          have M2 : max (a : Int) (b : Int) = (mx : Int) := by omega
          have HM := Lib.hid (And.intro M1 M2)
          clear hq2 ho12 hb12 hab' HX11 hmn hmx M1 M2
          go_wp2_with fail
          refine (a2At_any _ _ (HB1.out.below HX12.out) 0 4 (by omega) (by omega) (by omega)).mono ?_
          rintro e w13 ⟨⟨q, hq, rfl⟩, rfl⟩
          go_wp2_with fail
          obtain ⟨lv, hlv⟩ : ∃ lv, lv = 1 + q := ⟨_, rfl⟩
          have e1 : (1 : Int) + (q : Int) = (lv : Int) := by omega
          have lv1 : 1 ≤ lv ∧ lv ≤ 4 := by omega
          rw [e1]
          clear e1 hlv hq
          obtain ⟨g, hg⟩ : ∃ g, genN lv = g := ⟨_, rfl⟩
          have hgs : 0 < g ∧ g < 65536 := hg ▸ gen_small lv
          have Hg := Lib.hid hg
          clear hg
          refine (impl_genN lv g lv1 Hg _).mono ?_
          rintro e w14 ⟨rfl, rfl⟩
          go_wp2_with fail
          refine (spec_genN lv g lv1 Hg _).mono ?_
          rintro e w15 ⟨rfl, hb15⟩
          have hb15' : Below w13.heap.size w13 w15 := hb15
          replace q0 := (hb15'.cell (p := ⟨g2, 0, none⟩) hg2).trans q0
          replace q1 := (hb15'.cell (p := ⟨g2, 1, none⟩) hg2).trans q1
          have HX15 := Lib.hid (HX12.out.trans (hb15'.mono HX12.out.size))
          clear hb15 hb15' HX12 hg2
          go_wp2_with fail
          go_loopw [24, 25] (fun z y wr => ∃ j n : Nat, y = .int .i64 (j : Int) ∧ j ≤ lv ∧ z = .int .i64 (n : Int) ∧ Hid (szN j = n) ∧ w15 = wr) (fun _ y _ => lv - (intOf y).toNat)
          case atStart => exact ⟨0, 2, rfl, by omega, rfl, Lib.hid rfl, rfl⟩
          case round =>
            obtain ⟨j, n, rfl, hj, rfl, HN, rfl⟩ := hrel
            by_cases hlt : j < lv
            · have T1 : decide ((j : Int) < (lv : Int)) = true := by simp; omega
              have T1' : decide (j < lv) = true := by simp; omega
              have hn2 := HN.out ▸ sz_sq j (by omega)
              have hm2 := (sz_small (j + 1) (by omega)).2
              obtain ⟨m, hm⟩ : ∃ m, szN (j + 1) = m := ⟨_, rfl⟩
              rw [hm] at hm2
              have hnm : n * n = m := by rw [← hm, ← HN.out]; rfl
              have hw : wrap64 ((n : Int) * (n : Int)) = (m : Int) := by
                have e : (n : Int) * (n : Int) = (m : Int) := by rw [← hnm]; exact (Int.natCast_mul n n).symm
                rw [e]; unfold wrap64; omega
              have HM2 := Lib.hid hm
              have HW := Lib.hid hw
              clear hm hnm hw
              go_wp2_with fail
              exact ⟨⟨j + 1, m, by go_num, by omega, by rw [HW.out], HM2, by first | trivial | rfl⟩, by simp [intOf]; omega⟩
            · obtain rfl : j = lv := by omega
              have T1 : decide ((j : Int) < (j : Int)) = false := by simp
              have T1' : decide (j < j) = false := by simp
              have hz := HN.out ▸ sz_small j (by omega)
              obtain ⟨o, ho⟩ : ∃ o, o = n - 1 := ⟨_, rfl⟩
              have O1 : (n : Int) - 1 = (o : Int) := by omega
              have Ho : Hid (szN j - 1 = o) := Lib.hid (by rw [HN.out, ho])
              have M1 := HM.out.1
              have M2 := HM.out.2
              clear ho
              go_wp2_with (first | ((with_reducible refine (impl_ordG j g o lv1 Hg Ho _).mono ?_); rintro e w' ⟨rfl, rfl⟩))
              go_ret
              exact ⟨rfl, HX15.out⟩
  · subst ht0
    subst hc0
    subst hkv
    clear HCS
    go_wp2_with fail
    refine (impl_QuadraticRoots a b ha hb Z HQ.out _).mono ?_
    rintro e w9 ⟨v9, rfl, ho9, hb9⟩
    obtain ⟨A9, c9, rfl, _, _⟩ := own_form ho9
    have hZ2 := (quad_small ha HQ.out).2
    have HZS := Lib.hid (quad_small ha HQ.out).1
    have HN9 := Lib.hid (NS.of_own ho9 HZS.out)
    have HX9 := Lib.hid (HX8.out.trans (hb9.mono HX8.out.size))
    clear ho9 hb9 HX8
    go_wp2_with fail
    refine (spec_QuadraticRoots a b ha hb Z HQ.out _).mono ?_
    rintro e w10 ⟨v10, rfl, ho10, hb10⟩
    obtain ⟨A10, c10, rfl, _, hA10⟩ := own_form ho10
    have HN10 := Lib.hid (NS.of_own ho10 HZS.out)
    have HN9' := Lib.hid (HN9.out.below hb10)
    have HX10 := Lib.hid (HX9.out.trans (hb10.mono HX9.out.size))
    have HA10 := Lib.hid hA10
    have hcells : ∀ g i, A10 = some ⟨g, 0, none⟩ → i < Z.length → w10.cell? ⟨g, i, none⟩ = some (.int .u16 (Z.getD i 0)) := by
      intro g i e hi
      subst e
      have h := ho10.cellAt i (by simpa [u16s] using hi)
      rw [h]; simp [u16s, List.getD, hi]
    have HC10 := Lib.hid hcells
    clear ho10 hb10 HX9 HN9 hcells hA10
    have hln : Z.length ≤ 1048576 := by omega
    go_wp2_with fail
    refine (sameNims_any _ _ Z hln _ HN9'.out HN10.out).mono ?_
    rintro e w11 ⟨rfl, m11, rfl⟩
    obtain ⟨W2, hW2⟩ : ∃ W, W = w10.drewN m11 := ⟨_, rfl⟩
    have HX11 : Hid (Below w.heap.size w W2) := Lib.hid (by rw [hW2]; exact bdrewN HX10.out m11)
    have HCM : Hid (∀ g i, A10 = some ⟨g, 0, none⟩ → i < Z.length → W2.cell? ⟨g, i, none⟩ = some (.int .u16 (Z.getD i 0))) := Lib.hid (by rw [hW2]; exact HC10.out)
    rw [← hW2]
    clear hW2 HN9' HN10 HX10 HC10
    go_wp2_with fail
    go_loopw [16] (fun y wr => ∃ i : Nat, y = .int .i64 (i : Int) ∧ i ≤ Z.length ∧ W2 = wr) (fun y _ => Z.length - (intOf y).toNat)
    case atStart => exact ⟨0, rfl, by omega, rfl⟩
    case round =>
      obtain ⟨i, rfl, hi, rfl⟩ := hrel
      by_cases hlt : i < Z.length
      · have T1 : decide ((i : Int) < (Z.length : Int)) = true := by simp; omega
        have i1 : (i : Int) < (Z.length : Int) := by omega
        obtain ⟨g, hg, _, _⟩ := HA10.out (by omega)
        obtain ⟨x, hx, hzx, hroot, hmore⟩ := model_at ha hb HQ.out i hlt
        have c1 := HCM.out g i hg hlt
        rw [hzx] at c1
        obtain ⟨xx, hxx⟩ : ∃ k, Nim.mul x x = k := ⟨_, rfl⟩
        obtain ⟨ax, hax⟩ : ∃ k, Nim.mul a x = k := ⟨_, rfl⟩
        have lxx : xx < 65536 := hxx ▸ Nim.mul_b hx hx
        have lax : ax < 65536 := hax ▸ Nim.mul_b ha hx
        rw [hxx, hax] at hroot
        obtain ⟨u, hu⟩ : ∃ u, xx ^^^ ax = u := ⟨_, rfl⟩
        have lu : u < 65536 := hu ▸ Nim.x_b lxx lax
        rw [hu] at hroot
        have Y1 : bits .xor .u16 (xx : Int) (ax : Int) = (u : Int) := by rw [xor16 xx ax lxx lax, hu]
        have Y2 : bits .xor .u16 (u : Int) (b : Int) = 0 := by rw [xor16 u b lu hb, hroot]; rfl
        have Hxx := Lib.hid hxx
        have Hax := Lib.hid hax
        subst hg
        by_cases hi0 : i = 0
        · subst hi0
          have T2 : decide ((0 : Int) < ((0 : Nat) : Int)) = false := rfl
          clear hmore hroot hu hxx hax hzx
          go_wp2_with (first | ((with_reducible refine (spec_sqN x xx hx Hxx _).mono ?_); rintro e w' ⟨rfl, rfl⟩) | ((with_reducible refine (spec_tmN a x ax ha hx Hax _).mono ?_); rintro e w' ⟨rfl, rfl⟩))
          exact ⟨⟨0 + 1, by go_num, by omega, by first | trivial | rfl⟩, by simp [intOf]; omega⟩
        · obtain ⟨y, hy1, hy0, hyx, hxy⟩ := hmore (by omega)
          have c2 := HCM.out g (i - 1) rfl (by omega)
          have c3 := HCM.out g 0 rfl (by omega)
          rw [hy1] at c2
          rw [hy0] at c3
          have ly : y < 65536 := by omega
          have T2 : decide ((0 : Int) < (i : Int)) = true := by simp; omega
          have T2' : decide (0 < i) = true := by simp; omega
          have T3 : decide ((x : Int) ≤ (y : Int)) = false := by simp; omega
          have Y3 : bits .xor .u16 (x : Int) (y : Int) = (a : Int) := by rw [xor16 x y hx ly, hxy]
          have D4 : (i : Int) - 1 = ((i - 1 : Nat) : Int) := by omega
          have D5 : ((i - 1 : Nat) : Int) < (Z.length : Int) := by omega
          have D6 : (0 : Int) < (Z.length : Int) := by omega
          clear hmore hroot hu hxx hax hzx hy1 hy0 hxy
          go_wp2_with (first | ((with_reducible refine (spec_sqN x xx hx Hxx _).mono ?_); rintro e w' ⟨rfl, rfl⟩) | ((with_reducible refine (spec_tmN a x ax ha hx Hax _).mono ?_); rintro e w' ⟨rfl, rfl⟩))
          exact ⟨⟨i + 1, by go_num, by omega, by first | trivial | rfl⟩, by simp [intOf]; omega⟩
      · obtain rfl : i = Z.length := by omega
        have T1 : decide ((Z.length : Int) < (Z.length : Int)) = false := by simp
        obtain ⟨Z2, hZ3⟩ := quad_ex s ab ls lab
        have HQ2 := Lib.hid hZ3
        clear hZ3
        go_wp2_with (first | ((with_reducible refine (spec_tmN a b ab ha hb Hab _).mono ?_); rintro e w' ⟨rfl, rfl⟩))
        refine (impl_QuadraticRoots s ab ls lab Z2 HQ2.out _).mono ?_
        rintro e w12 ⟨v12, rfl, ho12, hb12⟩
        have HX12 := Lib.hid (HX11.out.trans (hb12.mono HX11.out.size))
        have hq2 := quad_two (Z := Z2) ha hb (by rw [Hs.out, Hab.out]; exact HQ2.out)
        by_cases hab' : a = b
        · obtain rfl := hq2.1 hab'
          obtain ⟨g2, c2, rfl, q0⟩ := own_one ho12
          have T0 : ((a : Int) == (b : Int)) = true := by rw [beq_iff_eq]; omega
          have hzl : a = 0 → Z.length = 1 := by
            intro h0
            rcases quad_shape ha hb HQ.out with ⟨_, h⟩ | ⟨r, _, rfl, _, _⟩ | ⟨x, y, _, _, _, h, _⟩
            · exact absurd h0 h
            · rfl
            · exact absurd h0 h
          clear hq2 ho12 hb12 hab' HX11
          by_cases h0 : a = 0
          · have T2 : ((a : Int) != 0) = false := by rw [h0]; rfl
            have T3 : ((Z.length : Int) == 1) = true := by rw [hzl h0]; rfl
            clear hzl h0
            go_wp2_with fail
            go_ret
            exact ⟨rfl, HX12.out⟩
          · have T2 : ((a : Int) != 0) = true := by rw [bne_iff_ne]; omega
            clear hzl h0
            go_wp2_with fail
            go_ret
            exact ⟨rfl, HX12.out⟩
        · obtain rfl := hq2.2 hab'
          obtain ⟨g2, c2, rfl, hg2, q0, q1⟩ := own_pair ho12
          have T0 : ((a : Int) == (b : Int)) = false := by rw [beq_eq_false_iff_ne]; omega
          obtain ⟨mn, hmn⟩ : ∃ m, min a b = m := ⟨_, rfl⟩
          obtain ⟨mx, hmx⟩ : ∃ m, max a b = m := ⟨_, rfl⟩
          rw [hmn] at q0
          rw [hmx] at q1
          have M1 : min (a : Int) (b : Int) = (mn : Int) := by omega
          have M2 : max (a : Int) (b : Int) = (mx : Int) := by omega
          have HM := Lib.hid (And.intro M1 M2)
          clear hq2 ho12 hb12 hab' HX11 hmn hmx M1 M2
          go_wp2_with fail
          refine (a2At_any _ _ (HB1.out.below HX12.out) 0 4 (by omega) (by omega) (by omega)).mono ?_
          rintro e w13 ⟨⟨q, hq, rfl⟩, rfl⟩
          go_wp2_with fail
          obtain ⟨lv, hlv⟩ : ∃ lv, lv = 1 + q := ⟨_, rfl⟩
          have e1 : (1 : Int) + (q : Int) = (lv : Int) := by omega
          have lv1 : 1 ≤ lv ∧ lv ≤ 4 := by omega
          rw [e1]
          clear e1 hlv hq
          obtain ⟨g, hg⟩ : ∃ g, genN lv = g := ⟨_, rfl⟩
          have hgs : 0 < g ∧ g < 65536 := hg ▸ gen_small lv
          have Hg := Lib.hid hg
          clear hg
          refine (impl_genN lv g lv1 Hg _).mono ?_
          rintro e w14 ⟨rfl, rfl⟩
          go_wp2_with fail
          refine (spec_genN lv g lv1 Hg _).mono ?_
          rintro e w15 ⟨rfl, hb15⟩
          have hb15' : Below w13.heap.size w13 w15 := hb15
          replace q0 := (hb15'.cell (p := ⟨g2, 0, none⟩) hg2).trans q0
          replace q1 := (hb15'.cell (p := ⟨g2, 1, none⟩) hg2).trans q1
          have HX15 := Lib.hid (HX12.out.trans (hb15'.mono HX12.out.size))
          clear hb15 hb15' HX12 hg2
          go_wp2_with fail
          go_loopw [24, 25] (fun z y wr => ∃ j n : Nat, y = .int .i64 (j : Int) ∧ j ≤ lv ∧ z = .int .i64 (n : Int) ∧ Hid (szN j = n) ∧ w15 = wr) (fun _ y _ => lv - (intOf y).toNat)
          case atStart => exact ⟨0, 2, rfl, by omega, rfl, Lib.hid rfl, rfl⟩
          case round =>
            obtain ⟨j, n, rfl, hj, rfl, HN, rfl⟩ := hrel
            by_cases hlt : j < lv
            · have T1 : decide ((j : Int) < (lv : Int)) = true := by simp; omega
              have T1' : decide (j < lv) = true := by simp; omega
              have hn2 := HN.out ▸ sz_sq j (by omega)
              have hm2 := (sz_small (j + 1) (by omega)).2
              obtain ⟨m, hm⟩ : ∃ m, szN (j + 1) = m := ⟨_, rfl⟩
              rw [hm] at hm2
              have hnm : n * n = m := by rw [← hm, ← HN.out]; rfl
              have hw : wrap64 ((n : Int) * (n : Int)) = (m : Int) := by
                have e : (n : Int) * (n : Int) = (m : Int) := by rw [← hnm]; exact (Int.natCast_mul n n).symm
                rw [e]; unfold wrap64; omega
              have HM2 := Lib.hid hm
              have HW := Lib.hid hw
              clear hm hnm hw
              go_wp2_with fail
              exact ⟨⟨j + 1, m, by go_num, by omega, by rw [HW.out], HM2, by first | trivial | rfl⟩, by simp [intOf]; omega⟩
            · obtain rfl : j = lv := by omega
              have T1 : decide ((j : Int) < (j : Int)) = false := by simp
              have T1' : decide (j < j) = false := by simp
              have hz := HN.out ▸ sz_small j (by omega)
              obtain ⟨o, ho⟩ : ∃ o, o = n - 1 := ⟨_, rfl⟩
              have O1 : (n : Int) - 1 = (o : Int) := by omega
              have Ho : Hid (szN j - 1 = o) := Lib.hid (by rw [HN.out, ho])
              have M1 := HM.out.1
              have M2 := HM.out.2
              clear ho
              go_wp2_with (first | ((with_reducible refine (impl_ordG j g o lv1 Hg Ho _).mono ?_); rintro e w' ⟨rfl, rfl⟩))
              go_ret
              exact ⟨rfl, HX15.out⟩

set_option maxRecDepth 100000 in
theorem lifted (os : Os) (started : os.Started) (H : Type) (enc : TypeId × Value → H) :
    ReturnsInHanded {} Try.checked os 27 .any (Rows.fnEquationsSpec.pre6 enc Try.prog Try.f27 Rows.fnEquationsRow.domain false) (Rows.fnEquationsSpec.post enc Try.prog Try.f27 false true false false) := by
  refine returnsInHanded_of_change (C := Try.checked) own started (by kernel_rfl) Try.func27
    (ChangeSpec.witness6 (enc := enc) (C := Try.checked) false ⟨#[], #[.slice none 0 0, .slice none 0 0], []⟩ 8 (by kernel_rfl) (by kernel_rfl) (by kernel_rfl) (by kernel_rfl)) ?_
  intro W base args ds gs before hval0 hW hcnd _
  have hval : ∀ (j : Nat) t v, Try.f27.params[j]? = some t → args[j]? = some v → Value.okWide Try.prog W .any base t v := hval0
  have hW' := hW
  obtain ⟨p, q, hA0, hV, rfl, hfz, hnd⟩ := hW
  have hA : DataW.TrodAll enc Try.prog W 0 (fun _ => true) true Try.f27.params.toList args.toList ds p := hA0
  rw [Try.params27] at hA hval
  obtain ⟨v0, vs0, d0, ds0, p0, q0, hargs, rfl, rfl, h0, r0⟩ := trodAll_cons hA
  obtain ⟨v1, vs1, d1, ds1, p1, q1, rfl, rfl, rfl, h1, r1⟩ := trodAll_cons r0
  obtain ⟨rfl, rfl, rfl⟩ := trodAll_nil r1
  obtain rfl : args = #[v0, v1] := by cases args; simp_all
  obtain ⟨rfl, rfl⟩ := trodVars_none hV
  obtain ⟨z0, w0, g0⟩ := open_row Try.underlying82 Try.underlying5 (by kernel_rfl) (hval 0 82 v0 rfl rfl) h0
  obtain ⟨a0, ha0⟩ : ∃ y, y = v0 := ⟨_, rfl⟩
  subst ha0
  obtain ⟨z1, w1, g1⟩ := open_row Try.underlying82 Try.underlying5 (by kernel_rfl) (hval 1 82 v1 rfl rfl) h1
  obtain ⟨a1, ha1⟩ : ∃ y, y = v1 := ⟨_, rfl⟩
  subst ha1
  clear hA0 hval0
  simp only [List.append_nil, List.nil_append] at hW'
  refine (walk W a0 z0 a1 z1 w0 w1).mono fun e W' ⟨he, hg⟩ => ?_
  subst he
  exact ⟨_, rfl, law_post rfl rfl hW' hg (fun _ _ _ => (trodAll_cons_mk (shut_bool Try.underlying4 _) trodAll_mk0)) (fun sp hsp => by have t := (trodAll_cons_mk (g0 W' hg sp (fun q hq => hsp q (by simp [hq]))) (trodAll_cons_mk (g1 W' hg sp (fun q hq => hsp q (by simp [hq]))) trodAll_mk0)); simp only [List.append_nil, List.nil_append] at t; exact t) (ok_one (by kernel_rfl) rfl (okWide_bool_mk Try.underlying4 _))⟩

theorem over : Rows.fnEquationsRow.holds Try.pinned (OpenSpec.ofChange Rows.fnEquationsSpec) :=
  OpenClaim.holds_of_wide_leaving 27 Try.f27 rfl rfl rfl rfl rfl rfl rfl ⟨rfl, rfl, rfl, rfl, rfl⟩ rfl rfl rfl rfl rfl (by kernel_rfl) Try.func27 (joinedBy 27 Try.f27 Rows.fnEquationsSpec Rows.fnEquationsRow (by kernel_rfl))
    (of_decide_eq_true (by kernel_rfl)) (by unfold Func.isWrapper; first | (rw [if_pos (by decide +kernel)]; kernel_rfl) | (rw [if_neg (by decide +kernel)]; exact ⟨rfl, rfl⟩))
    (fun os started H enc _ => leaving_of_handed (lifted os started H enc))

/-- the statement -/
theorem proved : Rows.FnEquationsSaid :=
  over
end Go.Proofs.Ytjbaeomjinnlhaa.fnEquations
