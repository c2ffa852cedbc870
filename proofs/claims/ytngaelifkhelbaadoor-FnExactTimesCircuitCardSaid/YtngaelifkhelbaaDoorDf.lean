/-
  Two lists of indices put together; products with the greatest power of 2.
-/
import Derived.Test.YtngaelifkhelbaaDoorDe
import Derived.Test.YtngaelifkhelbaaDoorDc
import Derived.Deep.RegionHeld
import Derived.Lib.AppendZerosOnto
import Derived.BigQuiet
namespace Go.Proofs.YtngaelifkhelbaaDoor
set_option linter.unusedVariables false
set_option linter.unusedSimpArgs false
open Go.ChangeShapes Go.WideShapes Go.ChangeAt Go.RowKit Go.Deep

theorem drew_bd {B : Nat} {a b : World} (h : Below B a b) : Below B a b.drew := ⟨h.os, h.tape, h.output, h.size, h.block⟩
set_option maxHeartbeats 2000000 in
set_option maxRecDepth 100000 in
theorem growNil_any (n : Nat) (h1 : 1 ≤ n) (hn : n ≤ 1000) (w : World) :
    Calls Tryd.prog 120 #[.slice none 0 0, .int .i64 (n : Int)] w fun e w' => ∃ c, e = .returned (.slice (some ⟨w.heap.size, 0, none⟩) 0 c) ∧ w'.ownsRow w.heap.size 86 1 (.slice (some ⟨w.heap.size, 0, none⟩) 0 c) 0 [] ∧ Below w.heap.size w w' := by
  obtain ⟨i0, hi, hz0, hz1, hz2⟩ := info_parts infoI16
  have T1 : decide ((n : Int) < 0) = false := by simp
  have T2 : decide ((0 : Int) < (n : Int)) = true := by simp; omega
  have hold : (Builtin.firstCells i0.size 0 (.slice none 0 0)).run Tryd.prog w.drew = .ok (([] : List Value).toArray) w.drew := by
    exact run_firstCells_none w.drew i0.size 0 0 0
  have hfit : (0 + n) * i0.bytes ≤ 140737488355328 := by rw [hz2]; omega
  have hrz : ∀ ty, (Builtin.append_ #[72, 3] ty #[.slice none 0 0, .int .i64 (n : Int)]).run Tryd.prog w =
      .ok (.slice (some ⟨w.heap.size, 0, none⟩) (0 + n) (grownCap w (0 + n) 0 86)) (w.drew.alloc (.cells (([] : List Value).toArray ++ Builtin.zeroCells (Value.int .i16 0).cells n ++ Builtin.zeroCells (Value.int .i16 0).cells (grownCap w (0 + n) 0 86 - (0 + n))) 86)) := fun ty => by
    have h := Lib.run_append_grow_zeros w 72 3 ty 86 i0 (.int .i16 0) .i64 .i64 Tryd.underlying72 (by kernel_rfl) hi hz0 none 0 0 [] hold n (by omega) (by rw [hz1]; omega) (by omega) (by omega)
      (by rw [hz2]; omega)
      (growslice_fits (by omega) hfit)
    exact h
  have hGn : 0 + n ≤ grownCap w (0 + n) 0 86 := grownCap_ge w _ _ _
  have hG63 : grownCap w (0 + n) 0 86 ≤ maxLen := grownCap_le_maxLen w (0 + n) 0 86 (by unfold maxLen; omega)
  obtain ⟨G, hG⟩ : ∃ G, G = grownCap w (0 + n) 0 86 := ⟨_, rfl⟩
  rw [← hG] at hrz hGn hG63
  clear hold hfit hG
  have hGb : G ≤ 9223372036854775807 := by unfold maxLen at hG63; omega
  rw [Nat.zero_add] at hrz hGn
  go_enter Tryd.func120, Tryd.ntmps120
  go_wp2_with (at_builtin; refine Lib.wpList_append_run _ rfl _ _ _ _ rfl _ _ rfl rfl _ _ (hrz _) ?_)
  all_goals
    go_ret
    refine ⟨G, rfl, ⟨by simp, .inr ⟨w.heap.size, G, _, rfl, Nat.le_refl _, heap_alloc_new w _, Nat.zero_le _, hG63, ?_, by simp⟩⟩, drew_bd ((Below.refl _ w).alloc (Nat.le_refl _) _)⟩
    simp [size_zeroCells]
    omega

theorem TL.src {w : World} {b off c n : Nat} {xs : List Int} (h : TL w (.slice (some ⟨b, off, none⟩) n c) xs) : ∀ j u, (i16s xs)[j]? = some u → w.cell? ((⟨b, off, none⟩ : Addr).add j) = some u := by
  obtain ⟨b', off', c', cur, e, h1, h2, hc, hr, hw⟩ := h
  cases e
  exact fun j u hu => (congrArg w.cell? (by simp [Addr.add])).trans (hr j u hu)
theorem TL.src2 {w : World} {b off c n m : Nat} {xs : List Int} (h : TL w (.slice (some ⟨b, off, none⟩) n c) xs) (e : xs.length = m) : ∀ j u, (i16s xs)[j]? = some u → w.cell? ((⟨b, off, none⟩ : Addr).add j) = some u := h.src
theorem i16s_one (xs : List Int) : ∀ u ∈ i16s xs, u.oneCell' = true := by
  intro u hu
  simp only [i16s, List.mem_map] at hu
  obtain ⟨z, _, rfl⟩ := hu
  rfl
theorem i16s_append (xs ys : List Int) : i16s xs ++ i16s ys = i16s (xs ++ ys) := by simp [i16s]
theorem i16s_len (xs : List Int) : (i16s xs).length = xs.length := by simp [i16s]
set_option maxHeartbeats 4000000 in
set_option maxRecDepth 100000 in
theorem concat2_any (v u : Value) (xs ys : List Int) (g : Nat) (h1 : 1 ≤ xs.length) (hn : xs.length ≤ 400) (hn2 : ys.length ≤ 400) (w : World) (hg : g < w.heap.size) (c0 : w.cell? ⟨g, 0, none⟩ = some v) (c1 : w.cell? ⟨g, 1, none⟩ = some u) (h : TL w v xs) (h' : TL w u ys) :
    Calls Tryd.prog 108 #[.slice (some ⟨g, 0, none⟩) 2 2] w fun e w' => ∃ r, e = .returned r ∧ w'.ownsRow w.heap.size 86 1 r (xs ++ ys).length (i16s (xs ++ ys)) ∧ Below w.heap.size w w' := by
  obtain ⟨i0, hi, hz0, hz1, hz2⟩ := info_parts infoI16
  have HN := Lib.hid h
  have HN' := Lib.hid h'
  obtain ⟨bb, off, c, rfl, _, _⟩ := h.form
  obtain ⟨bb', off', c', rfl, _, _⟩ := h'.form
  have HC0 := Lib.hid c0
  have HC1 := Lib.hid c1
  have HGL := Lib.hid hg
  obtain ⟨a, ha⟩ : ∃ a, a = xs.length := ⟨_, rfl⟩
  obtain ⟨b, hb⟩ : ∃ b, b = ys.length := ⟨_, rfl⟩
  rw [← ha] at h1 hn HN c0 HC0
  rw [← hb] at hn2 HN' c1 HC1
  have HA := Lib.hid ha
  have HB := Lib.hid hb
  obtain ⟨s2, hs2⟩ : ∃ s2 : Nat, s2 = a + b := ⟨_, rfl⟩
  have e2 : (a : Int) + (b : Int) = (s2 : Int) := by omega
  have hs2b : s2 ≤ 800 := by omega
  have hs21 : 1 ≤ s2 := by omega
  have HS2 := Lib.hid hs2
  clear h h' ha hb hg hs2
  go_enter Tryd.func108, Tryd.ntmps108
  go_wp2_with fail
  go_loop [11, 3] (fun y s => (y = .int .i64 0 ∧ s = .int .i64 0) ∨ (y = .int .i64 1 ∧ s = .int .i64 (a : Int)) ∨ (y = .int .i64 2 ∧ s = .int .i64 (s2 : Int))) (fun y _ => 2 - (intOf y).toNat)
  case atStart => exact .inl ⟨rfl, rfl⟩
  case round =>
    rcases hrel with ⟨rfl, rfl⟩ | ⟨rfl, rfl⟩ | ⟨rfl, rfl⟩
    · go_wp2_with fail
      exact ⟨.inr (.inl ⟨rfl, rfl⟩), by decide⟩
    · have T1 : decide ((s2 : Int) < 0) = false := by simp
      go_wp2_with fail
      exact ⟨.inr (.inr ⟨rfl, rfl⟩), by decide⟩
    · clear c0 c1 e2
      go_wp2_with fail
      refine (growNil_any s2 hs21 (by omega) _).mono ?_
      rintro e w1 ⟨cg, rfl, ho, hb⟩
      have HO := Lib.hid ho
      have HB1 := Lib.hid hb
      have k0 := (hb.cell (p := ⟨g, 0, none⟩) HGL.out).trans HC0.out
      have k1 := (hb.cell (p := ⟨g, 1, none⟩) HGL.out).trans HC1.out
      have HK0 := Lib.hid k0
      have HK1 := Lib.hid k1
      clear ho hb k0 k1
      obtain ⟨B, hB⟩ : ∃ B, B = w.heap.size := ⟨_, rfl⟩
      rw [← hB] at HO HB1 ⊢
      have HBB := Lib.hid hB
      clear hB
      go_wp2_with fail
      go_loopw [27, 6] (fun y s wr => (y = .int .i64 0 ∧ s = .slice (some ⟨B, 0, none⟩) 0 cg ∧ w1 = wr) ∨ (y = .int .i64 1 ∧ Hid (wr.ownsRow B 86 1 s a (i16s xs)) ∧ Hid (Below B w wr)) ∨ (y = .int .i64 2 ∧ Hid (wr.ownsRow B 86 1 s s2 (i16s (xs ++ ys))) ∧ Hid (Below B w wr))) (fun y _ _ => 2 - (intOf y).toNat)
      case atStart => exact .inl ⟨rfl, rfl, rfl⟩
      case round =>
        rcases hrel with ⟨rfl, rfl, rfl⟩ | ⟨rfl, HR, HBW⟩ | ⟨rfl, HR, HBW⟩
        · have HN1 := Lib.hid (HN.out.below (HBB.out ▸ HB1.out))
          have k0 := HK0.out
          go_wp2_with (at_builtin; refine wpList_append_own _ rfl _ _ 72 rfl B 86 i0 (.int .i16 0) 1 2 Tryd.underlying72 hi hz0 hz1 hz2 rfl (by decide) _ 0 _ rfl HO.out ⟨bb, off, none⟩ a c (i16s xs) rfl (by rw [i16s_len]; have := HA.out; have := HB.out; omega) ?c1 ?c2 ?c3 ?c4 ?c5 ?_)
          case c1 => exact HN1.out.src
          case c2 => exact i16s_one xs
          case c3 => unfold maxLen; omega
          case c4 => omega
          case c5 => have := HB1.out.size; have := HBB.out; omega
          intro s' wy hown hgrow _
          have hbl : Below B w wy := HB1.out.grown hgrow (by have := HB1.out.size; have := HBB.out; omega) (by intro k hk; simp [Value.ownBlock] at hk; omega)
          have ho2 : wy.ownsRow B 86 1 s' a (i16s xs) := by simpa using hown
          have HO2 := Lib.hid ho2
          have HBL := Lib.hid hbl
          clear hown hgrow ho2 hbl k0
          go_wp2_with fail
          exact ⟨.inr (.inl ⟨rfl, HO2, HBL⟩), by decide⟩
        · obtain ⟨A3, c3, rfl, _, _⟩ := own_formu HR.out
          have hbw : Below w.heap.size w wr := HBB.out ▸ HBW.out
          have HN1 := Lib.hid (HN'.out.below hbw)
          have k1 := (hbw.cell (p := ⟨g, 1, none⟩) HGL.out).trans HC1.out
          clear hbw
          go_wp2_with (at_builtin; refine wpList_append_own _ rfl _ _ 72 rfl B 86 i0 (.int .i16 0) 1 2 Tryd.underlying72 hi hz0 hz1 hz2 rfl (by decide) _ a _ rfl HR.out ⟨bb', off', none⟩ b c' (i16s ys) rfl (by rw [i16s_len]; have := HA.out; have := HB.out; omega) ?c1 ?c2 ?c3 ?c4 ?c5 ?_)
          case c1 => exact HN1.out.src
          case c2 => exact i16s_one ys
          case c3 => unfold maxLen; omega
          case c4 => omega
          case c5 => have := HBW.out.size; have := HBB.out; omega
          intro s' wy hown hgrow _
          have hbl : Below B w wy := HBW.out.grown hgrow (by have := HBW.out.size; have := HBB.out; omega) (fun x hx => (own_block HR.out x hx).1)
          have ho2 : wy.ownsRow B 86 1 s' s2 (i16s (xs ++ ys)) := by
            have := hown
            rw [← HS2.out, i16s_append] at this
            exact this
          have HO2 := Lib.hid ho2
          have HBL := Lib.hid hbl
          clear hown hgrow ho2 hbl k1
          go_wp2_with fail
          exact ⟨.inr (.inr ⟨rfl, HO2, HBL⟩), by decide⟩
        · obtain ⟨A3, c3, rfl, _, _⟩ := own_formu HR.out
          have HP := Lib.hid (show wr.ownsRow B 86 1 (.slice A3 s2 c3) (xs ++ ys).length (i16s (xs ++ ys)) from by
            rw [List.length_append, ← HA.out, ← HB.out, ← HS2.out]; exact HR.out)
          go_wp2_with fail
          go_ret
          exact ⟨_, rfl, by rw [← HBB.out]; exact HP.out, by rw [← HBB.out]; exact HBW.out⟩

/-- the number of gates of half; half -/
def hcN : Nat → Nat
  | 0 => 0
  | k + 1 => 3 * hcN k + 2 ^ k
def halfG : Nat → List Int → List G3 → List G3 × List Int
  | 0, xs, gs => (gs, xs)
  | k + 1, xs, gs =>
    let e := halfG k (xs.drop (2 ^ k)) gs
    let f := halfG k (xs.take (2 ^ k)) e.1
    let g := halfG k e.2 f.1
    (g.1 ++ pairG 2 e.2 f.2 (2 ^ k), g.2 ++ outsL g.1.length (2 ^ k))
theorem halfG_len : ∀ (k : Nat) (xs : List Int) (gs : List G3), xs.length = 2 ^ k → (halfG k xs gs).1.length = gs.length + hcN k ∧ (halfG k xs gs).2.length = 2 ^ k := by
  intro k
  induction k with
  | zero => intro xs gs h; exact ⟨rfl, h⟩
  | succ k ih =>
    intro xs gs h
    rw [Nat.pow_succ] at h
    have he := ih (xs.drop (2 ^ k)) gs (by rw [List.length_drop]; omega)
    have hf := ih (xs.take (2 ^ k)) (halfG k (xs.drop (2 ^ k)) gs).1 (by rw [List.length_take]; omega)
    have hg := ih (halfG k (xs.drop (2 ^ k)) gs).2 (halfG k (xs.take (2 ^ k)) (halfG k (xs.drop (2 ^ k)) gs).1).1 he.2
    simp only [halfG, hcN, List.length_append, pairG_len, outsL_len, Nat.pow_succ]
    omega
theorem halfG_succ (k : Nat) (xs : List Int) (gs : List G3) (e f g : List G3 × List Int) (he : e = halfG k (xs.drop (2 ^ k)) gs) (hf : f = halfG k (xs.take (2 ^ k)) e.1) (hg : g = halfG k e.2 f.1) :
    halfG (k + 1) xs gs = (g.1 ++ pairG 2 e.2 f.2 (2 ^ k), g.2 ++ outsL g.1.length (2 ^ k)) := by subst he hf hg; rfl

theorem cell2_0 (w : World) (x y : Value) (t : TypeId) : (w.alloc (.cells #[x, y] t)).cell? ⟨w.heap.size, 0, none⟩ = some x := by simp only [World.cell?, heap_alloc_new]; rfl
theorem cell2_1 (w : World) (x y : Value) (t : TypeId) : (w.alloc (.cells #[x, y] t)).cell? ⟨w.heap.size, 1, none⟩ = some y := by simp only [World.cell?, heap_alloc_new]; rfl

set_option maxHeartbeats 4000000 in
set_option maxRecDepth 100000 in
theorem implHalf_any : ∀ (k : Nat) (B gp : Nat) (PT : TypeId) (hP : PT ≠ 88) (hP2 : 86 ≠ PT) (v : Value) (xs : List Int) (gs : List G3) (hk : k ≤ 3) (hx : xs.length = 2 ^ k) (hg : gs.length + hcN k ≤ 10000) (w : World) (h : ST B gp PT w gs) (h1 : TL w v xs),
    Calls Tryd.prog 93 #[.pointer (some ⟨gp, 0, none⟩), v] w fun e w' => ∃ r, e = .returned r ∧ ST B gp PT w' (halfG k xs gs).1 ∧ TL w' r (halfG k xs gs).2 ∧ AD B gp PT w w' ∧ ((0 = k ∧ r = v) ∨ w'.ownsRow w.heap.size 86 1 r (halfG k xs gs).2.length (i16s (halfG k xs gs).2)) := by
  intro k
  induction k with
  | zero =>
    intro B gp PT hP hP2 v xs gs hk hx hg w h h1
    have HS := Lib.hid h; have H1 := Lib.hid h1
    obtain ⟨b, off, c, rfl, _, _⟩ := h1.form
    rw [hx] at H1 ⊢
    have HA := Lib.hid (AD.refl B gp PT w)
    clear h h1 hP hP2 hg hx
    go_enter Tryd.func93, Tryd.ntmps93
    go_wp2_with fail
    go_ret
    exact ⟨_, rfl, HS.out, H1.out, HA.out, .inl (by simp)⟩
  | succ k ih =>
    intro B gp PT hP hP2 v xs gs hk hx hg w h h1
    have H := Lib.hid h; have H1 := Lib.hid h1; have IH := Lib.hid ih
    have HP := Lib.hid hP; have HP2 := Lib.hid hP2
    obtain ⟨n, hn⟩ : ∃ n, n = 2 ^ k := ⟨_, rfl⟩
    have hn1 : 1 ≤ n := by rw [hn]; exact Nat.one_le_two_pow
    have hn4 : n ≤ 4 := by rw [hn]; exact Nat.pow_le_pow_right (by omega) (show k ≤ 2 by omega)
    have hxn : xs.length = n + n := by rw [hx, Nat.pow_succ, ← hn]; omega
    have hgn : gs.length + (3 * hcN k + n) ≤ 10000 := by rw [hn]; exact hg
    obtain ⟨b, off, c, rfl, hcl, hcm⟩ := h1.form
    rw [hxn] at hcl H1 ⊢
    have td := H1.out.drop n (by omega)
    have ta := H1.out.take n (by omega)
    rw [show n + n - n = n from by omega] at td
    have TD := Lib.hid td; have TA := Lib.hid ta
    have HK : Hid (k ≤ 3) := Lib.hid (by omega)
    have HN := Lib.hid hn; have HXN := Lib.hid hxn; have HG := Lib.hid hgn
    obtain ⟨m, hm⟩ : ∃ m, m = n + n := ⟨_, rfl⟩
    clear ih td ta hx hg hgn hxn hP hP2 h h1 H1 hk hn
    have m1 : ((m : Int) == 1) = false := by simp; omega
    have HM := Lib.hid hm; have HCL := Lib.hid hcl; have HCM := Lib.hid hcm
    rw [← hm]
    clear hm hcl hcm
    go_enter Tryd.func93, Tryd.ntmps93
    go_wp2_with fail
    rw [HM.out]
    refine (halves_any b off c n hn1 HCL.out HCM.out w).mono ?_
    rintro e w0 ⟨rfl, hb0⟩
    have HA0 := Lib.hid (AD.of_below (PT := PT) hb0 H.out.1 H.out.lt)
    replace H := Lib.hid (H.out.below hb0)
    replace TD := Lib.hid (TD.out.below hb0); replace TA := Lib.hid (TA.out.below hb0)
    clear hb0
    go_wp2_with fail
    refine (IH.out B gp PT HP.out HP2.out _ _ gs HK.out (show (xs.drop n).length = 2 ^ k from by rw [List.length_drop, HXN.out, ← HN.out]; omega) (by have := HG.out; omega) _ H.out TD.out).mono ?_
    rintro e w1 ⟨r1, rfl, hs1, ht1, ha1, _⟩
    have L1 := Lib.hid (halfG_len k (xs.drop n) gs (show (xs.drop n).length = 2 ^ k from by rw [List.length_drop, HXN.out, ← HN.out]; omega))
    obtain ⟨E, hE⟩ : ∃ E, E = halfG k (xs.drop n) gs := ⟨_, rfl⟩
    rw [← hE] at hs1 ht1 L1
    have HE := Lib.hid hE; have S1 := Lib.hid hs1; have T1 := Lib.hid ht1; have TA1 := Lib.hid (TA.out.ad HP2.out ha1)
    have A1 := Lib.hid (HA0.out.trans ha1)
    obtain ⟨b1, o1, c1, rfl, _, _⟩ := ht1.form
    clear hE hs1 ht1 ha1 HA0 H
    go_wp2_with fail
    refine (IH.out B gp PT HP.out HP2.out _ _ E.1 HK.out (show (xs.take n).length = 2 ^ k from by rw [List.length_take, HXN.out, ← HN.out]; omega) (by have := HG.out; have := L1.out.1; omega) _ S1.out TA1.out).mono ?_
    rintro e w2 ⟨r2, rfl, hs2, ht2, ha2, _⟩
    have L2 := Lib.hid (halfG_len k (xs.take n) E.1 (show (xs.take n).length = 2 ^ k from by rw [List.length_take, HXN.out, ← HN.out]; omega))
    obtain ⟨F, hF⟩ : ∃ F, F = halfG k (xs.take n) E.1 := ⟨_, rfl⟩
    rw [← hF] at hs2 ht2 L2
    have HF := Lib.hid hF; have S2 := Lib.hid hs2; have T2 := Lib.hid ht2; have T12 := Lib.hid (T1.out.ad HP2.out ha2)
    have A2 := Lib.hid (A1.out.trans ha2)
    obtain ⟨b2, o2, c2, rfl, _, _⟩ := ht2.form
    clear hF hs2 ht2 ha2
    go_wp2_with fail
    refine (IH.out B gp PT HP.out HP2.out _ _ F.1 HK.out L1.out.2 (by have := HG.out; have := L1.out.1; have := L2.out.1; omega) _ S2.out T12.out).mono ?_
    rintro e w3 ⟨r3, rfl, hs3, ht3, ha3, _⟩
    have L3 := Lib.hid (halfG_len k E.2 F.1 L1.out.2)
    obtain ⟨G, hG⟩ : ∃ G, G = halfG k E.2 F.1 := ⟨_, rfl⟩
    rw [← hG] at hs3 ht3 L3
    have HGG := Lib.hid hG; have S3 := Lib.hid hs3; have T3 := Lib.hid ht3; have T13 := Lib.hid (T12.out.ad HP2.out ha3); have T23 := Lib.hid (T2.out.ad HP2.out ha3)
    have A3 := Lib.hid (A2.out.trans ha3)
    obtain ⟨b3, o3, c3, rfl, _, _⟩ := ht3.form
    clear hG hs3 ht3 ha3
    go_wp2_with fail
    refine (implPlus_any B gp PT HP.out HP2.out _ _ E.2 F.2 G.1 (by have := HG.out; have := L1.out; have := L2.out.1; have := L3.out.1; rw [← HN.out] at *; omega) (by rw [L1.out.2, L2.out.2]) _ S3.out T13.out T23.out).mono ?_
    rintro e w4 ⟨r4, rfl, hs4, ho4, ha4⟩
    have EE := Lib.hid (halfG_succ k xs gs E F G (by rw [← HN.out]; exact HE.out) (by rw [← HN.out]; exact HF.out) HGG.out)
    have HL3 : Hid (G.1.length ≤ 10000) := Lib.hid (by have := HG.out; have := L1.out.1; have := L2.out.1; have := L3.out.1; omega)
    rw [← HN.out] at EE
    rw [L1.out.2, ← HN.out] at hs4 ho4
    have S4 := Lib.hid hs4; have O4 := Lib.hid ho4; have T34 := Lib.hid (T3.out.ad HP2.out ha4); have A4 := Lib.hid (A3.out.trans ha4)
    obtain ⟨d4, c4, rfl, _, _⟩ := own_formu ho4
    have G2 : Hid (G.2.length = n) := Lib.hid (L3.out.2.trans HN.out.symm)
    clear hs4 ho4 ha4
    have hb5 := (nw1 w4 (.cells #[.slice (some ⟨b3, o3, none⟩) G.2.length c3, .slice d4 n c4] 72)).2.1
    have hcc := concat2_any (.slice (some ⟨b3, o3, none⟩) G.2.length c3) (.slice d4 n c4) G.2 (outsL G.1.length n) w4.heap.size (by rw [G2.out]; omega) (by rw [G2.out]; omega) (by rw [outsL_len]; omega) _ (by simp) (cell2_0 w4 _ _ _) (cell2_1 w4 _ _ _) (T34.out.below hb5) ((TL.of_own (by rw [outsL_len]; exact O4.out) (by rw [outsL_len]; omega) (outsL_w _ _ (by have := HL3.out; omega))).below hb5)
    have HCC := Lib.hid hcc; have HB5 := Lib.hid hb5
    clear hcc hb5
    go_wp2_with fail
    refine HCC.out.mono ?_
    rintro e w7 ⟨r, rfl, ho, hb⟩
    have HB7 := Lib.hid (HB5.out.trans (hb.mono HB5.out.size))
    have HO := Lib.hid ho
    clear ho hb
    go_wp2_with fail
    go_ret
    rw [EE.out]
    exact ⟨_, rfl, S4.out.below HB7.out, TL.of_own HO.out (by rw [List.length_append, G2.out]; omega) (fun z hz => (List.mem_append.1 hz).elim (T34.out.all z) (outsL_w _ _ (by have := HL3.out; omega) z)), A4.out.trans (AD.of_below HB7.out S4.out.1 S4.out.lt), .inr (own_low HO.out (by have := A4.out.size; have := HB5.out.size; omega))⟩

set_option maxHeartbeats 4000000 in
set_option maxRecDepth 100000 in
theorem specHalf_any : ∀ (k : Nat) (B gp : Nat) (PT : TypeId) (hP : PT ≠ 88) (hP2 : 86 ≠ PT) (v : Value) (xs : List Int) (gs : List G3) (hk : k ≤ 3) (hx : xs.length = 2 ^ k) (hg : gs.length + hcN k ≤ 10000) (w : World) (h : ST B gp PT w gs) (h1 : TL w v xs),
    Calls Tryd.prog 91 #[.pointer (some ⟨gp, 0, none⟩), v] w fun e w' => ∃ r, e = .returned r ∧ ST B gp PT w' (halfG k xs gs).1 ∧ TL w' r (halfG k xs gs).2 ∧ AD B gp PT w w' ∧ ((0 = k ∧ r = v) ∨ w'.ownsRow w.heap.size 86 1 r (halfG k xs gs).2.length (i16s (halfG k xs gs).2)) := by
  intro k
  induction k with
  | zero =>
    intro B gp PT hP hP2 v xs gs hk hx hg w h h1
    have HS := Lib.hid h; have H1 := Lib.hid h1
    obtain ⟨b, off, c, rfl, _, _⟩ := h1.form
    rw [hx] at H1 ⊢
    have HA := Lib.hid (AD.refl B gp PT w)
    clear h h1 hP hP2 hg hx
    go_enter Tryd.func91, Tryd.ntmps91
    go_wp2_with fail
    go_ret
    exact ⟨_, rfl, HS.out, H1.out, HA.out, .inl (by simp)⟩
  | succ k ih =>
    intro B gp PT hP hP2 v xs gs hk hx hg w h h1
    have H := Lib.hid h; have H1 := Lib.hid h1; have IH := Lib.hid ih
    have HP := Lib.hid hP; have HP2 := Lib.hid hP2
    obtain ⟨n, hn⟩ : ∃ n, n = 2 ^ k := ⟨_, rfl⟩
    have hn1 : 1 ≤ n := by rw [hn]; exact Nat.one_le_two_pow
    have hn4 : n ≤ 4 := by rw [hn]; exact Nat.pow_le_pow_right (by omega) (show k ≤ 2 by omega)
    have hxn : xs.length = n + n := by rw [hx, Nat.pow_succ, ← hn]; omega
    have hgn : gs.length + (3 * hcN k + n) ≤ 10000 := by rw [hn]; exact hg
    obtain ⟨b, off, c, rfl, hcl, hcm⟩ := h1.form
    rw [hxn] at hcl H1 ⊢
    have td := H1.out.drop n (by omega)
    have ta := H1.out.take n (by omega)
    rw [show n + n - n = n from by omega] at td
    have TD := Lib.hid td; have TA := Lib.hid ta
    have HK : Hid (k ≤ 3) := Lib.hid (by omega)
    have HN := Lib.hid hn; have HXN := Lib.hid hxn; have HG := Lib.hid hgn
    obtain ⟨m, hm⟩ : ∃ m, m = n + n := ⟨_, rfl⟩
    clear ih td ta hx hg hgn hxn hP hP2 h h1 H1 hk hn
    have e1 : ((m : Nat) : Int).tdiv 2 = (n : Int) := by rw [Int.tdiv_eq_ediv_of_nonneg (by omega)]; omega
    have e2 : ((m : Nat) : Int) / 2 = (n : Int) := by omega
    have e3 : m - n = n := by omega
    have e4 : (n : Int) ≤ (m : Int) := by omega
    have e5 : (n : Int) ≤ (c : Int) := by omega
    have e6 : (m : Int) ≤ (c : Int) := by omega
    have e7 : (c = n) = False := by simp; omega
    have e8 : ((n : Int) == 0) = false := by simp; omega
    have e9 : c ≤ 9223372036854775807 := by unfold maxLen at hcm; omega
    have HM := Lib.hid hm; have HCL := Lib.hid hcl; have HCM := Lib.hid hcm
    rw [← hm]
    clear hm hcl hcm
    have HA0 := Lib.hid (AD.refl B gp PT w)
    go_enter Tryd.func91, Tryd.ntmps91
    go_wp2_with fail
    refine (IH.out B gp PT HP.out HP2.out _ _ gs HK.out (show (xs.drop n).length = 2 ^ k from by rw [List.length_drop, HXN.out, ← HN.out]; omega) (by have := HG.out; omega) _ H.out TD.out).mono ?_
    rintro e w1 ⟨r1, rfl, hs1, ht1, ha1, _⟩
    have L1 := Lib.hid (halfG_len k (xs.drop n) gs (show (xs.drop n).length = 2 ^ k from by rw [List.length_drop, HXN.out, ← HN.out]; omega))
    obtain ⟨E, hE⟩ : ∃ E, E = halfG k (xs.drop n) gs := ⟨_, rfl⟩
    rw [← hE] at hs1 ht1 L1
    have HE := Lib.hid hE; have S1 := Lib.hid hs1; have T1 := Lib.hid ht1; have TA1 := Lib.hid (TA.out.ad HP2.out ha1)
    have A1 := Lib.hid (HA0.out.trans ha1)
    obtain ⟨b1, o1, c1, rfl, _, _⟩ := ht1.form
    clear hE hs1 ht1 ha1 HA0 H
    go_wp2_with fail
    refine (IH.out B gp PT HP.out HP2.out _ _ E.1 HK.out (show (xs.take n).length = 2 ^ k from by rw [List.length_take, HXN.out, ← HN.out]; omega) (by have := HG.out; have := L1.out.1; omega) _ S1.out TA1.out).mono ?_
    rintro e w2 ⟨r2, rfl, hs2, ht2, ha2, _⟩
    have L2 := Lib.hid (halfG_len k (xs.take n) E.1 (show (xs.take n).length = 2 ^ k from by rw [List.length_take, HXN.out, ← HN.out]; omega))
    obtain ⟨F, hF⟩ : ∃ F, F = halfG k (xs.take n) E.1 := ⟨_, rfl⟩
    rw [← hF] at hs2 ht2 L2
    have HF := Lib.hid hF; have S2 := Lib.hid hs2; have T2 := Lib.hid ht2; have T12 := Lib.hid (T1.out.ad HP2.out ha2)
    have A2 := Lib.hid (A1.out.trans ha2)
    obtain ⟨b2, o2, c2, rfl, _, _⟩ := ht2.form
    clear hF hs2 ht2 ha2
    go_wp2_with fail
    refine (IH.out B gp PT HP.out HP2.out _ _ F.1 HK.out L1.out.2 (by have := HG.out; have := L1.out.1; have := L2.out.1; omega) _ S2.out T12.out).mono ?_
    rintro e w3 ⟨r3, rfl, hs3, ht3, ha3, _⟩
    have L3 := Lib.hid (halfG_len k E.2 F.1 L1.out.2)
    obtain ⟨G, hG⟩ : ∃ G, G = halfG k E.2 F.1 := ⟨_, rfl⟩
    rw [← hG] at hs3 ht3 L3
    have HGG := Lib.hid hG; have S3 := Lib.hid hs3; have T3 := Lib.hid ht3; have T13 := Lib.hid (T12.out.ad HP2.out ha3); have T23 := Lib.hid (T2.out.ad HP2.out ha3)
    have A3 := Lib.hid (A2.out.trans ha3)
    obtain ⟨b3, o3, c3, rfl, _, _⟩ := ht3.form
    clear hG hs3 ht3 ha3
    go_wp2_with fail
    refine (specXor_any B gp PT HP.out HP2.out _ _ E.2 F.2 G.1 (by have := HG.out; have := L1.out; have := L2.out.1; have := L3.out.1; rw [← HN.out] at *; omega) (by rw [L1.out.2, L2.out.2]) _ S3.out T13.out T23.out).mono ?_
    rintro e w4 ⟨r4, rfl, hs4, ho4, ha4⟩
    have EE := Lib.hid (halfG_succ k xs gs E F G (by rw [← HN.out]; exact HE.out) (by rw [← HN.out]; exact HF.out) HGG.out)
    have HL3 : Hid (G.1.length ≤ 10000) := Lib.hid (by have := HG.out; have := L1.out.1; have := L2.out.1; have := L3.out.1; omega)
    rw [← HN.out] at EE
    rw [L1.out.2, ← HN.out] at hs4 ho4
    have S4 := Lib.hid hs4; have O4 := Lib.hid ho4; have T34 := Lib.hid (T3.out.ad HP2.out ha4); have A4 := Lib.hid (A3.out.trans ha4)
    obtain ⟨d4, c4, rfl, _, _⟩ := own_formu ho4
    have G2 : Hid (G.2.length = n) := Lib.hid (L3.out.2.trans HN.out.symm)
    clear hs4 ho4 ha4
    obtain ⟨i0, hi, hz0, hz1, hz2⟩ := info_parts infoI16
    rw [G2.out]
    obtain ⟨B2, hB2⟩ : ∃ B2, B2 = w4.heap.size := ⟨_, rfl⟩
    have m1 : (w4.alloc (.cells #[] 86)).ownsRow B2 86 1 (.slice (some ⟨w4.heap.size, 0, none⟩) 0 0) 0 [] := World.ownsRow_made _ #[] 0 (Nat.le_of_eq hB2) (Nat.zero_le _) rfl
    have m2 : Below w4.heap.size w4 (w4.alloc (.cells #[] 86)) := (nw1 w4 _).2.1
    have M1 := Lib.hid m1; have M2 := Lib.hid m2
    have T5 := Lib.hid (T34.out.below m2); have O5 := Lib.hid (owb O4.out m2)
    clear m1 m2
    rw [← hB2] at M2
    have HB2 := Lib.hid hB2
    clear hB2
    go_wp2_with (at_builtin; refine wpList_append_own _ rfl _ _ 24 rfl B2 86 i0 (.int .i16 0) 1 2 Tryd.underlying24 hi hz0 hz1 hz2 rfl (by decide) _ 0 _ rfl M1.out ⟨b3, o3, none⟩ n c3 (i16s G.2) rfl (by rw [i16s_len, G2.out]; omega) ?c1 ?c2 ?c3 ?c4 ?c5 ?_)
    case c1 => exact T5.out.src2 G2.out
    case c2 => exact i16s_one _
    case c3 => unfold maxLen; omega
    case c4 => omega
    case c5 => have := M2.out.size; have := HB2.out; omega
    intro s5 w5 hown hgrow _
    have B5 := Lib.hid (M2.out.grown hgrow (by have := M2.out.size; have := HB2.out; omega) (fun x hx => (own_block M1.out x hx).1))
    have O6 := Lib.hid (owb O4.out (HB2.out ▸ B5.out))
    replace hown : w5.ownsRow B2 86 1 s5 n (i16s G.2) := by simpa using hown
    have O7 := Lib.hid hown
    obtain ⟨A5, c5, rfl, _, _⟩ := own_formu hown
    have htt := TL.of_own (xs := outsL G.1.length n) (by rw [outsL_len]; exact O6.out) (by rw [outsL_len]; omega) (outsL_w _ _ (by have := HL3.out; omega))
    obtain ⟨b6, o6, c6, hs6, _, _⟩ := htt.form
    rw [outsL_len] at hs6
    cases hs6
    have T6 := Lib.hid htt
    clear hown hgrow htt
    go_wp2_with (at_builtin; refine wpList_append_own _ rfl _ _ 24 rfl B2 86 i0 (.int .i16 0) 1 2 Tryd.underlying24 hi hz0 hz1 hz2 rfl (by decide) _ _ _ rfl O7.out ⟨b6, o6, none⟩ n c4 (i16s (outsL G.1.length n)) rfl (by rw [i16s_len, outsL_len]; omega) ?c1 ?c2 ?c3 ?c4 ?c5 ?_)
    case c1 => exact T6.out.src
    case c2 => exact i16s_one _
    case c3 => unfold maxLen; omega
    case c4 => omega
    case c5 => have := B5.out.size; have := HB2.out; omega
    intro s8 w8 hown hgrow _
    have B8 := Lib.hid (B5.out.grown hgrow (by have := B5.out.size; have := HB2.out; omega) (fun x hx => (own_block O7.out x hx).1))
    have HO := Lib.hid (show w8.ownsRow B2 86 1 s8 (G.2 ++ outsL G.1.length n).length (i16s (G.2 ++ outsL G.1.length n)) from by
      rw [List.length_append, outsL_len, G2.out, ← i16s_append]
      simpa using hown)
    have HB7 : Hid (Below w4.heap.size w4 w8) := Lib.hid (HB2.out ▸ B8.out)
    clear hown hgrow
    go_wp2_with fail
    go_ret
    rw [EE.out]
    exact ⟨_, rfl, S4.out.below HB7.out, TL.of_own HO.out (by rw [List.length_append, G2.out]; omega) (fun z hz => (List.mem_append.1 hz).elim (T34.out.all z) (outsL_w _ _ (by have := HL3.out; omega) z)), A4.out.trans (AD.of_below HB7.out S4.out.1 S4.out.lt), .inr (own_low HO.out (by have := A4.out.size; have := HB2.out; omega))⟩

end Go.Proofs.YtngaelifkhelbaaDoor
