/-
  A list of words cloned; words struck out of it.
-/
import Derived.Test.YthhjhfkcgokffaaYe
import Derived.Test.YthhjhfkcgokffaaWj
import Derived.Lib.SliceRun
namespace Go.Proofs.Ythhjhfkcgokffaa
set_option linter.unusedVariables false
set_option linter.unusedSimpArgs false
open Go.ChangeShapes Go.WideShapes Go.ChangeAt Go.RowKit

set_option maxHeartbeats 1000000 in
theorem cloneWs_any (v : Value) (vs : List Value) (hn : vs.length ≤ 1048576) (w : World) (h : VS w v vs) :
    Calls Try.prog 116 #[v] w fun e w' => ∃ r, e = .returned r ∧ w'.ownsRow w.heap.size 25 1 r vs.length vs ∧ Below w.heap.size w w' := by
  obtain ⟨i0, hi, hz0, hz1, hz2⟩ := info_parts infoWord
  have E0 := Lib.hid (World.ownsRow_made w (e := 25) (size := 1) (base := w.heap.size) #[] 0 (Nat.le_refl _) (Nat.zero_le _) rfl)
  have HS := Lib.hid (h.below ((Below.refl _ w).alloc (Nat.le_refl _) (.cells #[] 25)))
  have q : ∀ (w : World) (a : Option Addr) (n c n' c' : Nat), (binOp .eql 44 (.slice a n c) (.slice none n' c')).run Try.prog w = .ok (.bool a.isNone) w := fun w a n c n' c' => Lib.run_eql_slice_nil w _ _ a n c n' c' Try.underlying44
  obtain ⟨A, c, rfl, hc, h1⟩ := h
  cases A with
  | none =>
    have hl0 : vs.length = 0 := by
      rcases Nat.eq_zero_or_pos vs.length with e | e
      · exact e
      · obtain ⟨b, off, e2, _⟩ := hc e
        cases e2
    have e0 : vs = [] := List.length_eq_zero_iff.1 hl0
    subst e0
    clear hl0 HS hc h1
    show Calls Try.prog _ #[.slice none 0 c] w fun e w' => ∃ r, e = .returned r ∧ w'.ownsRow w.heap.size 25 1 r 0 [] ∧ Below w.heap.size w w'
    go_enter Try.func116, Try.ntmps116
    go_wp2_with fail
    go_ret
    exact ⟨_, rfl, World.ownsRow_nil w w.heap.size 25 1, Below.refl _ _⟩
  | some ad =>
    clear hc h1
    go_enter Try.func116, Try.ntmps116
    go_wp2_with (at_builtin; refine wpList_append_vs rfl _ _ 44 rfl w.heap.size 25 i0 (.slice none 0 0) Try.underlying44 hi hz0 hz1 hz2 rfl _ 0 _ rfl E0.out _ vs rfl HS.out (by omega) (by simp) ?_)
    intro s' wy hown hgrow _
    go_wp2_with fail
    go_ret
    refine ⟨_, rfl, by simpa using hown, ((Below.refl _ w).alloc (Nat.le_refl _) _).grown hgrow (by simp) (by intro k hk; simp [Value.ownBlock] at hk; omega)⟩
/-- what is left of the first n when those are struck out of which p holds -/
def kpt {α : Type} (us : Nat → α) (p : Nat → Bool) : Nat → List α
  | 0 => []
  | n + 1 => kpt us p n ++ (if p n then [] else [us n])
theorem kpt_yes {α : Type} {us : Nat → α} {p : Nat → Bool} {n : Nat} (h : p n = true) : kpt us p (n + 1) = kpt us p n := by rw [kpt, if_pos h, List.append_nil]
theorem kpt_no {α : Type} {us : Nat → α} {p : Nat → Bool} {n : Nat} (h : p n = false) : kpt us p (n + 1) = kpt us p n ++ [us n] := by rw [kpt, if_neg (by rw [h]; decide)]
theorem kpt_len {α : Type} (us : Nat → α) (p : Nat → Bool) : ∀ n, (kpt us p n).length ≤ n
  | 0 => Nat.le_refl _
  | n + 1 => by
    have := kpt_len us p n
    rw [kpt, List.length_append]
    split <;> simp <;> omega
theorem kpt_all {α : Type} {us : Nat → α} {p : Nat → Bool} : ∀ n, (∀ i, i < n → p i = false) → (kpt us p n).length = n ∧ ∀ i, i < n → (kpt us p n)[i]? = some (us i)
  | 0, _ => ⟨rfl, fun i hi => absurd hi (by omega)⟩
  | n + 1, h => by
    obtain ⟨h1, h2⟩ := kpt_all n (fun i hi => h i (by omega))
    rw [kpt_no (h n (by omega))]
    refine ⟨by rw [List.length_append, h1]; rfl, fun i hi => ?_⟩
    by_cases e : i < n
    · rw [List.getElem?_append_left (by omega)]; exact h2 i e
    · obtain rfl : i = n := by omega
      rw [List.getElem?_append_right (by omega), h1]; simp
theorem kpt_one {us : Nat → Value} {p : Nat → Bool} : ∀ n, (∀ i, i < n → (us i).oneCell' = true) → ∀ u ∈ kpt us p n, u.oneCell' = true
  | 0, _, u, hu => by cases hu
  | n + 1, h, u, hu => by
    rw [kpt, List.mem_append] at hu
    rcases hu with hu | hu
    · exact kpt_one n (fun i hi => h i (by omega)) u hu
    · split at hu
      · cases hu
      · rw [List.mem_singleton] at hu
        rw [hu]; exact h n (by omega)
theorem kpt_vw {w : World} {us : Nat → Value} {gs : List (List Int)} {p : Nat → Bool} : ∀ n, (∀ i, i < n → NS w (us i) (gs.getD i [])) → VW w (kpt us p n) (kpt (fun i => gs.getD i []) p n)
  | 0, _ => ⟨rfl, fun i hi => absurd hi (by simp [kpt])⟩
  | n + 1, h => by
    have ih := kpt_vw (p := p) n (fun i hi => h i (by omega))
    by_cases e : p n = true
    · rw [kpt_yes e, kpt_yes e]; exact ih
    · have e' : p n = false := by simpa using e
      rw [kpt_no e', kpt_no e']
      refine ih.append ⟨rfl, fun i hi => ?_⟩
      obtain rfl : i = 0 := by simp at hi; exact hi
      exact ⟨us n, rfl, by simpa using h n (by omega)⟩
/-- the row while words are struck out: i are kept of the first j -/
def KI (us : Nat → Value) (p : Nat → Bool) (n j i : Nat) (cur : List Value) : Prop :=
  cur.length = n ∧ (kpt us p j).length = i ∧ (∀ q, q < i → cur[q]? = (kpt us p j)[q]?) ∧ ∀ q, j ≤ q → q < n → cur[q]? = some (us q)
theorem KI.skip {us : Nat → Value} {p : Nat → Bool} {n j i : Nat} {cur : List Value} (h : KI us p n j i cur) (hp : p j = true) : KI us p n (j + 1) i cur := by
  obtain ⟨h0, h1, h2, h3⟩ := h
  refine ⟨h0, by rw [kpt_yes hp]; exact h1, fun q hq => by rw [kpt_yes hp]; exact h2 q hq, fun q hq hn => h3 q (by omega) hn⟩
theorem KI.keep {us : Nat → Value} {p : Nat → Bool} {n j i : Nat} {cur : List Value} (h : KI us p n j i cur) (hp : p j = false) (hj : j < n) (hij : i ≤ j) : KI us p n (j + 1) (i + 1) (cur.set i (us j)) := by
  obtain ⟨h0, h1, h2, h3⟩ := h
  refine ⟨by rw [List.length_set]; exact h0, by rw [kpt_no hp, List.length_append, h1]; rfl, fun q hq => ?_, fun q hq hn => ?_⟩
  · rw [kpt_no hp, List.getElem?_set]
    by_cases e : i = q
    · subst e
      rw [if_pos rfl, if_pos (by omega), List.getElem?_append_right (by omega), h1]; simp
    · rw [if_neg e, List.getElem?_append_left (by omega)]
      exact h2 q (by omega)
  · rw [List.getElem?_set, if_neg (by omega)]
    exact h3 q (by omega) hn
theorem sets_far {w : World} {g : Nat} : ∀ (vs : List Value) (o : Nat) (w : World) (p : Addr), (p.block ≠ g ∨ p.off < o) → (w.setCells g o vs).cell? p = w.cell? p
  | [], o, w, p, _ => rfl
  | v :: r, o, w, p, h => by
    rw [World.setCells, sets_far (w := w) (g := g) r (o + 1) _ p (by rcases h with h | h; exact .inl h; exact .inr (by omega))]
    refine World.cell?_setCell_other _ _ _ _ ?_
    intro e
    rcases h with h | h
    · exact h (by rw [← e])
    · have : p.off = o := by rw [← e]
      omega
theorem sets_below {B g : Nat} {a : World} (hg : B ≤ g) : ∀ (vs : List Value) (o : Nat) (w : World), Below B a w → Below B a (w.setCells g o vs)
  | [], _, _, h => h
  | v :: r, o, w, h => by
    rw [World.setCells]; exact sets_below hg r (o + 1) _ (h.setCell (p := ⟨g, o, none⟩) hg v)
theorem sets_size (g : Nat) : ∀ (vs : List Value) (o : Nat) (w : World), (w.setCells g o vs).heap.size = w.heap.size
  | [], _, _ => rfl
  | v :: r, o, w => by
    rw [World.setCells, sets_size g r (o + 1)]
    simp [World.setCell]
set_option maxHeartbeats 4000000 in
theorem deleteFunc_any (w0 : World) (v : Value) (n : Nat) (hn : n ≤ 1048576) (gf : Nat) (lb : Array Value) (hg : ∀ args w, (callFunc gf args).run Try.prog w = .ok (.enter gf args) w) (us : Nat → Value) (hfm : ∀ i, i < n → ∃ A2 n2 c2, us i = .slice A2 n2 c2) (p : Nat → Bool) (vs : List Value) (hvs : ∀ i, i < n → vs[i]? = some (us i)) (w : World)
    (hb0 : Below w0.heap.size w0 w) (ho : w.ownsRow w0.heap.size 25 1 v n vs) (hp : TestAt gf lb us p n w0) :
    Calls Try.prog 115 #[v, .func (.func gf) #[] lb] w fun e w' => ∃ r, e = .returned r ∧ VS w' r (kpt us p n) ∧ Below w0.heap.size w0 w' := by
  have h1 : ∀ i, i < n → (us i).oneCell' = true := fun i hi => by
    obtain ⟨A2, n2, c2, e⟩ := hfm i hi
    rw [e]; rfl
  have hform := Lib.hid hfm
  clear hfm
  obtain ⟨A, c, rfl, hnm, hA⟩ := own_form ho
  have hzv : ∀ w, (zeroValue 25).run Try.prog w = .ok (.slice none 0 0) w := fun _ => by kernel_rfl
  have hc : 0 < n → ∃ b off, A = some ⟨b, off, none⟩ ∧ b < w.heap.size ∧ ∀ i, i < n → w.cell? ⟨b, off + i, none⟩ = some (us i) := fun h0 => by
    obtain ⟨g, rfl, _, hlt⟩ := hA h0
    exact ⟨g, 0, rfl, hlt, fun i hi => by rw [Nat.zero_add, ho.cellAt i (by omega)]; exact hvs i hi⟩
  have HIF := Lib.hid (indexFuncW_any A n c (by omega) gf lb hg us p w hc (hp.below hb0))
  have HP := Lib.hid hp
  have HB0 := Lib.hid hb0
  have HO := Lib.hid ho
  have HA := Lib.hid hA
  have HC := Lib.hid hc
  have HV := Lib.hid hvs
  have H1 := Lib.hid h1
  have hln : vs.length = n := by have := ho.1; omega
  have HLN := Lib.hid hln
  have hcn : n ≤ c := by
    rcases ho.2 with ⟨e, h0⟩ | ⟨g, cap, cur, e, _, _, hnc, _⟩
    · cases e; omega
    · cases e; exact hnc
  have hcm : c ≤ 9223372036854775807 := by
    rcases ho.2 with ⟨e, h0⟩ | ⟨g, cap, cur, e, _, _, _, hm, _⟩
    · cases e; omega
    · cases e; unfold maxLen at hm; omega
  clear hp hb0 ho hA hc hvs h1 hln hnm
  go_enter Try.func115, Try.ntmps115
  go_wp2_with fail
  refine HIF.out.mono ?_
  rintro e w1 ⟨r, rfl, hr, hb1⟩
  have HB1 := Lib.hid hb1
  have HB01 := Lib.hid (HB0.out.trans (hb1.mono HB0.out.size))
  have HO1 := Lib.hid (own_below HO.out hb1)
  clear hb1 HIF
  rcases hr with ⟨rfl, hall⟩ | ⟨k0, rfl, hk0, hyes, hfst⟩
  · have hk := kpt_all (us := us) n hall
    have HVS : Hid (VS w1 (.slice A n c) (kpt us p n)) := Lib.hid ⟨A, c, by rw [hk.1], fun h0 => by
      rw [hk.1] at h0
      obtain ⟨b, off, e, hlt, hcell⟩ := HC.out h0
      refine ⟨b, off, e, Nat.lt_of_lt_of_le hlt HB1.out.size, fun i u hu => ?_⟩
      have hi : i < n := by have := (List.getElem?_eq_some_iff.1 hu).1; omega
      rw [hk.2 i hi] at hu
      cases hu
      exact (HB1.out.cell (p := ⟨b, off + i, none⟩) hlt).trans (hcell i hi), kpt_one n H1.out⟩
    clear hall hk
    go_wp2_with fail
    go_ret
    exact ⟨_, rfl, HVS.out, HB01.out⟩
  · obtain ⟨g, rfl, hg0, hglt⟩ := HA.out (by omega)
    have hk := kpt_all (us := us) k0 hfst
    have hki : KI us p n (k0 + 1) k0 vs := by
      refine ⟨HLN.out, by rw [kpt_yes hyes]; exact hk.1, fun q hq => ?_, fun q hq hqn => HV.out q hqn⟩
      rw [kpt_yes hyes, hk.2 q hq]; exact HV.out q (by omega)
    have HKI := Lib.hid hki
    have T0 : ((k0 : Int) == -1) = false := beq_eq_false_iff_ne.2 (by omega)
    have hgw1 : g < w1.heap.size := Nat.lt_of_lt_of_le hglt HB1.out.size
    clear hki hk hfst hyes
    go_wp2_with fail
    go_loopw [5, 6] (fun y z wr => ∃ (i j : Nat) (cur : List Value), y = .int .i64 (i : Int) ∧ z = .int .i64 (j : Int) ∧ i < j ∧ j ≤ n ∧ g < wr.heap.size ∧ Hid (KI us p n j i cur) ∧ Hid (wr.ownsRow w0.heap.size 25 1 (.slice (some ⟨g, 0, none⟩) n c) n cur) ∧ Hid (Below w0.heap.size w0 wr)) (fun _ z _ => n - (intOf z).toNat)
    case atStart => exact ⟨k0, k0 + 1, vs, rfl, by go_num, by omega, by omega, hgw1, HKI, HO1, HB01⟩
    case round =>
      obtain ⟨i, j, cur, rfl, rfl, hij, hj, hgr, HK, HR, HBR⟩ := hrel
      clear HKI HO1 HB1 HB01 hgw1
      by_cases hlt : j < n
      · have i1 : (j : Int) < (n : Int) := by omega
        have i2 : (i : Int) < (n : Int) := by omega
        have q1 : wr.cell? ⟨g, j, none⟩ = some (us j) := by rw [HR.out.cellAt j (by omega)]; exact HK.out.2.2.2 j (Nat.le_refl _) hlt
        have hone := H1.out j hlt
        have hcall := HP.out j wr hlt HBR.out
        cases hq : p j with
        | true =>
          rw [hq] at hcall
          have HKN := Lib.hid (HK.out.skip hq)
          obtain ⟨u, hu⟩ : ∃ u, u = us j := ⟨_, rfl⟩
          rw [← hu] at q1 hcall
          have HCA := Lib.hid hcall
          clear hu hcall hq hone
          go_wp2_with (go_at_fn gf; refine HCA.out.mono ?_)
          rintro e w2 ⟨rfl, hb2⟩
          have HO2 := Lib.hid (own_below HR.out hb2)
          have HB2 := Lib.hid (HBR.out.trans (hb2.mono HBR.out.size))
          have hg2 : g < w2.heap.size := Nat.lt_of_lt_of_le hgr hb2.size
          clear hb2
          go_wp2_with fail
          exact ⟨⟨i, j + 1, cur, rfl, by go_num, by omega, by omega, hg2, HKN, HO2, HB2⟩, by simp [intOf]; omega⟩
        | false =>
          rw [hq] at hcall
          have HKN := Lib.hid (HK.out.keep hq hlt (by omega))
          have hcl : cur.length = n := HK.out.1
          obtain ⟨A2, n2, c2, hu2⟩ : ∃ A2 n2 c2, us j = .slice A2 n2 c2 := hform.out j hlt
          obtain ⟨u, hu⟩ : ∃ u, u = us j := ⟨_, rfl⟩
          rw [← hu] at q1 hcall HKN hu2
          subst hu2
          have HCA := Lib.hid hcall
          clear hu hcall hq hone
          go_wp2_with (go_at_fn gf; refine HCA.out.mono ?_)
          rintro e w2 ⟨rfl, hb2⟩
          have ho2 := own_below HR.out hb2
          have hb3 := HBR.out.trans (hb2.mono HBR.out.size)
          have hg2 : g < w2.heap.size := Nat.lt_of_lt_of_le hgr hb2.size
          have h4 : w2.cell? ⟨g, i, none⟩ = cur[i]? := ho2.cellAt i (by omega)
          have h5 : w2.frozen? ⟨g, i, none⟩ = false := ho2.frozenAt i
          have H6 := Lib.hid (ho2.stored i (.slice A2 n2 c2)).1
          have H8 := Lib.hid (hb3.setCell (p := ⟨g, i, none⟩) hg0 (.slice A2 n2 c2))
          have h9 : g < (w2.setCell ⟨g, i, none⟩ (.slice A2 n2 c2)).heap.size := by simpa [World.setCell] using hg2
          obtain ⟨y, hy⟩ : ∃ y, cur[i]? = some y := ⟨_, List.getElem?_eq_getElem (by omega)⟩
          rw [hy] at h4
          have H9 := Lib.hid h9
          clear hb2 ho2 hb3 hg2 hy h9 hcl q1
          go_wp2_with fail
          exact ⟨⟨i + 1, j + 1, _, by go_num, by go_num, by omega, by omega, H9.out, HKN, H6, H8⟩, by simp [intOf]; omega⟩
      · obtain rfl : j = n := by omega
        have T1 : decide ((j : Int) < (j : Int)) = false := by simp
        have i2 : (i : Int) ≤ (j : Int) := by omega
        have i3 : (i : Int) ≤ (c : Int) := by omega
        have hcl : ∀ ty, (Builtin.clear_ #[44] ty #[.slice (some ⟨g, i, none⟩) (j - i) (c - i)]).run Try.prog wr = .ok (.tuple #[]) (wr.setCells g i (List.replicate (j - i) (.slice none 0 0))) :=
          fun ty => Lib.run_clear_slice wr _ _ ty _ Try.underlying44 hzv rfl rfl g i _ _ (by omega)
            (fun t ht => by rw [HR.out.cellAt (i + t) (by omega), List.getElem?_eq_getElem (by have := HK.out.1; omega)]; rfl)
            (fun t ht => HR.out.frozenAt _)
        obtain ⟨w9, hw9⟩ : ∃ w9, w9 = wr.setCells g i (List.replicate (j - i) (.slice none 0 0)) := ⟨_, rfl⟩
        have HB9 : Hid (Below w0.heap.size w0 w9) := Lib.hid (by rw [hw9]; exact sets_below hg0 _ i wr HBR.out)
        have hki := HK.out
        have HVS : Hid (VS w9 (.slice (some ⟨g, 0, none⟩) i c) (kpt us p j)) := Lib.hid ⟨_, c, by rw [hki.2.1], fun h0 => ⟨g, 0, rfl, by rw [hw9, sets_size]; exact hgr, fun q u hu => by
          have hq : q < i := by have := (List.getElem?_eq_some_iff.1 hu).1; have := hki.2.1; omega
          rw [Nat.zero_add, hw9, sets_far (w := wr) _ i wr ⟨g, q, none⟩ (.inr hq), HR.out.cellAt q (by omega), hki.2.2.1 q hq]
          exact hu⟩, kpt_one j H1.out⟩
        rw [← hw9] at hcl
        clear hw9 hki HK HR HBR
        go_wp2_with fail
        go_ret
        exact ⟨_, rfl, HVS.out, HB9.out⟩
end Go.Proofs.Ythhjhfkcgokffaa
