/-
  Words found for each entry of a list; is a list closed?
-/
import Derived.Test.YthhjhfkcgokffaaYp
namespace Go.Proofs.Ythhjhfkcgokffaa
set_option linter.unusedVariables false
set_option linter.unusedSimpArgs false
open Go.ChangeShapes Go.WideShapes Go.ChangeAt Go.RowKit Go.Shelf

/-- what is asked of a function that finds a word for each entry, with one value kept -/
def FindW (gf : Nat) (x : Value) (us : Nat → Value) (f : Nat → List Int) (n : Nat) (w : World) : Prop :=
  ∀ (i : Nat) (W : World), i < n → Below w.heap.size w W → Calls Try.prog gf #[x, us i] W fun e W' => ∃ r, e = .returned r ∧ PO W' W.heap.size r (f i) ∧ Below W.heap.size W W'
set_option maxHeartbeats 4000000 in
theorem eachWW_any (A : Option Addr) (n c : Nat) (hn : n ≤ 1048576) (gf : Nat) (x : Value) (hg : ∀ args w, (callFunc gf args).run Try.prog w = .ok (.enter gf args) w) (us : Nat → Value) (f : Nat → List Int) (w : World)
    (hc : 0 < n → ∃ b off, A = some ⟨b, off, none⟩ ∧ b < w.heap.size ∧ ∀ i, i < n → w.cell? ⟨b, off + i, none⟩ = some (us i)) (hp : FindW gf x us f n w) :
    Calls Try.prog 105 #[.slice A n c, .func (.func gf) #[x] #[]] w fun e w' => ∃ r, e = .returned r ∧ WO w' w.heap.size w'.heap.size r ((List.range n).map f) ∧ Below w.heap.size w w' := by
  obtain ⟨i0, hi, hz0, hz1, hz2⟩ := info_parts infoWord
  have HC := Lib.hid hc; clear hc
  have HP := Lib.hid hp; clear hp
  have hgl : ((List.range n).map f).length = n := by simp
  have hga : ∀ i, i < n → ((List.range n).map f).getD i [] = f i := fun i hi => by simp [List.getD, hi]
  obtain ⟨gs, hgs⟩ : ∃ gs, gs = (List.range n).map f := ⟨_, rfl⟩
  rw [← hgs] at hgl hga ⊢
  have HGL := Lib.hid hgl
  have HGA := Lib.hid hga
  clear hgl hga hgs
  go_enter Try.func105, Try.ntmps105
  go_wp2_with (at_make; refine wpList_make_full _ rfl _ _ 44 rfl w.heap.size 25 i0 (.slice none 0 0) 1 Try.underlying44 hi hz0 hz1 _ _ _ _ n rfl rfl rfl rfl (by rw [hz2]; omega) (by unfold maxLen; omega) (Nat.le_refl _) ?_)
  intro w1 hown hgrow
  have hb1 : Below w.heap.size w w1 := (Below.refl _ w).grown hgrow (Nat.le_refl _) (fun k hk => by cases hk)
  obtain ⟨g, hg2⟩ : ∃ g, g = w.heap.size := ⟨_, rfl⟩
  rw [← hg2] at hown hb1 ⊢
  have hsz : g < w1.heap.size := (hown.lt g rfl).2
  have HG := Lib.hid hg2; clear hg2
  obtain ⟨vs0, hvs⟩ : ∃ vs0, vs0 = (madeCells #[Value.slice none 0 0] n).toList := ⟨_, rfl⟩
  rw [← hvs] at hown
  have HOWN := Lib.hid hown
  have HB1 := Lib.hid hb1
  clear hown hgrow hvs hb1
  go_wp2_with fail
  go_loopw [13] (fun y wr => ∃ (k : Nat) (vs : List Value) (ws : Nat → Value), y = .int .i64 (k : Int) ∧ k ≤ n ∧ g < wr.heap.size ∧ Hid (Below g w wr) ∧ Hid (wr.ownsRow g 25 1 (.slice (some ⟨g, 0, none⟩) n n) n vs) ∧ Hid ((∀ j, j < k → vs[j]? = some (ws j)) ∧ WR wr (g + 1) wr.heap.size ws gs k)) (fun y _ => n - (intOf y).toNat)
  case atStart => exact ⟨0, vs0, fun _ => .nilFunc, rfl, Nat.zero_le _, hsz, HB1, HOWN, Lib.hid ⟨fun j hj => absurd hj (by omega), WR.zero _ _ _ _ _⟩⟩
  case round =>
    obtain ⟨k, vs, ws, rfl, hk, hgs, HB, HO, HH⟩ := hrel
    clear HB1 HOWN hsz
    by_cases hlt : k < n
    · obtain ⟨b, off, rfl, hlb, hcell⟩ := HC.out (by omega)
      have i1 : (k : Int) < (n : Int) := by omega
      have q1 : wr.cell? ⟨b, off + k, none⟩ = some (us k) := (HB.out.cell (p := ⟨b, off + k, none⟩) (by rw [HG.out]; exact hlb)).trans (hcell k hlt)
      have hcall := HP.out k wr hlt (by rw [← HG.out]; exact HB.out)
      obtain ⟨ux, hux⟩ : ∃ ux, ux = us k := ⟨_, rfl⟩
      rw [← hux] at q1 hcall
      have HCL := Lib.hid hcell
      have HCA := Lib.hid hcall
      clear hcell hux hcall
      go_wp2_with (go_at_fn gf; refine HCA.out.mono ?_)
      rintro e w2 ⟨x2, rfl, hx, hb2⟩
      rw [← HGA.out k hlt] at hx
      have hh3 := HH.out.2.snoc hb2 (Nat.le_refl _) (by omega) hx
      obtain ⟨A2, n2, c2, hx2⟩ := hx.frm
      subst hx2
      have ho3 := own_below HO.out hb2
      have hb3 : Below g w w2 := HB.out.trans (hb2.mono (by omega))
      have hgs2 : g < w2.heap.size := Nat.lt_of_lt_of_le hgs hb2.size
      have hvk : vs.length = n := by have := ho3.1; omega
      have hvs2 : ∀ j, j < k + 1 → (vs.set k (.slice A2 n2 c2))[j]? = some (putAt ws k (.slice A2 n2 c2) j) := fun j hj => by
        by_cases e : j = k
        · subst e
          rw [putAt_same, List.getElem?_set, if_pos rfl, if_pos (by omega)]
        · rw [putAt_other _ _ e, List.getElem?_set, if_neg (fun x => e x.symm)]
          exact HH.out.1 j (by omega)
      have h4 : w2.cell? ⟨g, k, none⟩ = vs[k]? := ho3.cellAt k (by omega)
      have h5 : w2.frozen? ⟨g, k, none⟩ = false := ho3.frozenAt k
      have h6 := Lib.hid (ho3.stored k (.slice A2 n2 c2)).1
      have hw3 : WR (w2.setCell ⟨g, k, none⟩ (.slice A2 n2 c2)) (g + 1) (w2.setCell ⟨g, k, none⟩ (.slice A2 n2 c2)).heap.size (putAt ws k (.slice A2 n2 c2)) gs (k + 1) := by
        have e : (w2.setCell ⟨g, k, none⟩ (.slice A2 n2 c2)).heap.size = w2.heap.size := by simp [World.setCell]
        rw [e]
        refine ⟨fun i hi => ⟨?_, (hh3.1 i hi).2⟩, hh3.2⟩
        have hpo := (hh3.1 i hi).1
        obtain ⟨A', c', e', p1, p2, hz, p3, p4⟩ := hpo
        refine ⟨A', c', e', p1, p2, hz, p3, fun hnz => ?_⟩
        obtain ⟨g', k', rfl, ho⟩ := p4 hnz
        refine ⟨g', k', rfl, ho.kept (grown_put w2 g k (.slice A2 n2 c2)) (.inr ?_)⟩
        rcases ho.2 with ⟨e0, h0⟩ | ⟨g'', cap, cur, e0, hb', hg', _⟩
        · cases e0
        · cases e0
          intro e1
          have e2 : g' = g := by simpa [Value.ownBlock] using e1
          omega
      have h7 := Lib.hid (And.intro hvs2 hw3)
      have h8 := Lib.hid (hb3.setCell (p := ⟨g, k, none⟩) (Nat.le_refl _) (.slice A2 n2 c2))
      have h9 : g < (w2.setCell ⟨g, k, none⟩ (.slice A2 n2 c2)).heap.size := by simpa [World.setCell] using hgs2
      obtain ⟨y, hy⟩ : ∃ y, vs[k]? = some y := ⟨_, List.getElem?_eq_getElem (by omega)⟩
      rw [hy] at h4
      have H9 := Lib.hid h9
      clear q1 HB HO HH hb2 ho3 hh3 hb3 hx hy h9 hgs2 hgs hvk hvs2 hw3
      go_wp2_with fail
      exact ⟨⟨k + 1, _, _, by go_num, by omega, H9.out, h8, h6, h7⟩, by simp [intOf]; omega⟩
    · obtain rfl : k = n := by omega
      have T1 : decide ((k : Int) < (k : Int)) = false := by simp
      have hr := HH.out.2
      have hwo : WO wr g wr.heap.size (.slice (some ⟨g, 0, none⟩) k k) gs := by
        refine WO.of_own HO.out HGL.out (fun i hi => HH.out.1 i (by rw [HGL.out] at hi; exact hi)) ?_
        rw [HGL.out]
        exact ⟨fun i hi => ⟨(hr.1 i hi).1.lower (by omega), (hr.1 i hi).2⟩, hr.2⟩
      have HWO := Lib.hid hwo
      clear hr hwo
      go_wp2_with fail
      go_ret
      exact ⟨_, rfl, by rw [← HG.out]; exact HWO.out, by rw [← HG.out]; exact HB.out⟩
set_option maxHeartbeats 4000000 in
theorem eachNW_any (A : Option Addr) (n c : Nat) (hn : n ≤ 1048576) (gf : Nat) (x : Value) (hg : ∀ args w, (callFunc gf args).run Try.prog w = .ok (.enter gf args) w) (us : Nat → Value) (f : Nat → List Int) (w : World)
    (hc : 0 < n → ∃ b off, A = some ⟨b, off, none⟩ ∧ b < w.heap.size ∧ ∀ i, i < n → w.cell? ⟨b, off + i, none⟩ = some (us i)) (hp : FindW gf x us f n w) :
    Calls Try.prog 108 #[.slice A n c, .func (.func gf) #[x] #[]] w fun e w' => ∃ r, e = .returned r ∧ WO w' w.heap.size w'.heap.size r ((List.range n).map f) ∧ Below w.heap.size w w' := by
  obtain ⟨i0, hi, hz0, hz1, hz2⟩ := info_parts infoWord
  have HC := Lib.hid hc; clear hc
  have HP := Lib.hid hp; clear hp
  have hgl : ((List.range n).map f).length = n := by simp
  have hga : ∀ i, i < n → ((List.range n).map f).getD i [] = f i := fun i hi => by simp [List.getD, hi]
  obtain ⟨gs, hgs⟩ : ∃ gs, gs = (List.range n).map f := ⟨_, rfl⟩
  rw [← hgs] at hgl hga ⊢
  have HGL := Lib.hid hgl
  have HGA := Lib.hid hga
  clear hgl hga hgs
  go_enter Try.func108, Try.ntmps108
  go_wp2_with (at_make; refine wpList_make_full _ rfl _ _ 44 rfl w.heap.size 25 i0 (.slice none 0 0) 1 Try.underlying44 hi hz0 hz1 _ _ _ _ n rfl rfl rfl rfl (by rw [hz2]; omega) (by unfold maxLen; omega) (Nat.le_refl _) ?_)
  intro w1 hown hgrow
  have hb1 : Below w.heap.size w w1 := (Below.refl _ w).grown hgrow (Nat.le_refl _) (fun k hk => by cases hk)
  obtain ⟨g, hg2⟩ : ∃ g, g = w.heap.size := ⟨_, rfl⟩
  rw [← hg2] at hown hb1 ⊢
  have hsz : g < w1.heap.size := (hown.lt g rfl).2
  have HG := Lib.hid hg2; clear hg2
  obtain ⟨vs0, hvs⟩ : ∃ vs0, vs0 = (madeCells #[Value.slice none 0 0] n).toList := ⟨_, rfl⟩
  rw [← hvs] at hown
  have HOWN := Lib.hid hown
  have HB1 := Lib.hid hb1
  clear hown hgrow hvs hb1
  go_wp2_with fail
  go_loopw [13] (fun y wr => ∃ (k : Nat) (vs : List Value) (ws : Nat → Value), y = .int .i64 (k : Int) ∧ k ≤ n ∧ g < wr.heap.size ∧ Hid (Below g w wr) ∧ Hid (wr.ownsRow g 25 1 (.slice (some ⟨g, 0, none⟩) n n) n vs) ∧ Hid ((∀ j, j < k → vs[j]? = some (ws j)) ∧ WR wr (g + 1) wr.heap.size ws gs k)) (fun y _ => n - (intOf y).toNat)
  case atStart => exact ⟨0, vs0, fun _ => .nilFunc, rfl, Nat.zero_le _, hsz, HB1, HOWN, Lib.hid ⟨fun j hj => absurd hj (by omega), WR.zero _ _ _ _ _⟩⟩
  case round =>
    obtain ⟨k, vs, ws, rfl, hk, hgs, HB, HO, HH⟩ := hrel
    clear HB1 HOWN hsz
    by_cases hlt : k < n
    · obtain ⟨b, off, rfl, hlb, hcell⟩ := HC.out (by omega)
      have i1 : (k : Int) < (n : Int) := by omega
      have q1 : wr.cell? ⟨b, off + k, none⟩ = some (us k) := (HB.out.cell (p := ⟨b, off + k, none⟩) (by rw [HG.out]; exact hlb)).trans (hcell k hlt)
      have hcall := HP.out k wr hlt (by rw [← HG.out]; exact HB.out)
      obtain ⟨ux, hux⟩ : ∃ ux, ux = us k := ⟨_, rfl⟩
      rw [← hux] at q1 hcall
      have HCL := Lib.hid hcell
      have HCA := Lib.hid hcall
      clear hcell hux hcall
      go_wp2_with (go_at_fn gf; refine HCA.out.mono ?_)
      rintro e w2 ⟨x2, rfl, hx, hb2⟩
      rw [← HGA.out k hlt] at hx
      have hh3 := HH.out.2.snoc hb2 (Nat.le_refl _) (by omega) hx
      obtain ⟨A2, n2, c2, hx2⟩ := hx.frm
      subst hx2
      have ho3 := own_below HO.out hb2
      have hb3 : Below g w w2 := HB.out.trans (hb2.mono (by omega))
      have hgs2 : g < w2.heap.size := Nat.lt_of_lt_of_le hgs hb2.size
      have hvk : vs.length = n := by have := ho3.1; omega
      have hvs2 : ∀ j, j < k + 1 → (vs.set k (.slice A2 n2 c2))[j]? = some (putAt ws k (.slice A2 n2 c2) j) := fun j hj => by
        by_cases e : j = k
        · subst e
          rw [putAt_same, List.getElem?_set, if_pos rfl, if_pos (by omega)]
        · rw [putAt_other _ _ e, List.getElem?_set, if_neg (fun x => e x.symm)]
          exact HH.out.1 j (by omega)
      have h4 : w2.cell? ⟨g, k, none⟩ = vs[k]? := ho3.cellAt k (by omega)
      have h5 : w2.frozen? ⟨g, k, none⟩ = false := ho3.frozenAt k
      have h6 := Lib.hid (ho3.stored k (.slice A2 n2 c2)).1
      have hw3 : WR (w2.setCell ⟨g, k, none⟩ (.slice A2 n2 c2)) (g + 1) (w2.setCell ⟨g, k, none⟩ (.slice A2 n2 c2)).heap.size (putAt ws k (.slice A2 n2 c2)) gs (k + 1) := by
        have e : (w2.setCell ⟨g, k, none⟩ (.slice A2 n2 c2)).heap.size = w2.heap.size := by simp [World.setCell]
        rw [e]
        refine ⟨fun i hi => ⟨?_, (hh3.1 i hi).2⟩, hh3.2⟩
        have hpo := (hh3.1 i hi).1
        obtain ⟨A', c', e', p1, p2, hz, p3, p4⟩ := hpo
        refine ⟨A', c', e', p1, p2, hz, p3, fun hnz => ?_⟩
        obtain ⟨g', k', rfl, ho⟩ := p4 hnz
        refine ⟨g', k', rfl, ho.kept (grown_put w2 g k (.slice A2 n2 c2)) (.inr ?_)⟩
        rcases ho.2 with ⟨e0, h0⟩ | ⟨g'', cap, cur, e0, hb', hg', _⟩
        · cases e0
        · cases e0
          intro e1
          have e2 : g' = g := by simpa [Value.ownBlock] using e1
          omega
      have h7 := Lib.hid (And.intro hvs2 hw3)
      have h8 := Lib.hid (hb3.setCell (p := ⟨g, k, none⟩) (Nat.le_refl _) (.slice A2 n2 c2))
      have h9 : g < (w2.setCell ⟨g, k, none⟩ (.slice A2 n2 c2)).heap.size := by simpa [World.setCell] using hgs2
      obtain ⟨y, hy⟩ : ∃ y, vs[k]? = some y := ⟨_, List.getElem?_eq_getElem (by omega)⟩
      rw [hy] at h4
      have H9 := Lib.hid h9
      clear q1 HB HO HH hb2 ho3 hh3 hb3 hx hy h9 hgs2 hgs hvk hvs2 hw3
      go_wp2_with fail
      exact ⟨⟨k + 1, _, _, by go_num, by omega, H9.out, h8, h6, h7⟩, by simp [intOf]; omega⟩
    · obtain rfl : k = n := by omega
      have T1 : decide ((k : Int) < (k : Int)) = false := by simp
      have hr := HH.out.2
      have hwo : WO wr g wr.heap.size (.slice (some ⟨g, 0, none⟩) k k) gs := by
        refine WO.of_own HO.out HGL.out (fun i hi => HH.out.1 i (by rw [HGL.out] at hi; exact hi)) ?_
        rw [HGL.out]
        exact ⟨fun i hi => ⟨(hr.1 i hi).1.lower (by omega), (hr.1 i hi).2⟩, hr.2⟩
      have HWO := Lib.hid hwo
      clear hr hwo
      go_wp2_with fail
      go_ret
      exact ⟨_, rfl, by rw [← HG.out]; exact HWO.out, by rw [← HG.out]; exact HB.out⟩

set_option maxHeartbeats 2000000 in
theorem sortedFunc_any (A : Option Addr) (N c : Nat) (hN : N ≤ 1048576) (us : Nat → Value) (h1 : ∀ i, ∃ A n c, us i = .slice A n c) (gs : List (List Int)) (hl : gs.length = N) (hm : ∀ i, i < N → (gs.getD i []).length ≤ 1048576) (w : World) (hc : RV w A us N) (hns : ∀ i, i < N → NS w (us i) (gs.getD i [])) :
    ∀ wa, wa = w.alloc (.cells #[.slice A N c] 44) → Calls Try.prog 140 #[.func (.func 162) #[] #[.pointer (some ⟨w.heap.size, 0, none⟩)], .func (.func 142) #[] #[]] wa fun e w' =>
      ∃ (A' : Option Addr) (c' : Nat) (ps : List (Value × List Int)), e = .returned (.slice A' N c') ∧ ps.Perm (((List.range N).map us).zip gs) ∧ SrtL (ps.map (·.2)) ∧ w'.ownsRow wa.heap.size 25 1 (.slice A' N c') N (ps.map (·.1)) ∧ Below wa.heap.size wa w' := by
  intro wa hwa
  have hba : Below w.heap.size w wa := by rw [hwa]; exact (Below.refl _ _).alloc (Nat.le_refl _) _
  have hco := collectW_any A N c hN us h1 w hc wa hwa
  have HCO := Lib.hid hco
  have HNS := Lib.hid hns
  have HBA := Lib.hid hba
  have HM := Lib.hid hm
  have H1 := Lib.hid h1
  clear hco hns hwa hba hm h1 hc
  go_enter Try.func140, Try.ntmps140
  go_wp2_with fail
  refine HCO.out.mono ?_
  rintro e wn ⟨r, rfl, ho, hb⟩
  obtain ⟨A2, c2, rfl, hm2, hA2⟩ := own_form ho
  have HO := Lib.hid ho
  have HB := Lib.hid hb
  by_cases h0 : N = 0
  · subst h0
    have hss := sortNone_any A2 c2 (.func (.func 142) #[] #[]) wn
    have HSS := Lib.hid hss
    clear ho hb hss hA2
    go_wp2_with fail
    refine HSS.out.mono ?_
    rintro e w' ⟨rfl, hw⟩
    obtain rfl := hw.symm
    go_wp2_with fail
    go_ret
    exact ⟨_, _, [], rfl, by simp, fun i j _ hj => absurd hj (by simp), HO.out, HB.out⟩
  · obtain ⟨g, rfl, hg1, hg2⟩ := hA2 (by omega)
    have hss := sortWords_any wn wa.heap.size g N c2 ((List.range N).map us) gs hN hl ho (fun i hi => by
      refine ⟨us i, by simp [hi], H1.out i, ?_, HM.out i hi⟩
      exact nx_low (HNS.out i hi) (bchain HBA.out hb) (Nat.le_trans HBA.out.size hg1))
    have HSS := Lib.hid hss
    clear ho hb hss
    go_wp2_with fail
    refine HSS.out.mono ?_
    rintro e w' ⟨rfl, ps, hp, hs, ho2, hgr⟩
    have HP := Lib.hid hp
    have HSR := Lib.hid hs
    have HO2 := Lib.hid ho2
    have HB2 := Lib.hid (HB.out.grown hgr HB.out.size (fun k hk => by
      have : g = k := Option.some.inj hk
      omega))
    clear hp hs ho2 hgr
    go_wp2_with fail
    go_ret
    exact ⟨_, _, ps, rfl, HP.out, HSR.out, HO2.out, HB2.out⟩
set_option maxHeartbeats 1000000 in
/-- the test: is a word not in the sorted list? -/
theorem missing_any (gb g B n c : Nat) (ps : List (Value × List Int)) (hn : n ≤ 1048576) (hl : ps.length = n) (u : Value) (z : List Int) (hz : z.length ≤ 1048576) (w : World) (hbox : w.cell? ⟨gb, 0, none⟩ = some (.slice (some ⟨g, 0, none⟩) n c))
    (ho : w.ownsRow B 25 1 (.slice (some ⟨g, 0, none⟩) n c) n (ps.map (·.1))) (hx : NXs w g ps) (hs : SrtL (ps.map (·.2))) (hu : NX w g u z) :
    Calls Try.prog 143 #[u, .pointer (some ⟨gb, 0, none⟩)] w fun e w' => e = .returned (.bool (!memB (ps.map (·.2)) z)) ∧ Below w.heap.size w w' := by
  have hse := search_any w B g n c ps hn hl ho hx hs u z hz hu
  obtain ⟨bv, hbv⟩ : ∃ bv, bv = memB (ps.map (·.2)) z := ⟨_, rfl⟩
  rw [← hbv] at hse ⊢
  have HSE := Lib.hid hse
  clear hse ho hx hs hu hbv
  go_enter Try.func143, Try.ntmps143
  go_wp2_with fail
  refine HSE.out.mono ?_
  rintro e w' ⟨⟨i, rfl⟩, hb⟩
  have HB := Lib.hid hb
  clear hb
  go_wp2_with fail
  go_ret
  exact ⟨by first | rfl | simp, HB.out⟩
/-- what is asked of a function that makes words of each word of a list -/
def MakeAt (gf : Nat) (lb : Array Value) (us : Nat → Value) (mk : Nat → List (List Int)) (n : Nat) (w : World) : Prop :=
  ∀ (i : Nat) (W : World), i < n → Below w.heap.size w W → Calls Try.prog gf (#[us i] ++ lb) W fun e W' => ∃ r, e = .returned r ∧ WO W' W.heap.size W'.heap.size r (mk i) ∧ Below W.heap.size W W'
def clB (gs : List (List Int)) (mk : Nat → List (List Int)) (n : Nat) : Bool := (List.range n).all fun i => (mk i).all fun z => memB gs z
theorem clB_yes {gs : List (List Int)} {mk : Nat → List (List Int)} {n : Nat} (h : ∀ i, i < n → (mk i).all (fun z => memB gs z) = true) : clB gs mk n = true := by
  unfold clB
  rw [List.all_eq_true]
  exact fun i hi => h i (List.mem_range.1 hi)
theorem clB_no {gs : List (List Int)} {mk : Nat → List (List Int)} {n i : Nat} (hi : i < n) (h : (mk i).all (fun z => memB gs z) = false) : clB gs mk n = false := by
  unfold clB
  rw [List.all_eq_false]
  exact ⟨i, List.mem_range.2 hi, by rw [h]; decide⟩
theorem missN_any (gs ms : List (List Int)) : anyN (fun j => !memB gs (ms.getD j [])) ms.length = !(ms.all fun z => memB gs z) := by
  by_cases h : (ms.all fun z => memB gs z) = true
  · rw [h]
    refine anyN_no fun i hi => ?_
    rw [List.all_eq_true] at h
    have := h ms[i] (List.getElem_mem hi)
    simp [List.getD, hi, this]
  · have h' : (ms.all fun z => memB gs z) = false := by simpa using h
    rw [h']
    rw [List.all_eq_false] at h'
    obtain ⟨z, hz, hb⟩ := h'
    obtain ⟨i, hi, rfl⟩ := List.mem_iff_getElem.1 hz
    exact anyN_yes hi (by simpa [List.getD, hi] using hb)
theorem perm_mem {ps : List (Value × List Int)} {vs : List Value} {gs : List (List Int)} (h : ps.Perm (vs.zip gs)) (hl : vs.length = gs.length) (z : List Int) : memB (ps.map (·.2)) z = memB gs z := by
  unfold memB
  have h1 : (ps.map (·.2)).Perm gs := by
    have := h.map (·.2)
    rwa [List.map_snd_zip (by omega)] at this
  rw [Bool.eq_iff_iff, decide_eq_true_iff, decide_eq_true_iff]
  exact h1.mem_iff
set_option maxHeartbeats 4000000 in
theorem isClosed_any (A : Option Addr) (N c : Nat) (hN : N ≤ 1048576) (us : Nat → Value) (h1 : ∀ i, ∃ A n c, us i = .slice A n c) (gs : List (List Int)) (hl : gs.length = N) (hm : ∀ i, i < N → (gs.getD i []).length ≤ 1048576) (w : World) (hc : RV w A us N) (hns : ∀ i, i < N → NS w (us i) (gs.getD i []))
    (gf : Nat) (lb : Array Value) (hg : ∀ args w, (callFunc gf args).run Try.prog w = .ok (.enter gf args) w) (mk : Nat → List (List Int)) (hk1 : ∀ i, i < N → (mk i).length ≤ 1048576) (hk2 : ∀ i, i < N → ∀ j, j < (mk i).length → ((mk i).getD j []).length ≤ 1048576) (hmk : MakeAt gf lb us mk N w) :
    Calls Try.prog 103 #[.slice A N c, .func (.func gf) #[] lb] w fun e w' => e = .returned (.bool (clB gs mk N)) ∧ Below w.heap.size w w' := by
  have hmf : ∀ (fn : Fn) (first cap : Array Value) (w : World), (Instr.makeFunc fn first cap).run Try.prog w = .ok (.func fn first cap) w := fun _ _ _ _ => rfl
  obtain ⟨bv, hbv⟩ : ∃ bv, bv = clB gs mk N := ⟨_, rfl⟩
  rw [← hbv]
  have HBV := Lib.hid hbv
  have hva := valuesWs_any A N c w
  obtain ⟨wa, hwa⟩ : ∃ wa, wa = w.alloc (.cells #[.slice A N c] 44) := ⟨_, rfl⟩
  rw [← hwa] at hva
  have hba : Below w.heap.size w wa := by rw [hwa]; exact (Below.refl _ _).alloc (Nat.le_refl _) _
  have hso := sortedFunc_any A N c hN us h1 gs hl hm w hc hns wa hwa
  have HVA := Lib.hid hva
  have HBA := Lib.hid hba
  have HSO := Lib.hid hso
  have HM := Lib.hid hm
  have HC := Lib.hid hc
  have HNS := Lib.hid hns
  have HMK := Lib.hid hmk
  have HK1 := Lib.hid hk1
  have HK2 := Lib.hid hk2
  have H1 := Lib.hid h1
  clear hbv hva hwa hba hso hm hc hns hmk hk1 hk2 h1
  go_enter Try.func103, Try.ntmps103
  go_wp2_with fail
  refine HVA.out.mono ?_
  rintro e w' ⟨rfl, hw⟩
  obtain rfl := hw.symm
  go_wp2_with fail
  refine HSO.out.mono ?_
  rintro e w2 ⟨A', c', ps, rfl, hp, hs, ho, hb2⟩
  have HP := Lib.hid hp
  have HSR := Lib.hid hs
  have HO := Lib.hid ho
  have HB2 := Lib.hid (bchain HBA.out hb2)
  have hAf := own_form ho
  have HB2a := Lib.hid hb2
  clear hp hs ho hb2 HSO HVA
  go_wp2_with fail
  obtain ⟨kx, hbx, sx⟩ := n1w w2 (.cells #[.slice A' N c'] 44)
  generalize World.alloc w2 _ = w3 at kx hbx sx ⊢
  have hbox : w3.cell? ⟨w2.heap.size, 0, none⟩ = some (.slice A' N c') := (cell_of_row _ _ _ _ _ _ kx).trans rfl
  have HBX := Lib.hid hbox
  have HB3 := Lib.hid (bchain HB2.out hbx)
  have HO3 := Lib.hid (own_below HO.out hbx)
  have HSX := Lib.hid sx
  have HBX3 := Lib.hid hbx
  clear kx hbx sx hbox
  go_loopw [15] (fun y wr => ∃ k : Nat, y = .int .i64 (k : Int) ∧ k ≤ N ∧ Hid (Below w3.heap.size w3 wr) ∧ Hid (∀ i, i < k → (mk i).all (fun z => memB gs z) = true)) (fun y _ => N - (intOf y).toNat)
  case atStart => exact ⟨0, rfl, Nat.zero_le _, Lib.hid (Below.refl _ _), Lib.hid (fun i hi => absurd hi (by omega))⟩
  case round =>
    obtain ⟨k, rfl, hk, HB, HK⟩ := hrel
    by_cases hlt : k < N
    · obtain ⟨b, off, rfl, hlb, hcell⟩ := HC.out (by omega)
      have i1 : (k : Int) < (N : Int) := by omega
      have hbw : Below w.heap.size w wr := bchain HB3.out HB.out
      have q1 : wr.cell? ⟨b, off + k, none⟩ = some (us k) := (hbw.cell (p := ⟨b, off + k, none⟩) hlb).trans (hcell k hlt)
      have hcall := HMK.out k wr hlt hbw
      obtain ⟨A3, c3, e3, hm3, hA3⟩ := hAf
      cases e3
      obtain ⟨g, rfl, hg0, hg1⟩ := hA3 (by omega)
      obtain ⟨ux, hux⟩ : ∃ ux, ux = us k := ⟨_, rfl⟩
      rw [← hux] at q1 hcall
      have HCA := Lib.hid hcall
      have HCL := Lib.hid hcell
      have HBW := Lib.hid hbw
      clear hux hcall hcell hbw hA3
      go_wp2_with (go_at_fn gf; refine HCA.out.mono ?_)
      rintro e w4 ⟨r, rfl, hwo, hb4⟩
      have hwo2 := hwo
      obtain ⟨Am, cm, ums, er, qa, qb, qc, hcm, hrm⟩ := hwo2
      subst er
      have hc4 : 0 < (mk k).length → ∃ b off, Am = some ⟨b, off, none⟩ ∧ b < w4.heap.size ∧ ∀ i, i < (mk k).length → w4.cell? ⟨b, off + i, none⟩ = some (ums i) := fun h0 => by
        obtain ⟨b, cur, e, _, _, hg, hcell⟩ := hcm h0
        exact ⟨b, 0, e, (Array.getElem?_eq_some_iff.1 hg).1, fun i hi => by rw [Nat.zero_add]; exact (cell_of_row _ _ _ _ _ _ hg).trans (hcell i hi)⟩
      have hb34 : Below w3.heap.size w3 w4 := bchain HB.out hb4
      have hgl : g < wr.heap.size := by have := HB.out.size; have := HSX.out; omega
      have hpl : ps.length = N := by have := HO3.out.1; simp at this; omega
      have hnxs : NXs w4 g ps := fun p hp => by
        have hp2 := HP.out.mem_iff.1 hp
        obtain ⟨i, hi, e⟩ := List.mem_iff_getElem.1 hp2
        have hiN : i < N := by simp at hi; omega
        have e1 : p.1 = us i := by rw [← e]; simp
        have e2 : p.2 = gs.getD i [] := by rw [← e]; simp [List.getD, show i < gs.length from by omega]
        rw [e1, e2]
        exact ⟨H1.out i, nx_low (HNS.out i hiN) (bchain HBW.out hb4) (Nat.le_trans HBA.out.size hg0), HM.out i hiN⟩
      have htest : TestAt 143 #[.pointer (some ⟨w2.heap.size, 0, none⟩)] ums (fun j => !memB gs ((mk k).getD j [])) (mk k).length w4 := by
        intro i W hi hW
        have hb3W := bchain hb34 hW
        have hpo := ((hrm.1 i hi).1).below hW
        have := missing_any w2.heap.size g wa.heap.size N c' ps hN hpl (ums i) ((mk k).getD i []) (HK2.out k hlt i hi) W ((hb3W.cell (p := ⟨w2.heap.size, 0, none⟩) (by rw [HSX.out]; show w2.heap.size < _; omega)).trans HBX.out) (own_below HO3.out hb3W) (fun p hp => ⟨(hnxs p hp).1, (hnxs p hp).2.1.below hW, (hnxs p hp).2.2⟩) HSR.out (nx_po hpo hgl)
        refine this.mono ?_
        rintro e w' ⟨rfl, hb⟩
        exact ⟨by rw [perm_mem HP.out (by simp; omega)], hb⟩
      have hcf := containsFuncW_any Am (mk k).length cm (by have := HK1.out k hlt; omega) 143 #[.pointer (some ⟨w2.heap.size, 0, none⟩)] (enters_of Try.func143 (by kernel_rfl) rfl) ums (fun j => !memB gs ((mk k).getD j [])) w4 hc4 htest
      rw [missN_any] at hcf
      obtain ⟨av, hav⟩ : ∃ av, av = (mk k).all (fun z => memB gs z) := ⟨_, rfl⟩
      rw [← hav] at hcf
      have HCF := Lib.hid hcf
      have HAV := Lib.hid hav
      have HB34 := Lib.hid hb34
      clear hcf hav hwo hb4 hcm hrm hc4 hb34 hnxs htest q1 qa qb qc
      go_wp2_with fail
      refine HCF.out.mono ?_
      rintro e w5 ⟨rfl, hb5⟩
      have HB5 := Lib.hid (bchain HB34.out hb5)
      clear hb5
      cases av with
      | true =>
        go_wp2_with fail
        exact ⟨⟨k + 1, by go_num, by omega, HB5, Lib.hid (fun i hi => by
          by_cases e : i = k
          · subst e; exact HAV.out.symm
          · exact HK.out i (by omega))⟩, by simp [intOf]; omega⟩
      | false =>
        have HR := Lib.hid (clB_no (gs := gs) (mk := mk) hlt HAV.out.symm)
        go_wp2_with fail
        go_ret
        exact ⟨by rw [HBV.out, HR.out]; rfl, bchain HB3.out HB5.out⟩
    · obtain rfl : k = N := by omega
      have T1 : decide ((k : Int) < (k : Int)) = false := by simp
      have HR := Lib.hid (clB_yes (gs := gs) (mk := mk) HK.out)
      go_wp2_with fail
      go_ret
      exact ⟨by rw [HBV.out, HR.out]; rfl, bchain HB3.out HB.out⟩
set_option maxHeartbeats 1000000 in
theorem l06Has_any (v u : Value) (gs : List (List Int)) (z : List Int) (hn : gs.length ≤ 1048576) (hm : ∀ i, i < gs.length → (gs.getD i []).length ≤ 1048576) (hz : z.length ≤ 1048576) (w : World) (h : WS w v gs) (h' : NS w u z) :
    Calls Try.prog 96 #[v, u] w fun e w' => e = .returned (.bool (memB gs z)) ∧ ∃ m, w' = w.drewN m := by
  obtain ⟨A, c, us, rfl, hc, hu⟩ := h.open
  have HC := Lib.hid hc
  have HU := Lib.hid hu
  have HM := Lib.hid hm
  have HN := Lib.hid h'
  obtain ⟨bv, hbv⟩ : ∃ bv, bv = memB gs z := ⟨_, rfl⟩
  rw [← hbv]
  have HBV := Lib.hid hbv
  clear hc hu h h' hm hbv
  go_enter Try.func96, Try.ntmps96
  go_wp2_with fail
  go_loopw [5] (fun y wr => ∃ k m : Nat, y = .int .i64 (k : Int) ∧ k ≤ gs.length ∧ wr = w.drewN m ∧ Hid (∀ i, i < k → gs.getD i [] ≠ z)) (fun y _ => gs.length - (intOf y).toNat)
  case atStart => exact ⟨0, 0, rfl, Nat.zero_le _, rfl, Lib.hid (fun i hi => absurd hi (by omega))⟩
  case round =>
    obtain ⟨k, m, rfl, hk, rfl, HK⟩ := hrel
    by_cases hlt : k < gs.length
    · obtain ⟨b, off, rfl, hlb, hcell⟩ := HC.out (by omega)
      have i1 : (k : Int) < (gs.length : Int) := by omega
      have q1 : w.cell? ⟨b, off + k, none⟩ = some (us k) := hcell k hlt
      have hsm := specSame_any (us k) u (gs.getD k []) z (HM.out k hlt) hz (w.drewN m) ((HU.out k hlt).below (bdrewN (Below.refl _ w) m)) (HN.out.below (bdrewN (Below.refl _ w) m))
      obtain ⟨ux, hux⟩ : ∃ ux, ux = us k := ⟨_, rfl⟩
      rw [← hux] at q1 hsm
      have HCL := Lib.hid hcell
      clear hcell hux
      by_cases e : gs.getD k [] = z
      · rw [show eqB (gs.getD k []) z = true from by rw [e]; exact eqB_refl _] at hsm
        have HSM := Lib.hid hsm
        have HR : Hid (bv = true) := Lib.hid (by
          rw [HBV.out]; unfold memB; rw [decide_eq_true_iff, ← e]
          have : gs.getD k [] = gs[k] := by simp [List.getD, hlt]
          rw [this]; exact List.getElem_mem hlt)
        clear hsm e
        go_wp2_with fail
        refine HSM.out.mono ?_
        rintro e w' ⟨rfl, m2, rfl⟩
        go_wp2_with fail
        go_ret
        exact ⟨by rw [HR.out]; rfl, m + m2, by simp⟩
      · rw [show eqB (gs.getD k []) z = false from by unfold eqB; rw [decide_eq_false_iff_not]; exact e] at hsm
        have HSM := Lib.hid hsm
        have HE := Lib.hid e
        clear hsm e
        go_wp2_with fail
        refine HSM.out.mono ?_
        rintro e w' ⟨rfl, m2, rfl⟩
        go_wp2_with fail
        exact ⟨⟨k + 1, m + m2, by go_num, by omega, by simp, Lib.hid (fun i hi => by
          by_cases e : i = k
          · subst e; exact HE.out
          · exact HK.out i (by omega))⟩, by simp [intOf]; omega⟩
    · obtain rfl : k = gs.length := by omega
      have T1 : decide ((gs.length : Int) < (gs.length : Int)) = false := by simp
      have HR : Hid (bv = false) := Lib.hid (by
        rw [HBV.out]; unfold memB; rw [decide_eq_false_iff_not]
        intro hmem
        obtain ⟨i, hi, e⟩ := List.mem_iff_getElem.1 hmem
        exact HK.out i hi (by rw [← e]; simp [List.getD, hi]))
      go_wp2_with fail
      go_ret
      exact ⟨by rw [HR.out]; rfl, m, rfl⟩
end Go.Proofs.Ythhjhfkcgokffaa
