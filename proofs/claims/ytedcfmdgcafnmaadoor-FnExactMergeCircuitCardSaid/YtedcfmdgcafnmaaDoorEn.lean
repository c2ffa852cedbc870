/-
  MergeCircuit of the program.
-/
import Derived.Test.YtedcfmdgcafnmaaDoorEm
import Derived.Test.YtedcfmdgcafnmaaDoorDm
import Derived.Maps.Views
namespace Go.Proofs.YtedcfmdgcafnmaaDoor
set_option linter.unusedVariables false
set_option linter.unusedSimpArgs false
open Go.ChangeShapes Go.WideShapes Go.ChangeAt Go.RowKit Go.Deep

/-- the map reads as the gates that are kept, each with its place -/
def MK (D : DataW Unit) (out : List G3) : Prop := ∀ g, GW g → ∀ l, keyOf Tryd.prog 67 (gv g) = some l → Go.Maps.has D l = decide (g ∈ out) ∧ (g ∈ out → D.atKey l (.lit (.int .i16 0)) = .lit (.int .i16 ((out.idxOf g : Nat) : Int)))
theorem MK.nil : MK (.map []) [] := fun g _ l _ => ⟨rfl, fun h => by simp at h⟩
theorem MK.put {D : DataW Unit} {out : List G3} (hD : Go.Maps.IsMap D) (h : MK D out) (g : G3) (hg : GW g) (hn : g ∉ out) (l : Lit) (hl : keyOf Tryd.prog 67 (gv g) = some l) : MK (D.put l (.lit (.int .i16 ((out.length : Nat) : Int)))) (out ++ [g]) := by
  intro g' hg' l' hl'
  by_cases e : g' = g
  · subst e
    obtain rfl : l' = l := Option.some.inj (hl'.symm.trans hl)
    rw [Go.Maps.has_put_same hD (gateKeyed.key hl), Go.Maps.atKey_put_same hD (gateKeyed.key hl)]
    refine ⟨by simp, fun _ => ?_⟩
    rw [List.idxOf_append, if_neg hn]
    simp
  · have hne : l' ≠ l := fun he => by
      subst he
      have := gateKeyed.inj hl' hl
      obtain ⟨a, b, c⟩ := g
      obtain ⟨a', b', c'⟩ := g'
      simp [gv] at this
      exact e (by obtain ⟨h1, h2, h3⟩ := this; subst h1; subst h2; subst h3; rfl)
    rw [Go.Maps.has_put_other hne, Go.Maps.atKey_put_other hne]
    have hh := h g' hg' l' hl'
    refine ⟨by rw [hh.1]; simp [e], fun hm => ?_⟩
    have hm2 : g' ∈ out := by simpa [e] using hm
    rw [hh.2 hm2, List.idxOf_append, if_pos hm2]
theorem map_below {P : Program} {w w' : World} {k : TypeId} {R : Value → Option (DataW Unit × List MemPlace)} {b n : Nat} {D : DataW Unit} (h : w.ownsMap P k R b n D) (hb : Below w.heap.size w w') : w'.ownsMap P k R b n D := by
  have hlt := h.lt
  obtain ⟨es, clock, h1, h2⟩ := h
  exact ⟨es, clock, (hb.block b hlt).trans h1, h2⟩
theorem map_ad {P : Program} {w w' : World} {B gp : Nat} {PT k : TypeId} {R : Value → Option (DataW Unit × List MemPlace)} {b n : Nat} {D : DataW Unit} (h : w.ownsMap P k R b n D) (hb : AD B gp PT w w') : w'.ownsMap P k R b n D := by
  obtain ⟨es, clock, h1, h2⟩ := h
  exact ⟨es, clock, (hb.mp b es clock h1).trans h1, h2⟩
theorem map_block {P : Program} {w : World} {k : TypeId} {R : Value → Option (DataW Unit × List MemPlace)} {b n : Nat} {D : DataW Unit} (h : w.ownsMap P k R b n D) : ∃ es cl, w.heap[b]? = some (.map es cl) := by
  obtain ⟨es, clock, h1, _⟩ := h
  exact ⟨es, clock, h1⟩
theorem own_map {w w' : World} {lo s n mb : Nat} {e : TypeId} {v : Value} {cs : List Value} (ho : w.ownsRow lo e s v n cs) (hg : w.grownBy w' (some mb)) (hm : ∃ es cl, w.heap[mb]? = some (.map es cl)) : w'.ownsRow lo e s v n cs :=
  own_grown ho hg (fun q hq he => by
    cases he
    obtain ⟨c1, e1⟩ := own_type ho mb hq
    obtain ⟨es, cl, e2⟩ := hm
    rw [e1] at e2; cases e2)
theorem st_map {w w' : World} {B gp mb : Nat} {PT : TypeId} {gs : List G3} (h : ST B gp PT w gs) (hg : w.grownBy w' (some mb)) (hm : ∃ es cl, w.heap[mb]? = some (.map es cl)) : ST B gp PT w' gs := by
  have hl := h.lt
  obtain ⟨h1, ⟨cur, hc, hp⟩, v, hv, ho⟩ := h
  have e := hg.block gp hl (fun e => by
    cases e
    obtain ⟨es, cl, e2⟩ := hm
    rw [hc] at e2; cases e2)
  exact ⟨h1, ⟨cur, e.trans hc, hp⟩, v, (World.cell?_of_block e).trans hv, own_map ho hg hm⟩
theorem mgT_yes {gs : List G3} {k : Nat} {g : G3} (hg : g = srt (ren (mgT gs k).1 (gs.getD k gz))) (h : g ∈ (mgT gs k).2) : mgT gs (k + 1) = ((mgT gs k).1.set k (((mgT gs k).2.idxOf g : Nat) : Int), (mgT gs k).2) := by
  simp only [mgT]; rw [← hg, if_pos h]
theorem mgT_no {gs : List G3} {k : Nat} {g : G3} (hg : g = srt (ren (mgT gs k).1 (gs.getD k gz))) (h : g ∉ (mgT gs k).2) : mgT gs (k + 1) = ((mgT gs k).1.set k (((mgT gs k).2.length : Nat) : Int), (mgT gs k).2 ++ [g]) := by
  simp only [mgT]; rw [← hg, if_neg h, idxOf_new h]
theorem mgT_w (gs : List G3) (hg : ∀ j, GW (gs.getD j gz)) : ∀ k, k ≤ 600 → PB (mgT gs k).1 ∧ ∀ g ∈ (mgT gs k).2, GW g
  | 0, _ => ⟨PB.zero _, by simp [mgT]⟩
  | k + 1, h => by
    have ih := mgT_w gs hg k (by omega)
    have hl := (mgT_len gs k).2
    have hs := srt_w (ren_w ih.1 (hg k))
    obtain ⟨g, hge⟩ : ∃ g, g = srt (ren (mgT gs k).1 (gs.getD k gz)) := ⟨_, rfl⟩
    rw [← hge] at hs
    by_cases hm : g ∈ (mgT gs k).2
    · rw [mgT_yes hge hm]
      exact ⟨ih.1.set k _ (by have := List.idxOf_lt_length_iff.2 hm; omega), ih.2⟩
    · rw [mgT_no hge hm]
      refine ⟨ih.1.set k _ (by omega), fun x hx => ?_⟩
      rcases List.mem_append.1 hx with hx | hx
      · exact ih.2 x hx
      · rcases List.mem_singleton.1 hx with rfl; exact hs

theorem ad_far {gp : Nat} {w w1 w2 : World} {v s' : Value} (hb : Below w.heap.size w w1) (hg : w1.grownBy w2 v.ownBlock) (k : Nat) (hk : k < w.heap.size) (h1 : k ≠ gp) (h2 : some k ≠ v.ownBlock) : (w2.setCell ⟨gp, 0, none⟩ s').heap[k]? = w.heap[k]? :=
  (heap_setCell_other _ _ _ _ h1).trans ((hg.block k (Nat.lt_of_lt_of_le hk hb.size) h2).trans (hb.block k hk))
set_option maxHeartbeats 4000000 in
set_option maxRecDepth 100000 in
theorem implAdd2_any (B gp : Nat) (PT : TypeId) (hP : PT ≠ 67) (x : G3) (gs : List G3) (hl : gs.length < 30000) (w : World) (h : ST B gp PT w gs) (vv : Value) (hvv : w.cell? ⟨gp, 0, none⟩ = some vv) :
    Calls Tryd.prog 107 #[.pointer (some ⟨gp, 0, none⟩), gv x] w fun e w' => e = .returned (.int .i16 ((gs.length : Nat) : Int)) ∧ ST B gp PT w' (gs ++ [x]) ∧ AD B gp PT w w' ∧ ∀ k, k < w.heap.size → k ≠ gp → some k ≠ vv.ownBlock → w'.heap[k]? = w.heap[k]? := by
  have H := Lib.hid h
  obtain ⟨h1, ⟨cur, hc, hp⟩, v, hv, ho⟩ := h
  obtain rfl : vv = v := Option.some.inj (hvv.symm.trans hv)
  clear hvv
  have HP := Lib.hid hP
  have HV := Lib.hid hv; have HO := Lib.hid ho
  obtain ⟨A, c, rfl, hlen, hA⟩ := own_formu ho
  obtain ⟨i0, hi, hz0, hz1, hz2⟩ := info_parts infoGate
  have HC := Lib.hid hc
  have HNE : Hid (some gp ≠ (Value.slice A gs.length c).ownBlock) := Lib.hid (fun e => by
    obtain ⟨cur', h'⟩ := own_type ho gp e.symm
    rw [hc] at h'
    exact hP (by cases h'; rfl))
  clear hc hp hP h1 hA hlen ho
  go_enter Tryd.func107, Tryd.ntmps107
  go_upto_region 1 with fail
  obtain ⟨z1, z2, z3⟩ := nw1 w (.cells #[.int .i8 x.1, .int .i16 x.2.1, .int .i16 x.2.2] 67)
  obtain ⟨xb, hxb⟩ : ∃ xb, xb = w.heap.size := ⟨_, rfl⟩
  generalize World.alloc w _ = w1 at z1 z2 z3 ⊢
  have mx : BX w1 xb (.int .i8 x.1) (.int .i16 x.2.1) (.int .i16 x.2.2) := by rw [hxb]; exact ⟨_, z1⟩
  rw [← hxb]
  have HXB := Lib.hid hxb
  have HZ2 := Lib.hid z2
  have k0 : w1.cell? ⟨gp, 0, none⟩ = some (.slice A gs.length c) := (z2.cell (p := ⟨gp, 0, none⟩) H.out.lt).trans hv
  have rx : w1.rangeAt xb 0 (gc x) := range3 mx.c0 mx.c1 mx.c2
  clear z1 z2 z3 mx hxb hv
  refine wp_region_held_drew (S := fun W => W.rangeAt xb 0 (gc x)) (by kernel_rfl) ?hS0 (fun hS => ?_)
  case hS0 => exact rx
  have HB1 : Hid (Below w.heap.size w w1.drew) := Lib.hid (bdr HZ2.out 1)
  have HX1 : Hid (xb < w1.drew.heap.size) := Lib.hid (World.block_lt_of_cell? (a := ⟨xb, 0, none⟩) _ (rx 0 _ rfl))
  replace k0 : w1.drew.cell? ⟨gp, 0, none⟩ = some (.slice A gs.length c) := k0
  clear HZ2 rx
  generalize w1.drew = wd at hS HB1 HX1 k0 ⊢
  refine takeHd (i := 0) (v := ?v0) rfl rfl (by kernel_rfl) (by kernel_rfl) (by kernel_rfl) (fun _ _ _ h => h) rfl ?hy0 hS ?rs0
  case hy0 => (intro wq hq; go_simp; try (with_reducible rfl))
  simp only [Act.put, List.setIfInBounds_toArray, List.set_cons_zero, List.set_cons_succ]
  refine takeHd (i := 1) (v := ?v1) rfl rfl (by kernel_rfl) (by kernel_rfl) (by kernel_rfl) (fun _ _ _ h => h) rfl ?hy1 hS ?rs1
  case hy1 => (intro wq hq; go_simp; try (with_reducible rfl))
  simp only [Act.put, List.setIfInBounds_toArray, List.set_cons_zero, List.set_cons_succ]
  refine takeHd (i := 2) (v := ?v2) rfl rfl (by kernel_rfl) (by kernel_rfl) (by kernel_rfl) (fun _ _ _ h => h) rfl ?hy2 hS ?rs2
  case hy2 => (intro wq hq; go_simp; try (with_reducible rfl))
  simp only [Act.put, List.setIfInBounds_toArray, List.set_cons_zero, List.set_cons_succ]
  refine takeHd (i := 4) (v := .agg (gc x).toArray) rfl rfl (by kernel_rfl) (by kernel_rfl) (by kernel_rfl) (fun _ _ _ h => h) rfl ?hy4 hS ?rs4
  case hy4 => exact fun wq hq => exec_load_midd 67 _ rfl xb 0 rfl (gc x) _ hq Tryd.underlying67 rfl (by kernel_rfl)
  simp only [Act.put, List.setIfInBounds_toArray, List.set_cons_zero, List.set_cons_succ]
  refine wpAnyH_ready (rs := [3, 5]) (by kernel_rfl) (by simp) ?_
  refine AllReadyH.cons rfl (fun K hK => ?_) (AllReadyH.cons rfl (fun K hK => ?_) AllReadyH.nil)
  · go_simp
    refine hK.out _ wd hS (fun hS => ?_)
    clear hK
    try simp only [Act.put, List.setIfInBounds_toArray, List.set_cons_zero, List.set_cons_succ]
    refine wpAnyH_ready (rs := [5]) (by kernel_rfl) (by simp) ?_
    refine AllReadyH.cons rfl (fun K hK => ?_) AllReadyH.nil
    go_simp
    have HOA := Lib.hid (owb (owb HO.out HB1.out) (nw1 wd (.cells (gc x).toArray 67)).2.1)
    have HBA := Lib.hid (HB1.out.trans ((nw1 wd (.cells (gc x).toArray 67)).2.1.mono HB1.out.size))
    have HCL := Lib.hid (gate_cells wd x 67)
    have HSZ : Hid ((wd.alloc (.cells (gc x).toArray 67)).heap.size = wd.heap.size + 1) := Lib.hid (World.size_alloc _ _)
    have k1 : (wd.alloc (.cells (gc x).toArray 67)).cell? ⟨gp, 0, none⟩ = some (.slice A gs.length c) := ((nw1 wd _).2.1.cell (block_of_cellc k0)).trans k0
    refine hK.out _ (wd.alloc (.cells (gc x).toArray 67)) (fun j u hu => ((nw1 wd _).2.1.cell (p := ⟨xb, 0 + j, none⟩) HX1.out).trans (hS j u hu)) (fun hS => ?_)
    clear hK
    obtain ⟨bd, hbd⟩ : ∃ bd, bd = wd.heap.size := ⟨_, rfl⟩
    rw [← hbd] at HCL HSZ ⊢
    have HX2 : Hid (xb < (wd.alloc (.cells (gc x).toArray 67)).heap.size) := Lib.hid (by rw [World.size_alloc]; have := HX1.out; omega)
    clear hbd HX1 HB1 k0
    generalize (wd.alloc (.cells (gc x).toArray 67)) = wa at hS HOA HBA HCL HSZ HX2 k1 ⊢
    try simp only [Act.put, List.setIfInBounds_toArray, List.set_cons_zero, List.set_cons_succ]
    refine wpAnyH_ready (rs := [6]) (by kernel_rfl) (by simp) ?_
    refine AllReadyH.cons rfl (fun K hK => ?_) AllReadyH.nil
    simp only [List.getElem_toArray, List.getElem_cons_zero, List.getElem_cons_succ]
    refine wp_append_own _ _ _ 71 rfl B 67 i0 (.agg #[.int .i8 0, .int .i16 0, .int .i16 0]) 3 6 Tryd.underlying71 hi hz0 hz1 hz2 rfl (by decide) _ gs.length _ rfl HOA.out ⟨bd, 0, none⟩ 1 1 (gc x) rfl rfl ?c1 ?c2 ?c3 ?c4 ?c5 ?_
    case c1 => exact (fun j u hu => HCL.out j u hu)
    case c2 => simp [gc, Value.oneCell']
    case c3 => unfold maxLen; omega
    case c4 => omega
    case c5 => have := HBA.out.size; have := H.out.lt; have := H.out.1; omega
    intro s' wy hown hgrow _
    have HPUT := Lib.hid (ad_put HP.out H.out HV.out HO.out HBA.out hgrow hown)
    have HFAR := Lib.hid (fun (k : Nat) (hk : k < w.heap.size) (h1 : k ≠ gp) (h2 : some k ≠ _) => ad_far (gp := gp) (s' := s') HBA.out hgrow k hk h1 h2)
    have hgc : wy.cell? ⟨gp, 0, none⟩ = some (.slice A gs.length c) := hgrow.cell k1 HNE.out
    have hgx : wy.rangeAt xb 0 (gc x) := fun j u hu => hgrow.cell (a := ⟨xb, 0 + j, none⟩) (hS j u hu) (fun e => by have := (own_block HO.out xb e.symm).2; have := HXB.out; omega)
    have HCY : Hid (∃ cur, wy.heap[gp]? = some (.cells cur PT (0, 0))) := Lib.hid ⟨cur, (hgrow.block gp (Nat.lt_of_lt_of_le H.out.lt HBA.out.size) HNE.out).trans ((HBA.out.block gp H.out.lt).trans HC.out)⟩
    have q5 : wy.frozen? ⟨gp, 0, none⟩ = false := by obtain ⟨cr, h⟩ := HCY.out; exact frozen_of_row _ _ _ _ _ h
    obtain ⟨A', c', rfl, _, _⟩ := own_formu hown
    refine hK.out _ wy hgx (fun hS => ?_)
    clear hK hown hgrow hgx k1
    try simp only [Act.put, List.setIfInBounds_toArray, List.set_cons_zero, List.set_cons_succ]
    refine takeHd (i := 7) (v := ?v7) rfl rfl (by kernel_rfl) (by kernel_rfl) (by kernel_rfl) (fun _ _ _ h => h) rfl ?hy7 hS ?rs7
    case hy7 => (intro wq hq; go_simp; try (with_reducible rfl))
    simp only [Act.put, List.setIfInBounds_toArray, List.set_cons_zero, List.set_cons_succ]
    refine wpAnyH_ready (rs := [8]) (by kernel_rfl) (by simp) ?_
    refine AllReadyH.cons rfl (fun K hK => ?_) AllReadyH.nil
    go_simp
    obtain ⟨wz, hwz⟩ : ∃ wz, wz = wy.setCell ⟨gp, 0, none⟩ (.slice A' (gs.length + 1) c') := ⟨_, rfl⟩
    have hSz : wz.rangeAt xb 0 (gc x) := fun j u hu => by
      rw [hwz]
      exact (World.cell?_of_block (heap_setCell_other _ _ _ _ (fun e => by have := HXB.out; have := H.out.lt; have e2 : xb = gp := e; omega))).trans (hS j u hu)
    rw [← hwz] at HPUT HFAR ⊢
    have HK2 := Lib.hid HPUT.out.2.2.1
    refine hK.out _ wz hSz (fun hS => ?_)
    clear hK hwz hS hSz hgc q5
    try simp only [Act.put, List.setIfInBounds_toArray, List.set_cons_zero, List.set_cons_succ]
    refine wpAnyH_done (by kernel_rfl) ?_ _
    have k2 := HK2.out
    have hw := i16_small gs.length (by omega)
    have HPT := Lib.hid (And.intro HPUT.out.1 HPUT.out.2.1)
    clear HPUT
    go_wp2_with fail
    go_ret
    exact ⟨rfl, HPT.out.1, HPT.out.2, HFAR.out⟩
  · go_simp
    have HOA := Lib.hid (owb (owb HO.out HB1.out) (nw1 wd (.cells (gc x).toArray 67)).2.1)
    have HBA := Lib.hid (HB1.out.trans ((nw1 wd (.cells (gc x).toArray 67)).2.1.mono HB1.out.size))
    have HCL := Lib.hid (gate_cells wd x 67)
    have HSZ : Hid ((wd.alloc (.cells (gc x).toArray 67)).heap.size = wd.heap.size + 1) := Lib.hid (World.size_alloc _ _)
    have k1 : (wd.alloc (.cells (gc x).toArray 67)).cell? ⟨gp, 0, none⟩ = some (.slice A gs.length c) := ((nw1 wd _).2.1.cell (block_of_cellc k0)).trans k0
    refine hK.out _ (wd.alloc (.cells (gc x).toArray 67)) (fun j u hu => ((nw1 wd _).2.1.cell (p := ⟨xb, 0 + j, none⟩) HX1.out).trans (hS j u hu)) (fun hS => ?_)
    clear hK
    obtain ⟨bd, hbd⟩ : ∃ bd, bd = wd.heap.size := ⟨_, rfl⟩
    rw [← hbd] at HCL HSZ ⊢
    have HX2 : Hid (xb < (wd.alloc (.cells (gc x).toArray 67)).heap.size) := Lib.hid (by rw [World.size_alloc]; have := HX1.out; omega)
    clear hbd HX1 HB1 k0
    generalize (wd.alloc (.cells (gc x).toArray 67)) = wa at hS HOA HBA HCL HSZ HX2 k1 ⊢
    try simp only [Act.put, List.setIfInBounds_toArray, List.set_cons_zero, List.set_cons_succ]
    refine wpAnyH_ready (rs := [3]) (by kernel_rfl) (by simp) ?_
    refine AllReadyH.cons rfl (fun K hK => ?_) AllReadyH.nil
    go_simp
    refine hK.out _ wa hS (fun hS => ?_)
    clear hK
    try simp only [Act.put, List.setIfInBounds_toArray, List.set_cons_zero, List.set_cons_succ]
    refine wpAnyH_ready (rs := [6]) (by kernel_rfl) (by simp) ?_
    refine AllReadyH.cons rfl (fun K hK => ?_) AllReadyH.nil
    simp only [List.getElem_toArray, List.getElem_cons_zero, List.getElem_cons_succ]
    refine wp_append_own _ _ _ 71 rfl B 67 i0 (.agg #[.int .i8 0, .int .i16 0, .int .i16 0]) 3 6 Tryd.underlying71 hi hz0 hz1 hz2 rfl (by decide) _ gs.length _ rfl HOA.out ⟨bd, 0, none⟩ 1 1 (gc x) rfl rfl ?d1 ?d2 ?d3 ?d4 ?d5 ?_
    case d1 => exact (fun j u hu => HCL.out j u hu)
    case d2 => simp [gc, Value.oneCell']
    case d3 => unfold maxLen; omega
    case d4 => omega
    case d5 => have := HBA.out.size; have := H.out.lt; have := H.out.1; omega
    intro s' wy hown hgrow _
    have HPUT := Lib.hid (ad_put HP.out H.out HV.out HO.out HBA.out hgrow hown)
    have HFAR := Lib.hid (fun (k : Nat) (hk : k < w.heap.size) (h1 : k ≠ gp) (h2 : some k ≠ _) => ad_far (gp := gp) (s' := s') HBA.out hgrow k hk h1 h2)
    have hgc : wy.cell? ⟨gp, 0, none⟩ = some (.slice A gs.length c) := hgrow.cell k1 HNE.out
    have hgx : wy.rangeAt xb 0 (gc x) := fun j u hu => hgrow.cell (a := ⟨xb, 0 + j, none⟩) (hS j u hu) (fun e => by have := (own_block HO.out xb e.symm).2; have := HXB.out; omega)
    have HCY : Hid (∃ cur, wy.heap[gp]? = some (.cells cur PT (0, 0))) := Lib.hid ⟨cur, (hgrow.block gp (Nat.lt_of_lt_of_le H.out.lt HBA.out.size) HNE.out).trans ((HBA.out.block gp H.out.lt).trans HC.out)⟩
    have q5 : wy.frozen? ⟨gp, 0, none⟩ = false := by obtain ⟨cr, h⟩ := HCY.out; exact frozen_of_row _ _ _ _ _ h
    obtain ⟨A', c', rfl, _, _⟩ := own_formu hown
    refine hK.out _ wy hgx (fun hS => ?_)
    clear hK hown hgrow hgx k1
    try simp only [Act.put, List.setIfInBounds_toArray, List.set_cons_zero, List.set_cons_succ]
    refine takeHd (i := 7) (v := ?v7b) rfl rfl (by kernel_rfl) (by kernel_rfl) (by kernel_rfl) (fun _ _ _ h => h) rfl ?hy7b hS ?rs7b
    case hy7b => (intro wq hq; go_simp; try (with_reducible rfl))
    simp only [Act.put, List.setIfInBounds_toArray, List.set_cons_zero, List.set_cons_succ]
    refine wpAnyH_ready (rs := [8]) (by kernel_rfl) (by simp) ?_
    refine AllReadyH.cons rfl (fun K hK => ?_) AllReadyH.nil
    go_simp
    obtain ⟨wz, hwz⟩ : ∃ wz, wz = wy.setCell ⟨gp, 0, none⟩ (.slice A' (gs.length + 1) c') := ⟨_, rfl⟩
    have hSz : wz.rangeAt xb 0 (gc x) := fun j u hu => by
      rw [hwz]
      exact (World.cell?_of_block (heap_setCell_other _ _ _ _ (fun e => by have := HXB.out; have := H.out.lt; have e2 : xb = gp := e; omega))).trans (hS j u hu)
    rw [← hwz] at HPUT HFAR ⊢
    have HK2 := Lib.hid HPUT.out.2.2.1
    refine hK.out _ wz hSz (fun hS => ?_)
    clear hK hwz hS hSz hgc q5
    try simp only [Act.put, List.setIfInBounds_toArray, List.set_cons_zero, List.set_cons_succ]
    refine wpAnyH_done (by kernel_rfl) ?_ _
    have k2 := HK2.out
    have hw := i16_small gs.length (by omega)
    have HPT := Lib.hid (And.intro HPUT.out.1 HPUT.out.2.1)
    clear HPUT
    go_wp2_with fail
    go_ret
    exact ⟨rfl, HPT.out.1, HPT.out.2, HFAR.out⟩


set_option maxHeartbeats 8000000 in
set_option maxRecDepth 100000 in
theorem implMerged_any (n : Int) (G O : Value) (gs : List G3) (os : List Int) (hc : circB n gs os = true) (w : World) (hg : GL w G gs) (ho : IL w O os) :
    Calls Tryd.prog 49 #[.agg #[G, .int .i8 n, O]] w fun e w' => ∃ G' O', e = .returned (.agg #[G', .int .i8 n, O']) ∧ Below w.heap.size w w' ∧ w'.ownsRow w.heap.size 67 3 G' (mgT gs gs.length).2.length (gcs (mgT gs gs.length).2) ∧ w'.ownsRow w.heap.size 65 1 O' os.length (i16s (os.map (plc (mgT gs gs.length).1))) := by
  have H := Lib.hid hg; have HO' := Lib.hid ho
  obtain ⟨A, c, rfl⟩ := hg.form
  obtain ⟨A2, c2, rfl⟩ := ho.form
  have HC := Lib.hid hc
  have hlen : gs.length ≤ 600 := (head_of hc).2.2.1
  clear hg ho hc
  obtain ⟨i0, hi, hz0, hz1, hz2⟩ := info_parts infoI16
  obtain ⟨a1, a2, hb1, s1⟩ := nw2 w (.cells #[.slice A gs.length c, .int .i8 n, .slice A2 os.length c2] 74) (.cells #[.slice none 0 0, .int .i8 0, .slice none 0 0] 74)
  go_enter Tryd.func49, Tryd.ntmps49
  go_upto_region 1 with fail
  generalize World.alloc (World.alloc w _) _ = w1 at a1 a2 hb1 s1 ⊢
  obtain ⟨z1, z2, z3⟩ := nw1 w1 (.cells #[.slice none 0 0, .int .i8 0, .slice none 0 0] 74)
  have mc : BX w1 w.heap.size (.slice A gs.length c) (.int .i8 n) (.slice A2 os.length c2) := ⟨_, a1⟩
  have mr : BX w1 (w.heap.size + 1) (.slice none 0 0) (.int .i8 0) (.slice none 0 0) := ⟨_, a2⟩
  have r3 := (show BX _ w1.heap.size _ _ _ from ⟨_, z1⟩).there
  have c0 := mc.c0; have c1 := mc.c1; have c2' := mc.c2
  have q0 := (mc.below z2).c1
  have MC := Lib.hid mc; have MR := Lib.hid mr; have HB1 := Lib.hid hb1; have HS1 := Lib.hid s1
  have Z1 := Lib.hid (puts3 z1 (.slice none 0 0) (.int .i8 n) (.slice none 0 0)); have Z2 := Lib.hid (bsets (Nat.le_refl _) [.slice none 0 0, .int .i8 n, .slice none 0 0] 0 _ z2)
  clear a1 a2 hb1 s1 mc mr z1 z2 z3
  go_upto_region 2 with (guard_target =~ wpList _ _ _ (⟨_, Op.store 74 _ _, _, _, _, _⟩ :: _) _ _; refine wpList_store_mid rfl 74 _ _ rfl (w1.heap.size) 0 #[.slice none 0 0, .int .i8 n, .slice none 0 0] rfl rfl r3 (by kernel_rfl) (three_one rfl rfl rfl) ?_)
  obtain ⟨gp, hgp⟩ : ∃ gp, gp = w1.heap.size := ⟨_, rfl⟩
  clear q0 r3
  rw [← hgp] at Z1 Z2 ⊢
  generalize World.setCells (World.alloc w1 _) _ _ _ = w2 at Z1 Z2 ⊢
  have HGP := Lib.hid hgp
  have hx2 : BX w2 gp (.slice none 0 0) (.int .i8 n) (.slice none 0 0) := ⟨_, Z1.out⟩
  have Z2' : Hid (Below w1.heap.size w1 w2) := Lib.hid (by rw [← hgp]; exact Z2.out)
  have HST : Hid (ST gp gp 74 w2 (mgT gs 0).2) := Lib.hid ⟨Nat.le_refl _, ⟨_, Z1.out, by simp⟩, _, hx2.c0, World.ownsRow_nil _ _ _ _⟩
  have HX2 := Lib.hid hx2
  have c0 := (MC.out.below Z2'.out).c0
  clear c1 c2' hx2 hgp
  go_wp2_with (at_make; refine wpList_make_full _ rfl _ _ 72 rfl w2.heap.size 65 i0 (.int .i16 0) 1 Tryd.underlying72 hi hz0 hz1 _ _ _ _ gs.length rfl rfl rfl rfl (by rw [hz2]; omega) (by unfold maxLen; omega) (Nat.le_refl _) ?_)
  intro w3 hown hgrow
  have hb3 : Below w2.heap.size w2 w3 := (Below.refl _ w2).grown hgrow (Nat.le_refl _) (fun k hk => by cases hk)
  obtain ⟨P, hP⟩ : ∃ P, P = w2.heap.size := ⟨_, rfl⟩
  rw [← hP] at hown ⊢
  have hown1 : w3.ownsRow P 65 1 (.slice (some ⟨P, 0, none⟩) gs.length gs.length) gs.length (i16s (mgT gs 0).1) := by
    have e : (madeCells #[Value.int .i16 0] gs.length).toList = i16s (mgT gs 0).1 := by
      rw [toList_madeCells_one]; simp [mgT]
    rw [← e]; simpa using hown
  clear hown hgrow
  have HP := Lib.hid hP; have HO3 := Lib.hid hown1
  have HGL : Hid (gp < w2.heap.size) := Lib.hid (by have := HX2.out.lt; exact this)
  have HA3 := Lib.hid (AD.of_below (B := gp) (gp := gp) (PT := 74) hb3 (Nat.le_refl _) HGL.out)
  have HS3 := Lib.hid (HST.out.below hb3)
  have MC3 := Lib.hid ((MC.out.below Z2'.out).below hb3)
  have c0 := MC3.out.c0
  have HB3 := Lib.hid (HB1.out.trans ((Z2'.out.trans (hb3.mono Z2'.out.size)).mono HB1.out.size))
  clear hb3 hown1 hP
  have hm0 := World.ownsMap_made (H := Unit) w3 Tryd.prog 67 (plainElem Tryd.prog 65)
  have hmb : Below w3.heap.size w3 (w3.alloc (.map #[] 0)) := (Below.refl _ w3).alloc (Nat.le_refl _) _
  have c0m := (MC3.out.below hmb).c0
  have hmm : (Instr.makeMap 153 none).run Tryd.prog w3 = .ok (.map (some w3.heap.size)) (w3.alloc (.map #[] 0)) := rfl
  go_upto_region 4 with fail
  clear hmm
  generalize World.alloc w3 (.map #[] 0) = w4 at hm0 hmb c0m ⊢
  obtain ⟨mb, hmbe⟩ : ∃ mb, mb = w3.heap.size := ⟨_, rfl⟩
  rw [← hmbe] at hm0 ⊢
  have HM4 : Hid (∃ (D : DataW Unit) (nn : Nat), nn ≤ 0 ∧ w4.ownsMap Tryd.prog 67 (plainElem Tryd.prog 65) mb nn D ∧ MK D (mgT gs 0).2) := Lib.hid ⟨_, 0, Nat.le_refl _, hm0, MK.nil⟩
  have HMB : Hid (w2.heap.size ≤ mb ∧ P < mb) := Lib.hid (by rw [hmbe]; exact ⟨HA3.out.size, (own_block HO3.out P rfl).2⟩)
  have HA4 := Lib.hid (HA3.out.trans (AD.of_below (B := gp) (gp := gp) (PT := 74) hmb (Nat.le_refl _) HS3.out.lt))
  have HS4 := Lib.hid (HS3.out.below hmb)
  have HO4 := Lib.hid (owb HO3.out hmb)
  clear hm0 hmb hmbe c0 HA3 HS3 HO3
  go_wp2_with fail
  clear c0m
  go_loopw [21] (fun y wr => ∃ k : Nat, y = .int .i64 (k : Int) ∧ k ≤ gs.length ∧ Hid (AD gp gp 74 w2 wr) ∧ Hid (ST gp gp 74 wr (mgT gs k).2) ∧ Hid (wr.ownsRow P 65 1 (.slice (some ⟨P, 0, none⟩) gs.length gs.length) gs.length (i16s (mgT gs k).1)) ∧ Hid (∃ (D : DataW Unit) (nn : Nat), nn ≤ k ∧ wr.ownsMap Tryd.prog 67 (plainElem Tryd.prog 65) mb nn D ∧ MK D (mgT gs k).2)) (fun y _ => gs.length - (intOf y).toNat)
  case atStart => exact ⟨0, rfl, Nat.zero_le _, HA4, HS4, HO4, HM4⟩
  case round =>
    obtain ⟨k, rfl, hk, HA, HS, HO, HU⟩ := hrel
    clear HA4 HS4 HO4 HM4
    have HBR : Hid (Below w.heap.size w wr) := Lib.hid (HB1.out.trans (((Z2'.out.trans ((HGP.out ▸ HA.out.toBelow).mono (Nat.le_refl _)))).mono HB1.out.size))
    have MCR : Hid (BX wr w.heap.size (.slice A gs.length c) (.int .i8 n) (.slice A2 os.length c2)) := Lib.hid ((MC.out.below Z2'.out).belowB HA.out.toBelow (by have := HGP.out; have := HS1.out; omega))
    by_cases hlt : k < gs.length
    · have T1 : decide ((k : Int) < (gs.length : Int)) = true := by simp; omega
      have i1 : (k : Int) < (gs.length : Int) := by omega
      obtain ⟨b, off, c', e, hlb, hgw, d0, d1, d2⟩ := (H.out.below HBR.out).at k hlt
      cases e
      have HGW := Lib.hid hgw
      obtain ⟨x, hx⟩ : ∃ x, x = gs.getD k gz := ⟨_, rfl⟩
      rw [← hx] at d0 d1 d2 HGW
      have HV := Lib.hid (show joinB x = true → (0 ≤ x.2.1 ∧ x.2.1 < (gs.length : Int)) ∧ 0 ≤ x.2.2 ∧ x.2.2 < (gs.length : Int) from fun hj => by
        have hgt := gate_of HC.out k hlt
        rw [← hx] at hgt
        rcases kinds_of hgt with ⟨h0, _⟩ | ⟨h0, _⟩ | h3
        · unfold joinB at hj; rw [h0] at hj; simp at hj
        · unfold joinB at hj; rw [h0] at hj; simp at hj
        · omega)
      obtain ⟨T, hT⟩ : ∃ T, T = mgT gs k := ⟨_, rfl⟩
      have hw := mgT_w gs (fun j => gw_getD H.out.2 j) k (by omega)
      have hl := mgT_len gs k
      obtain ⟨rg, hrg⟩ : ∃ rg, rg = ren T.1 x := ⟨_, rfl⟩
      obtain ⟨sg, hsg⟩ : ∃ sg, sg = srt rg := ⟨_, rfl⟩
      have HSG := Lib.hid (show sg = srt (ren (mgT gs k).1 (gs.getD k gz)) from by rw [hsg, hrg, hT, hx])
      rw [← hT] at HS HO HU hl hw
      have HL := Lib.hid hl
      have HSW := Lib.hid (show GW sg from by rw [hsg, hrg]; exact srt_w (ren_w hw.1 HGW.out))
      have HTE := Lib.hid hT; have HRG := Lib.hid hrg; have HSR := Lib.hid hsg
      obtain ⟨kd, a, bb⟩ := x
      simp only at d0 d1 d2
      clear hl hw hT hx hrg hsg hgw
      obtain ⟨y1, y2, y3⟩ := nw1 wr (.cells #[.int .i8 0, .int .i16 0, .int .i16 0] 67)
      obtain ⟨xb, hxb⟩ : ∃ xb, xb = wr.heap.size := ⟨_, rfl⟩
      have r5 := (show BX _ wr.heap.size _ _ _ from ⟨_, y1⟩).there
      have Y1 := Lib.hid (puts3 y1 (.int .i8 kd) (.int .i16 a) (.int .i16 bb)); have Y2 := Lib.hid (bsets (Nat.le_refl _) [.int .i8 kd, .int .i16 a, .int .i16 bb] 0 _ y2)
      clear y1 y2 y3
      go_upto_region 7 with (guard_target =~ wpList _ _ _ (⟨_, Op.store 67 _ _, _, _, _, _⟩ :: _) _ _; refine wpList_store_mid rfl 67 _ _ rfl (wr.heap.size) 0 #[.int .i8 kd, .int .i16 a, .int .i16 bb] rfl rfl r5 (by kernel_rfl) (three_one rfl rfl rfl) ?_)
      generalize World.setCells (World.alloc wr _) _ _ _ = w6 at Y1 Y2 ⊢
      rw [← hxb] at Y1 ⊢
      have HXB := Lib.hid hxb
      have m6 : BX w6 xb (.int .i8 kd) (.int .i16 a) (.int .i16 bb) := ⟨_, Y1.out⟩
      have g0 := m6.c0; have g1 := m6.c1; have g2 := m6.c2
      have M6 := Lib.hid m6
      clear m6 d0 d1 d2 r5 hxb
      go_wp2_with fail
      refine (implRen_any (kd, a, bb) P P gs.length T.1 HL.out.1 HV.out w6 (owb HO.out Y2.out)).mono ?_
      rintro e w7 ⟨rfl, hb7⟩
      rw [← HRG.out]
      have Y7 := Lib.hid (Y2.out.trans (hb7.mono Y2.out.size)); have M7 := Lib.hid (M6.out.below hb7)
      clear hb7 g0 g1 g2
      go_wp2_with fail
      refine (implSorted_any rg w7).mono ?_
      rintro e w8 ⟨rfl, hb8⟩
      rw [← HSR.out]
      have m8 := M7.out.below hb8
      have r8 := m8.there
      have Y8 := Lib.hid (bsets (show wr.heap.size ≤ xb from Nat.le_of_eq HXB.out.symm) [.int .i8 sg.1, .int .i16 sg.2.1, .int .i16 sg.2.2] 0 w8 (Y7.out.trans (hb8.mono Y7.out.size)))
      have M8 := Lib.hid (m8.puts (.int .i8 sg.1) (.int .i16 sg.2.1) (.int .i16 sg.2.2))
      clear hb8 m8
      go_upto_region 8 with (guard_target =~ wpList _ _ _ (⟨_, Op.store 67 _ _, _, _, _, _⟩ :: _) _ _; refine wpList_store_mid rfl 67 _ _ rfl (xb) 0 #[.int .i8 sg.1, .int .i16 sg.2.1, .int .i16 sg.2.2] rfl rfl r8 (by kernel_rfl) (three_one rfl rfl rfl) ?_)
      clear r8
      generalize World.setCells w8 _ _ _ = w9 at Y8 M8 ⊢
      have g0 := M8.out.c0; have g1 := M8.out.c1; have g2 := M8.out.c2
      have HA9 := Lib.hid (HA.out.trans (AD.of_below (B := gp) (gp := gp) (PT := 74) Y8.out (Nat.le_refl _) HS.out.lt))
      have HS9 := Lib.hid (HS.out.below Y8.out); have HO9 := Lib.hid (owb HO.out Y8.out)
      obtain ⟨D, nn, hnn, hD, hMK⟩ := HU.out
      have HD9 := Lib.hid (map_below hD Y8.out)
      have HMK := Lib.hid hMK
      obtain ⟨kl, hkl⟩ := gateKey sg HSW.out
      have HKL := Lib.hid hkl
      have hq := hMK sg HSW.out kl hkl
      have hzz : ∀ w : World, (zeroValue 65).run Tryd.prog w = .ok (.int .i16 0) w := fun w => by kernel_rfl
      clear hD hMK hkl HA HO HU
      by_cases hin : sg ∈ T.2
      · have hhas : Go.Maps.has D kl = true := by rw [hq.1]; simpa using hin
        have HAT := Lib.hid (hq.2 hin)
        have HE := Lib.hid (mgT_yes HSG.out (by rw [← HTE.out]; exact hin))
        rw [← HTE.out] at HE
        obtain ⟨ix, hix⟩ : ∃ ix, ix = T.2.idxOf sg := ⟨_, rfl⟩
        rw [← hix] at HE HAT
        clear hq hin hix
        obtain ⟨y0, hy0⟩ : ∃ y, (i16s T.1)[k]? = some y := ⟨_, List.getElem?_eq_getElem (by rw [List.length_map, HL.out.1]; exact hlt)⟩
        have p2 : w9.cell? ⟨P, k, none⟩ = some y0 := (HO9.out.cellAt k (by omega)).trans hy0
        have p3 : w9.frozen? ⟨P, k, none⟩ = false := HO9.out.frozenAt k
        have h4 := (HO9.out.stored k (.int .i16 (ix : Int))).1
        rw [← List.map_set] at h4
        have H4 := Lib.hid h4
        have HGR := Lib.hid (grown_putd w9 P k (.int .i16 (ix : Int)))
        have H5 := Lib.hid (HA9.out.after HGR.out (fun z hz => by have := HP.out; cases hz; omega) (Nat.le_refl _) HGL.out)
        have H6 := Lib.hid (HS9.out.grown (by decide) HGR.out (fun z hz => by
          cases hz
          obtain ⟨cr, h⟩ := own_type HO9.out P rfl
          exact ⟨cr, _, h⟩))
        have H7 : Hid (∃ (D : DataW Unit) (nn : Nat), nn ≤ k + 1 ∧ (w9.setCell ⟨P, k, none⟩ (.int .i16 (ix : Int))).ownsMap Tryd.prog 67 (plainElem Tryd.prog 65) mb nn D ∧ MK D T.2) := Lib.hid ⟨D, nn, by omega, HD9.out.kept HGR.out (by have := HMB.out.2; simp; omega), HMK.out⟩
        clear h4 hy0
        go_wp2_with (at_lookup; refine wpList_lookup_own_ok_int _ rfl _ _ 153 rfl 67 65 .i16 gateKeyed Tryd.underlying153 Tryd.underlying65 (hzz _) mb nn D rfl HD9.out (gv sg) kl rfl HKL.out ?_; intro cc hat hwc; obtain rfl : cc = ((ix : Nat) : Int) := (by have h := hat.symm.trans HAT.out; simpa using h))
        exact ⟨⟨k + 1, by go_num, by omega, H5, by rw [HE.out]; exact H6, by rw [HE.out]; exact H4, by rw [HE.out]; exact H7⟩, by simp [intOf]; omega⟩
      · have hhas : Go.Maps.has D kl = false := by rw [hq.1]; simpa using hin
        have HE := Lib.hid (mgT_no HSG.out (by rw [← HTE.out]; exact hin))
        rw [← HTE.out] at HE
        have HNI := Lib.hid hin
        clear hq hin
        go_wp2_with (at_lookup; refine wpList_lookup_own_ok_int _ rfl _ _ 153 rfl 67 65 .i16 gateKeyed Tryd.underlying153 Tryd.underlying65 (hzz _) mb nn D rfl HD9.out (gv sg) kl rfl HKL.out ?_; intro cc hat hwc)
        obtain ⟨vv, hvv, hov⟩ := HS9.out.2.2
        have HXG := Lib.hid (show some xb ≠ vv.ownBlock from fun e => by
          obtain ⟨_, _, v0, hv0, ho0⟩ := HS.out
          have hsame := (Y8.out.cell (p := ⟨gp, 0, none⟩) HS.out.lt).trans hv0
          obtain rfl : vv = v0 := Option.some.inj (hvv.symm.trans hsame)
          have := (own_block ho0 xb e.symm).2
          have := HXB.out
          omega)
        have HXP : Hid (xb ≠ gp) := Lib.hid (by have := HS.out.lt; have := HXB.out; omega)
        have hm9 := M8.out.lt
        obtain ⟨tn, htn⟩ : ∃ tn, tn = T.2.length := ⟨_, rfl⟩
        rw [← htn] at HE
        refine (implAdd2_any gp gp 74 (by decide) sg T.2 (by have := HL.out.2; omega) w9 HS9.out vv hvv).mono ?_
        rintro e w10 ⟨rfl, hs10, ha10, hfar⟩
        rw [← htn]
        have HTN := Lib.hid htn
        have m10 : BX w10 xb (.int .i8 sg.1) (.int .i16 sg.2.1) (.int .i16 sg.2.2) := by
          obtain ⟨t, ht⟩ := M8.out
          exact ⟨t, (hfar xb hm9 HXP.out HXG.out).trans ht⟩
        have HA10 := Lib.hid (HA9.out.trans ha10); have HS10 := Lib.hid hs10
        have HO10 := Lib.hid (own_ad gt_i16 (by decide) HO9.out ha10); have HD10 := Lib.hid (map_ad HD9.out ha10)
        clear g0 g1 g2 hs10 ha10 hfar hvv hov htn hm9
        have g0 := m10.c0; have g1 := m10.c1; have g2 := m10.c2
        have htl := HL.out.2
        rw [← HTN.out] at htl
        have hwf : (Lit.int .i16 (tn : Int)).wf = true := by
          simp [Lit.wf]
          show (-32768 : Int) ≤ (tn : Int) ∧ (tn : Int) ≤ 32767
          omega
        go_wp2_with (at_mapUpdate; refine wpList_mapUpdate_own _ rfl _ _ _ 153 rfl 67 65 gateKeyed Tryd.underlying153 (plainElem Tryd.prog 65) mb nn D rfl HD10.out (by unfold maxLen; omega) (gv sg) (.int .i16 (tn : Int)) kl rfl rfl HKL.out (.lit (.int .i16 (tn : Int))) [] (plainElem_int Tryd.underlying65 hwf) ?_)
        intro w11 hm11 hg11
        have HD11 := Lib.hid hm11
        have HA11 := Lib.hid (HA10.out.after hg11 (fun z hz => by have := HMB.out.1; cases hz; omega) (Nat.le_refl _) HGL.out)
        have HMKN := Lib.hid (MK.put HD10.out.isMap HMK.out sg HSW.out HNI.out kl HKL.out)
        rw [← HTN.out] at HMKN
        have hmbk := map_block HD10.out
        have HS11 := Lib.hid (st_map HS10.out hg11 hmbk); have HO11 := Lib.hid (own_map HO10.out hg11 hmbk)
        clear hm11 hg11 hmbk g0 g1 g2 m10 hwf
        obtain ⟨y0, hy0⟩ : ∃ y, (i16s T.1)[k]? = some y := ⟨_, List.getElem?_eq_getElem (by rw [List.length_map, HL.out.1]; exact hlt)⟩
        have p2 : w11.cell? ⟨P, k, none⟩ = some y0 := (HO11.out.cellAt k (by omega)).trans hy0
        have p3 : w11.frozen? ⟨P, k, none⟩ = false := HO11.out.frozenAt k
        have h4 := (HO11.out.stored k (.int .i16 (tn : Int))).1
        rw [← List.map_set] at h4
        have H4 := Lib.hid h4
        have HGR := Lib.hid (grown_putd w11 P k (.int .i16 (tn : Int)))
        have H5 := Lib.hid (HA11.out.after HGR.out (fun z hz => by have := HP.out; cases hz; omega) (Nat.le_refl _) HGL.out)
        have H6 := Lib.hid (HS11.out.grown (by decide) HGR.out (fun z hz => by
          cases hz
          obtain ⟨cr, h⟩ := own_type HO11.out P rfl
          exact ⟨cr, _, h⟩))
        have H7 : Hid (∃ (D : DataW Unit) (nn : Nat), nn ≤ k + 1 ∧ (w11.setCell ⟨P, k, none⟩ (.int .i16 (tn : Int))).ownsMap Tryd.prog 67 (plainElem Tryd.prog 65) mb nn D ∧ MK D (T.2 ++ [sg])) := Lib.hid ⟨_, nn + 1, by omega, HD11.out.kept HGR.out (by have := HMB.out.2; simp; omega), HMKN.out⟩
        clear h4 hy0
        go_wp2_with fail
        exact ⟨⟨k + 1, by go_num, by omega, H5, by rw [HE.out]; exact H6, by rw [HE.out]; exact H4, by rw [HE.out]; exact H7⟩, by simp [intOf]; omega⟩
    · obtain rfl : k = gs.length := by omega
      have T1 : decide ((gs.length : Int) < (gs.length : Int)) = false := by simp
      obtain ⟨T, hT⟩ : ∃ T, T = (mgT gs gs.length) := ⟨_, rfl⟩
      rw [← hT] at HS HO
      have HTT := Lib.hid hT
      have hl := mgT_len gs gs.length
      rw [← hT] at hl
      have HL := Lib.hid hl
      have c2' := MCR.out.c2
      clear hl hT HU
      go_wp2_with fail
      refine (implRenL_any _ os T.1 P P gs.length HL.out.1 (fun j hj => out_of HC.out j hj) (by have := (head_of HC.out).2.2.2; omega) wr (HO'.out.below HBR.out) HO.out).mono ?_
      rintro e w5 ⟨r, rfl, hb5, hro⟩
      obtain ⟨AR, cR, rfl, _, _⟩ := own_formu hro
      have HB5 := Lib.hid hb5
      have hst := HS.out.below hb5
      obtain ⟨_, ⟨cur, hcur, _⟩, v5, hv5, hov5⟩ := hst
      obtain ⟨AG, cG, rfl, _, _⟩ := own_formu hov5
      have had := HA.out.trans (AD.of_below (B := gp) (gp := gp) (PT := 74) hb5 (Nat.le_refl _) HS.out.lt)
      have k1 : w5.cell? ⟨gp, 1, none⟩ = some (.int .i8 n) := (had.off 1 (by decide)).trans HX2.out.c1
      have k2 : w5.cell? ⟨gp, 2, none⟩ = some (.slice none 0 0) := (had.off 2 (by decide)).trans HX2.out.c2
      have k3 : w5.frozen? ⟨gp, 2, none⟩ = false := frozen_of_row _ _ _ _ _ hcur
      obtain ⟨q0, q1, q2⟩ := cells2 hcur hv5 k1 _ (.slice AR os.length cR) k2
      have hgt := grown_putd w5 gp 2 (.slice AR os.length cR)
      have o6 := own_grown hov5 hgt (fun k hk e => by
        obtain ⟨cr, h⟩ := own_type hov5 k hk
        cases e
        rw [hcur] at h; cases h)
      have p6 := own_grown hro hgt (fun k hk e => by
        obtain ⟨cr, h⟩ := own_type hro k hk
        cases e
        rw [hcur] at h; cases h)
      have S12 : Hid (w.heap.size + 2 = gp) := Lib.hid (by have := HS1.out; have := HGP.out; omega)
      have b6 : Below w.heap.size w (w5.setCell ⟨gp, 2, none⟩ (.slice AR os.length cR)) := (HBR.out.trans (HB5.out.mono HBR.out.size)).setCell (p := ⟨gp, 2, none⟩) (by show w.heap.size ≤ gp; have := S12.out; omega) _
      have m6 := (((MR.out.below Z2'.out).belowB HA.out.toBelow (by have := S12.out; omega)).below HB5.out).other (k := gp) (o := 2) (by have := S12.out; omega) (.slice AR os.length cR)
      have hwg : w.heap.size ≤ wr.heap.size := HBR.out.size
      have O6 := Lib.hid (own_low o6 (show w.heap.size ≤ gp from by have := S12.out; omega)); have P6 := Lib.hid (own_low p6 hwg); have B6 := Lib.hid b6; have M6 := Lib.hid m6
      have O6b := Lib.hid o6; have P6b := Lib.hid p6
      obtain ⟨na, hna⟩ : ∃ na, na = T.2.length := ⟨_, rfl⟩
      rw [← hna] at q0 O6 O6b
      have HNA := Lib.hid hna
      have r6 := M6.out.there
      have GPS := Lib.hid (show gp ≤ wr.heap.size from by have := HA.out.size; have := HGL.out; omega)
      clear hcur hv5 hov5 hgt o6 p6 b6 m6 had hro hb5 hna hwg c2' HO HS
      generalize hw6 : w5.setCell ⟨gp, 2, none⟩ (.slice AR os.length cR) = w6 at q0 q1 q2 O6 P6 B6 M6 O6b P6b r6
      go_wp2_with (guard_target =~ wpList _ _ _ (⟨_, Op.store 74 _ _, _, _, _, _⟩ :: _) _ _; refine wpList_store_mid rfl 74 _ _ rfl (w.heap.size + 1) 0 #[.slice AG na cG, .int .i8 n, .slice AR os.length cR] rfl rfl r6 (by kernel_rfl) (three_one rfl rfl rfl) ?_)
      obtain ⟨t8, h8⟩ := M6.out.puts (.slice AG na cG) (.int .i8 n) (.slice AR os.length cR)
      refine bodyPost_ret (v := .agg #[.slice AG na cG, .int .i8 n, .slice AR os.length cR]) ?_ rfl ⟨_, _, rfl, bsets (by omega) _ 0 w6 B6.out, ?_, ?_⟩
      · exact results_cell_row rfl _ _ (w.heap.size + 1) _ _ (0, 0) _ rfl h8 Tryd.underlying74 rfl (by kernel_rfl)
      · rw [← HTT.out, ← HNA.out]; exact own_low (own_sets O6b.out (by have := S12.out; omega) _ 0) (by have := S12.out; omega)
      · rw [← HTT.out]; exact own_low (own_sets P6b.out (by have := GPS.out; have := S12.out; omega) _ 0) (by have := GPS.out; have := S12.out; omega)

end Go.Proofs.YtedcfmdgcafnmaaDoor
