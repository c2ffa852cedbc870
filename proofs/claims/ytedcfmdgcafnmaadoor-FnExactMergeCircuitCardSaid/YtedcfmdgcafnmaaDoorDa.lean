/-
  A list of gates that grows behind a pointer; what that turns; adding gates.
-/
import Derived.Test.YtedcfmdgcafnmaaDoorCu
import Derived.OwnWalk
import Derived.Deep.RegionHeld
namespace Go.Proofs.YtedcfmdgcafnmaaDoor
set_option linter.unusedVariables false
set_option linter.unusedSimpArgs false
open Go.ChangeShapes Go.WideShapes Go.ChangeAt Go.RowKit Go.Deep
theorem takeHd  {P : Program} {ops : Array Oper} {Q : Exit → Act → World → Prop} {a : Act} {w : World} {md : Region.Mode} {S : World → Prop} {i : Nat} {oi : Oper} {d : Tmp} {v : Value} {fuel : Nat} {listed : Array Bool} (hi : ops[i]? = some oi) (hd : oi.dst = some d)
    (hs : Region.noSelect ops = true) (hf : Region.free md ops listed i = true) (hr : (Region.ready md ops listed).contains i = true)
    (hQ : ∀ c a w, Q (.panic c) (a.put (some d) v) w → Q (.panic c) a w) (hw : Region.wanted oi (yielded ops a.tmps) = true) (hy : ∀ w, S w → (execOp a.eval oi).run P w = .ok (.value v) w) (hS : S w)
    (h : wpAnyH P md ops Q S fuel (listed.setIfInBounds i true) (a.put (some d) v) w) : wpAnyH P md ops Q S (fuel + 1) listed a w :=
  wpAnyH_take hi hs hf hr (by rw [hd]; exact hQ) (.inl ⟨hw, hy⟩) hS (by rw [hd]; exact h)
theorem exec_load_midd {P : Program} {w : World} {o : Oper} {a : Act} (ty : TypeId) (x : Operand) (ho : o.op = .load ty x) (b off : Nat) (hx : a.eval x = .pointer (some ⟨b, off, none⟩)) (cs : List Value) (d : TypeDesc) (hc : w.rangeAt b off cs)
    (hu : P.underlying ty = some d) (hd : d.isRow = true) (hi : (P.info? ty).map (·.size) = some cs.length) : (execOp a.eval o).run P w = .ok (.value (.agg cs.toArray)) w := by
  unfold execOp
  simp only [ho, hx, Instr.loadAt, Instr.sureAddr, Sem.run_bind, Sem.run_pure, Result.andThen_ok, run_loadVar_mid w b off ty cs d hc hu hd hi]
theorem gate_cells (w : World) (x : G3) (t : TypeId) (j : Nat) (u : Value) (h : (gc x)[j]? = some u) : (w.alloc (.cells (gc x).toArray t)).cell? ((⟨w.heap.size, 0, none⟩ : Addr).add j) = some u := by
  obtain ⟨a, b, c⟩ := x
  have m : BX (w.alloc (.cells (gc (a, b, c)).toArray t)) w.heap.size (.int .i8 a) (.int .i16 b) (.int .i16 c) := ⟨t, heap_alloc_new w _⟩
  match j, h with
  | 0, h => simp [gc] at h; subst h; exact m.c0
  | 1, h => simp [gc] at h; subst h; exact m.c1
  | 2, h => simp [gc] at h; subst h; exact m.c2
  | j + 3, h => simp [gc] at h
/-- what a list of gates that grows may turn: the cell that holds it, and its row -/
structure AD (B gp : Nat) (PT : TypeId) (w w' : World) : Prop where
  os : w'.os = w.os
  tape : w'.tape = w.tape
  output : w'.output = w.output
  size : w.heap.size ≤ w'.heap.size
  low : ∀ k, k < B → w'.heap[k]? = w.heap[k]?
  row : ∀ e, e ≠ 67 → e ≠ PT → ∀ (k : Nat) cur t, w.heap[k]? = some (.cells cur e t) → w'.heap[k]? = w.heap[k]?
  off : ∀ i, i ≠ 0 → w'.cell? ⟨gp, i, none⟩ = w.cell? ⟨gp, i, none⟩
  mp : ∀ (k : Nat) es cl, w.heap[k]? = some (.map es cl) → w'.heap[k]? = w.heap[k]?
theorem AD.refl (B gp : Nat) (PT : TypeId) (w : World) : AD B gp PT w w := ⟨rfl, rfl, rfl, Nat.le_refl _, fun _ _ => rfl, fun _ _ _ _ _ _ _ => rfl, fun _ _ => rfl, fun _ _ _ _ => rfl⟩
theorem AD.trans {B gp : Nat} {PT : TypeId} {a b c : World} (h : AD B gp PT a b) (h' : AD B gp PT b c) : AD B gp PT a c :=
  ⟨h'.os.trans h.os, h'.tape.trans h.tape, h'.output.trans h.output, Nat.le_trans h.size h'.size, fun k hk => (h'.low k hk).trans (h.low k hk),
   fun e h1 h2 k cur t hk => (h'.row e h1 h2 k cur t ((h.row e h1 h2 k cur t hk).trans hk)).trans (h.row e h1 h2 k cur t hk), fun i hi => (h'.off i hi).trans (h.off i hi), fun k es cl hk => (h'.mp k es cl ((h.mp k es cl hk).trans hk)).trans (h.mp k es cl hk)⟩
theorem AD.of_below {B gp : Nat} {PT : TypeId} {w w' : World} (h : Below w.heap.size w w') (hB : B ≤ gp) (hg : gp < w.heap.size) : AD B gp PT w w' :=
  ⟨h.os, h.tape, h.output, h.size, fun k hk => h.block k (by omega), fun e _ _ k cur t hk => h.block k (Array.getElem?_eq_some_iff.1 hk).1, fun i _ => World.cell?_of_block (h.block gp hg), fun k es cl hk => h.block k (Array.getElem?_eq_some_iff.1 hk).1⟩
theorem AD.toBelow {B gp : Nat} {PT : TypeId} {w w' : World} (h : AD B gp PT w w') : Below B w w' := ⟨h.os, h.tape, h.output, h.size, h.low⟩
/-- the cell at gp holds a list of gates in memory of its own, from block B on -/
def ST (B gp : Nat) (PT : TypeId) (w : World) (gs : List G3) : Prop :=
  B ≤ gp ∧ (∃ cur, w.heap[gp]? = some (.cells cur PT (0, 0)) ∧ 0 < cur.size) ∧ ∃ v, w.cell? ⟨gp, 0, none⟩ = some v ∧ w.ownsRow B 67 3 v gs.length (gcs gs)
theorem ST.lt {B gp : Nat} {PT : TypeId} {w : World} {gs : List G3} (h : ST B gp PT w gs) : gp < w.heap.size := by
  obtain ⟨_, ⟨cur, hc, _⟩, _⟩ := h
  exact (Array.getElem?_eq_some_iff.1 hc).1
theorem ST.below {B gp : Nat} {PT : TypeId} {w w' : World} {gs : List G3} (h : ST B gp PT w gs) (hb : Below w.heap.size w w') : ST B gp PT w' gs := by
  have hl := h.lt
  obtain ⟨h1, ⟨cur, hc, hp⟩, v, hv, ho⟩ := h
  exact ⟨h1, ⟨cur, (hb.block gp hl).trans hc, hp⟩, v, (World.cell?_of_block (hb.block gp hl)).trans hv, owb ho hb⟩
theorem own_type {w : World} {B s n : Nat} {e : TypeId} {v : Value} {cs : List Value} (h : w.ownsRow B e s v n cs) (k : Nat) (hk : v.ownBlock = some k) : ∃ cur, w.heap[k]? = some (.cells cur e (0, 0)) := by
  rcases h.2 with ⟨rfl, _⟩ | ⟨g, _, cur, rfl, _, hg, _⟩
  · simp [Value.ownBlock] at hk
  · have e : g = k := by simpa [Value.ownBlock] using hk
    subst e
    exact ⟨cur, hg⟩
/-- a gate more -/
theorem ad_put {B gp : Nat} {PT : TypeId} {w w1 w2 : World} {gs : List G3} {x : G3} {v s' : Value} (hP : PT ≠ 67) (h : ST B gp PT w gs) (hv : w.cell? ⟨gp, 0, none⟩ = some v) (hv2 : w.ownsRow B 67 3 v gs.length (gcs gs)) (hb : Below w.heap.size w w1)
    (hg : w1.grownBy w2 v.ownBlock) (hs : w2.ownsRow B 67 3 s' (gs.length + 1) (gcs gs ++ gc x)) :
    ST B gp PT (w2.setCell ⟨gp, 0, none⟩ s') (gs ++ [x]) ∧ AD B gp PT w (w2.setCell ⟨gp, 0, none⟩ s') ∧ (w2.setCell ⟨gp, 0, none⟩ s').cell? ⟨gp, 0, none⟩ = some s' ∧ (w2.setCell ⟨gp, 0, none⟩ s').ownsRow B 67 3 s' (gs.length + 1) (gcs (gs ++ [x])) := by
  have hlt := h.lt
  obtain ⟨h1, ⟨cur, hc, hp⟩, _⟩ := h
  have hvb := own_block hv2
  have hvt := own_type hv2
  have c1 : w1.heap[gp]? = some (.cells cur PT (0, 0)) := (hb.block gp hlt).trans hc
  have hne : some gp ≠ v.ownBlock := fun e => by
    obtain ⟨cur', h'⟩ := hvt gp e.symm
    rw [hc] at h'
    exact hP (by cases h'; rfl)
  have c2 : w2.heap[gp]? = some (.cells cur PT (0, 0)) := (hg.block gp (Nat.lt_of_lt_of_le hlt hb.size) hne).trans c1
  have hst := own_type hs
  have c3 := heap_setCell_same w2 gp 0 cur PT s' c2
  have o3 : (w2.setCell ⟨gp, 0, none⟩ s').ownsRow B 67 3 s' (gs.length + 1) (gcs (gs ++ [x])) := by
    have e : gcs gs ++ gc x = gcs (gs ++ [x]) := by simp [gcs]
    rw [← e]
    refine own_grown hs (r := some gp) ⟨rfl, rfl, rfl, by simp [World.setCell], fun k hk hne => heap_setCell_other _ _ _ _ (fun e => hne (by rw [e]))⟩ (fun k hk e => ?_)
    obtain ⟨cur', h'⟩ := hst k hk
    cases e
    rw [c2] at h'
    exact hP (by cases h'; rfl)
  have k3 : (w2.setCell ⟨gp, 0, none⟩ s').cell? ⟨gp, 0, none⟩ = some s' := by
    simp only [World.cell?, c3]
    simp [hp]
  refine ⟨⟨h1, ⟨_, c3, by simpa using hp⟩, s', k3, by simpa using o3⟩, ?_, k3, o3⟩
  have hbig : ∀ k, k < w.heap.size → k ≠ gp → some k ≠ v.ownBlock → (w2.setCell ⟨gp, 0, none⟩ s').heap[k]? = w.heap[k]? := fun k hk h1 h2 =>
    (heap_setCell_other _ _ _ _ h1).trans ((hg.block k (Nat.lt_of_lt_of_le hk hb.size) h2).trans (hb.block k hk))
  refine ⟨hg.os.trans hb.os, hg.tape.trans hb.tape, hg.output.trans hb.output, Nat.le_trans hb.size (Nat.le_trans hg.size (by simp [World.setCell])), fun k hk => ?_, fun e he1 he2 k cr t hk => ?_, fun i hi => ?_, fun k es cl hk => ?_⟩
  · exact hbig k (by omega) (by omega) (fun e => by have := (hvb k e.symm).1; omega)
  · refine hbig k (Array.getElem?_eq_some_iff.1 hk).1 (fun e => ?_) (fun e => ?_)
    · subst e; rw [hc] at hk; exact he2 (by cases hk; rfl)
    · obtain ⟨cur', h'⟩ := hvt k e.symm; rw [hk] at h'; exact he1 (by cases h'; rfl)
  · have e2 : (w2.setCell ⟨gp, 0, none⟩ s').cell? ⟨gp, i, none⟩ = w2.cell? ⟨gp, i, none⟩ := by
      simp only [World.cell?, c3, c2]
      simp [Array.getElem?_setIfInBounds, Ne.symm hi]
    exact e2.trans ((World.cell?_of_block (hg.block gp (Nat.lt_of_lt_of_le hlt hb.size) hne)).trans (World.cell?_of_block (hb.block gp hlt)))
  · refine hbig k (Array.getElem?_eq_some_iff.1 hk).1 (fun e => ?_) (fun e => ?_)
    · subst e; rw [hc] at hk; cases hk
    · obtain ⟨cur', h'⟩ := hvt k e.symm; rw [hk] at h'; cases h'
theorem block_of_cellc {w : World} {p : Addr} {v : Value} (h : w.cell? p = some v) : p.block < w.heap.size := World.block_lt_of_cell? w p h
theorem i16_small (n : Nat) (h : n < 32768) : IntKind.wrap .i16 ((n : Nat) : Int) = (n : Int) := by
  simp only [IntKind.wrap, show IntKind.i16.bits = 16 from rfl, show IntKind.i16.signed = true from rfl]
  simp
  omega

set_option maxHeartbeats 4000000 in
set_option maxRecDepth 100000 in
theorem implAdd_any (B gp : Nat) (PT : TypeId) (hP : PT ≠ 67) (x : G3) (gs : List G3) (hl : gs.length < 30000) (w : World) (h : ST B gp PT w gs) :
    Calls Tryd.prog 107 #[.pointer (some ⟨gp, 0, none⟩), gv x] w fun e w' => e = .returned (.int .i16 ((gs.length : Nat) : Int)) ∧ ST B gp PT w' (gs ++ [x]) ∧ AD B gp PT w w' := by
  have H := Lib.hid h
  obtain ⟨h1, ⟨cur, hc, hp⟩, v, hv, ho⟩ := h
  have HP := Lib.hid hP
  have HV := Lib.hid hv; have HO := Lib.hid ho
  obtain ⟨A, c, rfl, hlen, hA⟩ := own_formu ho
  obtain ⟨i0, hi, hz0, hz1, hz2⟩ := info_parts infoGate
  have HC := Lib.hid hc
  have HNE : Hid (some gp ≠ (Value.slice A gs.length c).ownBlock) := Lib.hid (fun e => by
    obtain ⟨cur', h'⟩ := own_type ho gp e.symm
    rw [hc] at h'
    exact hP (by cases h'; rfl))
  clear hc hp hP h1 hA hlen ho
  go_enter Tryd.func107, Tryd.ntmps107
  go_upto_region 1 with fail
  obtain ⟨z1, z2, z3⟩ := nw1 w (.cells #[.int .i8 x.1, .int .i16 x.2.1, .int .i16 x.2.2] 67)
  obtain ⟨xb, hxb⟩ : ∃ xb, xb = w.heap.size := ⟨_, rfl⟩
  generalize World.alloc w _ = w1 at z1 z2 z3 ⊢
  have mx : BX w1 xb (.int .i8 x.1) (.int .i16 x.2.1) (.int .i16 x.2.2) := by rw [hxb]; exact ⟨_, z1⟩
  rw [← hxb]
  have HXB := Lib.hid hxb
  have HZ2 := Lib.hid z2
  have k0 : w1.cell? ⟨gp, 0, none⟩ = some (.slice A gs.length c) := (z2.cell (p := ⟨gp, 0, none⟩) H.out.lt).trans hv
  have rx : w1.rangeAt xb 0 (gc x) := range3 mx.c0 mx.c1 mx.c2
  clear z1 z2 z3 mx hxb hv
  refine wp_region_held_drew (S := fun W => W.rangeAt xb 0 (gc x)) (by kernel_rfl) ?hS0 (fun hS => ?_)
  case hS0 => exact rx
  have HB1 : Hid (Below w.heap.size w w1.drew) := Lib.hid (bdr HZ2.out 1)
  have HX1 : Hid (xb < w1.drew.heap.size) := Lib.hid (World.block_lt_of_cell? (a := ⟨xb, 0, none⟩) _ (rx 0 _ rfl))
  replace k0 : w1.drew.cell? ⟨gp, 0, none⟩ = some (.slice A gs.length c) := k0
  clear HZ2 rx
  generalize w1.drew = wd at hS HB1 HX1 k0 ⊢
  refine takeHd (i := 0) (v := ?v0) rfl rfl (by kernel_rfl) (by kernel_rfl) (by kernel_rfl) (fun _ _ _ h => h) rfl ?hy0 hS ?rs0
  case hy0 => (intro wq hq; go_simp; try (with_reducible rfl))
  simp only [Act.put, List.setIfInBounds_toArray, List.set_cons_zero, List.set_cons_succ]
  refine takeHd (i := 1) (v := ?v1) rfl rfl (by kernel_rfl) (by kernel_rfl) (by kernel_rfl) (fun _ _ _ h => h) rfl ?hy1 hS ?rs1
  case hy1 => (intro wq hq; go_simp; try (with_reducible rfl))
  simp only [Act.put, List.setIfInBounds_toArray, List.set_cons_zero, List.set_cons_succ]
  refine takeHd (i := 2) (v := ?v2) rfl rfl (by kernel_rfl) (by kernel_rfl) (by kernel_rfl) (fun _ _ _ h => h) rfl ?hy2 hS ?rs2
  case hy2 => (intro wq hq; go_simp; try (with_reducible rfl))
  simp only [Act.put, List.setIfInBounds_toArray, List.set_cons_zero, List.set_cons_succ]
  refine takeHd (i := 4) (v := .agg (gc x).toArray) rfl rfl (by kernel_rfl) (by kernel_rfl) (by kernel_rfl) (fun _ _ _ h => h) rfl ?hy4 hS ?rs4
  case hy4 => exact fun wq hq => exec_load_midd 67 _ rfl xb 0 rfl (gc x) _ hq Tryd.underlying67 rfl (by kernel_rfl)
  simp only [Act.put, List.setIfInBounds_toArray, List.set_cons_zero, List.set_cons_succ]
  refine wpAnyH_ready (rs := [3, 5]) (by kernel_rfl) (by simp) ?_
  refine AllReadyH.cons rfl (fun K hK => ?_) (AllReadyH.cons rfl (fun K hK => ?_) AllReadyH.nil)
  · go_simp
    refine hK.out _ wd hS (fun hS => ?_)
    clear hK
    try simp only [Act.put, List.setIfInBounds_toArray, List.set_cons_zero, List.set_cons_succ]
    refine wpAnyH_ready (rs := [5]) (by kernel_rfl) (by simp) ?_
    refine AllReadyH.cons rfl (fun K hK => ?_) AllReadyH.nil
    go_simp
    have HOA := Lib.hid (owb (owb HO.out HB1.out) (nw1 wd (.cells (gc x).toArray 67)).2.1)
    have HBA := Lib.hid (HB1.out.trans ((nw1 wd (.cells (gc x).toArray 67)).2.1.mono HB1.out.size))
    have HCL := Lib.hid (gate_cells wd x 67)
    have HSZ : Hid ((wd.alloc (.cells (gc x).toArray 67)).heap.size = wd.heap.size + 1) := Lib.hid (World.size_alloc _ _)
    have k1 : (wd.alloc (.cells (gc x).toArray 67)).cell? ⟨gp, 0, none⟩ = some (.slice A gs.length c) := ((nw1 wd _).2.1.cell (block_of_cellc k0)).trans k0
    refine hK.out _ (wd.alloc (.cells (gc x).toArray 67)) (fun j u hu => ((nw1 wd _).2.1.cell (p := ⟨xb, 0 + j, none⟩) HX1.out).trans (hS j u hu)) (fun hS => ?_)
    clear hK
    obtain ⟨bd, hbd⟩ : ∃ bd, bd = wd.heap.size := ⟨_, rfl⟩
    rw [← hbd] at HCL HSZ ⊢
    have HX2 : Hid (xb < (wd.alloc (.cells (gc x).toArray 67)).heap.size) := Lib.hid (by rw [World.size_alloc]; have := HX1.out; omega)
    clear hbd HX1 HB1 k0
    generalize (wd.alloc (.cells (gc x).toArray 67)) = wa at hS HOA HBA HCL HSZ HX2 k1 ⊢
    try simp only [Act.put, List.setIfInBounds_toArray, List.set_cons_zero, List.set_cons_succ]
    refine wpAnyH_ready (rs := [6]) (by kernel_rfl) (by simp) ?_
    refine AllReadyH.cons rfl (fun K hK => ?_) AllReadyH.nil
    simp only [List.getElem_toArray, List.getElem_cons_zero, List.getElem_cons_succ]
    refine wp_append_own _ _ _ 71 rfl B 67 i0 (.agg #[.int .i8 0, .int .i16 0, .int .i16 0]) 3 6 Tryd.underlying71 hi hz0 hz1 hz2 rfl (by decide) _ gs.length _ rfl HOA.out ⟨bd, 0, none⟩ 1 1 (gc x) rfl rfl ?c1 ?c2 ?c3 ?c4 ?c5 ?_
    case c1 => exact (fun j u hu => HCL.out j u hu)
    case c2 => simp [gc, Value.oneCell']
    case c3 => unfold maxLen; omega
    case c4 => omega
    case c5 => have := HBA.out.size; have := H.out.lt; have := H.out.1; omega
    intro s' wy hown hgrow _
    have HPUT := Lib.hid (ad_put HP.out H.out HV.out HO.out HBA.out hgrow hown)
    have hgc : wy.cell? ⟨gp, 0, none⟩ = some (.slice A gs.length c) := hgrow.cell k1 HNE.out
    have hgx : wy.rangeAt xb 0 (gc x) := fun j u hu => hgrow.cell (a := ⟨xb, 0 + j, none⟩) (hS j u hu) (fun e => by have := (own_block HO.out xb e.symm).2; have := HXB.out; omega)
    have HCY : Hid (∃ cur, wy.heap[gp]? = some (.cells cur PT (0, 0))) := Lib.hid ⟨cur, (hgrow.block gp (Nat.lt_of_lt_of_le H.out.lt HBA.out.size) HNE.out).trans ((HBA.out.block gp H.out.lt).trans HC.out)⟩
    have q5 : wy.frozen? ⟨gp, 0, none⟩ = false := by obtain ⟨cr, h⟩ := HCY.out; exact frozen_of_row _ _ _ _ _ h
    obtain ⟨A', c', rfl, _, _⟩ := own_formu hown
    refine hK.out _ wy hgx (fun hS => ?_)
    clear hK hown hgrow hgx k1
    try simp only [Act.put, List.setIfInBounds_toArray, List.set_cons_zero, List.set_cons_succ]
    refine takeHd (i := 7) (v := ?v7) rfl rfl (by kernel_rfl) (by kernel_rfl) (by kernel_rfl) (fun _ _ _ h => h) rfl ?hy7 hS ?rs7
    case hy7 => (intro wq hq; go_simp; try (with_reducible rfl))
    simp only [Act.put, List.setIfInBounds_toArray, List.set_cons_zero, List.set_cons_succ]
    refine wpAnyH_ready (rs := [8]) (by kernel_rfl) (by simp) ?_
    refine AllReadyH.cons rfl (fun K hK => ?_) AllReadyH.nil
    go_simp
    obtain ⟨wz, hwz⟩ : ∃ wz, wz = wy.setCell ⟨gp, 0, none⟩ (.slice A' (gs.length + 1) c') := ⟨_, rfl⟩
    have hSz : wz.rangeAt xb 0 (gc x) := fun j u hu => by
      rw [hwz]
      exact (World.cell?_of_block (heap_setCell_other _ _ _ _ (fun e => by have := HXB.out; have := H.out.lt; have e2 : xb = gp := e; omega))).trans (hS j u hu)
    rw [← hwz] at HPUT ⊢
    have HK2 := Lib.hid HPUT.out.2.2.1
    refine hK.out _ wz hSz (fun hS => ?_)
    clear hK hwz hS hSz hgc q5
    try simp only [Act.put, List.setIfInBounds_toArray, List.set_cons_zero, List.set_cons_succ]
    refine wpAnyH_done (by kernel_rfl) ?_ _
    have k2 := HK2.out
    have hw := i16_small gs.length (by omega)
    have HPT := Lib.hid (And.intro HPUT.out.1 HPUT.out.2.1)
    clear HPUT
    go_wp2_with fail
    go_ret
    exact ⟨rfl, HPT.out⟩
  · go_simp
    have HOA := Lib.hid (owb (owb HO.out HB1.out) (nw1 wd (.cells (gc x).toArray 67)).2.1)
    have HBA := Lib.hid (HB1.out.trans ((nw1 wd (.cells (gc x).toArray 67)).2.1.mono HB1.out.size))
    have HCL := Lib.hid (gate_cells wd x 67)
    have HSZ : Hid ((wd.alloc (.cells (gc x).toArray 67)).heap.size = wd.heap.size + 1) := Lib.hid (World.size_alloc _ _)
    have k1 : (wd.alloc (.cells (gc x).toArray 67)).cell? ⟨gp, 0, none⟩ = some (.slice A gs.length c) := ((nw1 wd _).2.1.cell (block_of_cellc k0)).trans k0
    refine hK.out _ (wd.alloc (.cells (gc x).toArray 67)) (fun j u hu => ((nw1 wd _).2.1.cell (p := ⟨xb, 0 + j, none⟩) HX1.out).trans (hS j u hu)) (fun hS => ?_)
    clear hK
    obtain ⟨bd, hbd⟩ : ∃ bd, bd = wd.heap.size := ⟨_, rfl⟩
    rw [← hbd] at HCL HSZ ⊢
    have HX2 : Hid (xb < (wd.alloc (.cells (gc x).toArray 67)).heap.size) := Lib.hid (by rw [World.size_alloc]; have := HX1.out; omega)
    clear hbd HX1 HB1 k0
    generalize (wd.alloc (.cells (gc x).toArray 67)) = wa at hS HOA HBA HCL HSZ HX2 k1 ⊢
    try simp only [Act.put, List.setIfInBounds_toArray, List.set_cons_zero, List.set_cons_succ]
    refine wpAnyH_ready (rs := [3]) (by kernel_rfl) (by simp) ?_
    refine AllReadyH.cons rfl (fun K hK => ?_) AllReadyH.nil
    go_simp
    refine hK.out _ wa hS (fun hS => ?_)
    clear hK
    try simp only [Act.put, List.setIfInBounds_toArray, List.set_cons_zero, List.set_cons_succ]
    refine wpAnyH_ready (rs := [6]) (by kernel_rfl) (by simp) ?_
    refine AllReadyH.cons rfl (fun K hK => ?_) AllReadyH.nil
    simp only [List.getElem_toArray, List.getElem_cons_zero, List.getElem_cons_succ]
    refine wp_append_own _ _ _ 71 rfl B 67 i0 (.agg #[.int .i8 0, .int .i16 0, .int .i16 0]) 3 6 Tryd.underlying71 hi hz0 hz1 hz2 rfl (by decide) _ gs.length _ rfl HOA.out ⟨bd, 0, none⟩ 1 1 (gc x) rfl rfl ?d1 ?d2 ?d3 ?d4 ?d5 ?_
    case d1 => exact (fun j u hu => HCL.out j u hu)
    case d2 => simp [gc, Value.oneCell']
    case d3 => unfold maxLen; omega
    case d4 => omega
    case d5 => have := HBA.out.size; have := H.out.lt; have := H.out.1; omega
    intro s' wy hown hgrow _
    have HPUT := Lib.hid (ad_put HP.out H.out HV.out HO.out HBA.out hgrow hown)
    have hgc : wy.cell? ⟨gp, 0, none⟩ = some (.slice A gs.length c) := hgrow.cell k1 HNE.out
    have hgx : wy.rangeAt xb 0 (gc x) := fun j u hu => hgrow.cell (a := ⟨xb, 0 + j, none⟩) (hS j u hu) (fun e => by have := (own_block HO.out xb e.symm).2; have := HXB.out; omega)
    have HCY : Hid (∃ cur, wy.heap[gp]? = some (.cells cur PT (0, 0))) := Lib.hid ⟨cur, (hgrow.block gp (Nat.lt_of_lt_of_le H.out.lt HBA.out.size) HNE.out).trans ((HBA.out.block gp H.out.lt).trans HC.out)⟩
    have q5 : wy.frozen? ⟨gp, 0, none⟩ = false := by obtain ⟨cr, h⟩ := HCY.out; exact frozen_of_row _ _ _ _ _ h
    obtain ⟨A', c', rfl, _, _⟩ := own_formu hown
    refine hK.out _ wy hgx (fun hS => ?_)
    clear hK hown hgrow hgx k1
    try simp only [Act.put, List.setIfInBounds_toArray, List.set_cons_zero, List.set_cons_succ]
    refine takeHd (i := 7) (v := ?v7b) rfl rfl (by kernel_rfl) (by kernel_rfl) (by kernel_rfl) (fun _ _ _ h => h) rfl ?hy7b hS ?rs7b
    case hy7b => (intro wq hq; go_simp; try (with_reducible rfl))
    simp only [Act.put, List.setIfInBounds_toArray, List.set_cons_zero, List.set_cons_succ]
    refine wpAnyH_ready (rs := [8]) (by kernel_rfl) (by simp) ?_
    refine AllReadyH.cons rfl (fun K hK => ?_) AllReadyH.nil
    go_simp
    obtain ⟨wz, hwz⟩ : ∃ wz, wz = wy.setCell ⟨gp, 0, none⟩ (.slice A' (gs.length + 1) c') := ⟨_, rfl⟩
    have hSz : wz.rangeAt xb 0 (gc x) := fun j u hu => by
      rw [hwz]
      exact (World.cell?_of_block (heap_setCell_other _ _ _ _ (fun e => by have := HXB.out; have := H.out.lt; have e2 : xb = gp := e; omega))).trans (hS j u hu)
    rw [← hwz] at HPUT ⊢
    have HK2 := Lib.hid HPUT.out.2.2.1
    refine hK.out _ wz hSz (fun hS => ?_)
    clear hK hwz hS hSz hgc q5
    try simp only [Act.put, List.setIfInBounds_toArray, List.set_cons_zero, List.set_cons_succ]
    refine wpAnyH_done (by kernel_rfl) ?_ _
    have k2 := HK2.out
    have hw := i16_small gs.length (by omega)
    have HPT := Lib.hid (And.intro HPUT.out.1 HPUT.out.2.1)
    clear HPUT
    go_wp2_with fail
    go_ret
    exact ⟨rfl, HPT.out⟩

end Go.Proofs.YtedcfmdgcafnmaaDoor
