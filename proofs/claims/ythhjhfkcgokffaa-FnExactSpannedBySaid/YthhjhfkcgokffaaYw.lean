/-
  An append that leaves the cells of the old row; lists of words appended; a span that grows, of the program.
-/
import Derived.Test.YthhjhfkcgokffaaYv
import Derived.Deep.Cut
namespace Go.Proofs.Ythhjhfkcgokffaa
set_option linter.unusedVariables false
set_option linter.unusedSimpArgs false
open Go.ChangeShapes Go.WideShapes Go.ChangeAt Go.RowKit Go.Shelf

section
variable {P : Program} {w : World}
theorem run_append_keeps (base : Nat) (t ty e : TypeId) (i : TypeInfo) (z : Value) (ht : P.underlying t = some (.slice e)) (hi : P.info? e = some i) (hz : i.zero = some z) (hsize : i.size = 1) (hby : i.bytes = 24)
    (n : Nat) (xs : List Value) (g c0 : Nat) (hown : w.ownsRow base e 1 (.slice (some ⟨g, 0, none⟩) n c0) n xs)
    (a : Addr) (m c : Nat) (news : List Value) (hl : news.length = m) (hnews : ∀ j u, news[j]? = some u → w.cell? (a.add j) = some u) (h1 : ∀ u ∈ news, u.oneCell' = true) (hn : n + m ≤ 16777216)
    (v' : Value) (w' : World) (hrun : (Builtin.append_ #[t, t] ty #[.slice (some ⟨g, 0, none⟩) n c0, .slice (some a) m c]).run P w = .ok v' w') : (∀ j, j < n → w'.cell? ⟨g, j, none⟩ = w.cell? ⟨g, j, none⟩) ∧ (v'.ownBlock = some g ∨ v'.ownBlock = some w.heap.size) := by
  rcases hown.2 with ⟨e1, _⟩ | ⟨g', cap, cur, e1, hbg, hg, hnc, hcm, hcs, htake⟩
  · cases e1
  · cases e1
    by_cases hroom : n + m ≤ c0
    · have hr := run_append_room (P := P) w t ty e i ht hi g n c0 cur hg a m c news (by rw [hl, hsize, Nat.mul_one]) hnews h1 hroom (by rw [hl, hsize, hcs, Nat.mul_one, Nat.mul_one]; omega)
      rw [hr] at hrun
      injection hrun with e3 e2
      refine ⟨fun j hj => ?_, by rw [← e3]; exact .inl rfl⟩
      rw [← e2, cell_of_row w g j cur e (0, 0) hg, cell_of_row _ g j _ e (0, 0) (setRow_heap w g cur _ e _ hg)]
      rw [hsize]
      have hjc : j < cur.size := by omega
      simp [List.getElem?_append, List.getElem?_take, hj, hjc, show j < min n cur.size from by omega]
    · have holds : ∀ j u, xs[j]? = some u → w.cell? ((⟨g, 0, none⟩ : Addr).add j) = some u := hown.cells (g := g) rfl
      have hr := run_append_grow (P := P) w t ty e i z ht hi hz ⟨g, 0, none⟩ n c0 xs (by rw [hown.1, hsize]) holds a m c news (by rw [hl, hsize, Nat.mul_one]) hnews (by omega) (by omega) (by rw [hby]; exact growslice_fits (by omega) (by omega))
      rw [hr] at hrun
      injection hrun with e3 e2
      refine ⟨fun j hj => ?_, by rw [← e3]; exact .inr rfl⟩
      have hlt := (Array.getElem?_eq_some_iff.1 hg).1
      rw [← e2]
      exact cell_sameW (heap_alloc_old w.drew _ hlt)
theorem wpList_append_vk {ops : Array Oper} {rest : List Oper} {o : Oper} {a : Act} {Q : Exit → Act → World → Prop} (hgd : o.guard = none) (s x : Operand) (t : TypeId)
    (ho : o.op = .call { callee := .builtin .append, args := #[s, x], argTypes := #[t, t] })
    (base : Nat) (e : TypeId) (i : TypeInfo) (z : Value) (ht : P.underlying t = some (.slice e)) (hi : P.info? e = some i) (hz : i.zero = some z)
    (hsize : i.size = 1) (hby : i.bytes = 24) (hzs : z.cells.size = 1)
    (n : Nat) (xs : List Value) (g c0 : Nat) (hs : a.eval s = .slice (some ⟨g, 0, none⟩) n c0) (hown : w.ownsRow base e 1 (.slice (some ⟨g, 0, none⟩) n c0) n xs)
    (ad : Addr) (us : List Value) (c : Nat) (hx : a.eval x = .slice (some ad) us.length c) (hN : ∀ j u, us[j]? = some u → w.cell? (ad.add j) = some u) (h1 : ∀ u ∈ us, u.oneCell' = true) (hn : n + us.length ≤ 16777216) (hbase : base ≤ w.heap.size)
    (h : ∀ v' w', w'.ownsRow base e 1 v' (n + us.length) (xs ++ us) → w.grownBy w' (some g) → ((∀ j, j < n → w'.cell? ⟨g, j, none⟩ = w.cell? ⟨g, j, none⟩) ∧ (v'.ownBlock = some g ∨ v'.ownBlock = some w.heap.size)) → wpList P ops Q rest (a.put o.dst v') w') :
    wpList P ops Q (o :: rest) a w := by
  refine wpList_plain hgd fun K hK => ?_
  obtain ⟨v', w', hr, h2, h3, h4⟩ := run_append_own (P := P) w base t o.type e i z 1 24 ht hi hz hsize hby hzs (by decide) (.slice (some ⟨g, 0, none⟩) n c0) n xs hown ad us.length c us (by simp) hN h1 (by unfold maxLen; omega) (by omega) hbase
  have h5 := run_append_keeps (P := P) base t o.type e i z ht hi hz hsize hby n xs g c0 hown ad us.length c us rfl hN h1 hn v' w' hr
  unfold Oper.wp execOp
  simp only [ho, resolve, invoke, builtin, Sem.run_bind, Sem.run_pure, Result.andThen_ok, List.map_toArray, List.map_cons, List.map_nil, hs, hx, hr]
  exact hK _ _ (h v' w' h2 h3 h5)
theorem wpList_append_vl {ops : Array Oper} {rest : List Oper} {o : Oper} {a : Act} {Q : Exit → Act → World → Prop} (hgd : o.guard = none) (s x : Operand) (t : TypeId)
    (ho : o.op = .call { callee := .builtin .append, args := #[s, x], argTypes := #[t, t] })
    (base : Nat) (e : TypeId) (i : TypeInfo) (z : Value) (ht : P.underlying t = some (.slice e)) (hi : P.info? e = some i) (hz : i.zero = some z)
    (hsize : i.size = 1) (hby : i.bytes = 24) (hzs : z.cells.size = 1)
    (v : Value) (n : Nat) (xs : List Value) (hs : a.eval s = v) (hown : w.ownsRow base e 1 v n xs)
    (ad : Addr) (us : List Value) (c : Nat) (h0 : 0 < us.length) (hx : a.eval x = .slice (some ad) us.length c) (hN : ∀ j u, us[j]? = some u → w.cell? (ad.add j) = some u) (h1 : ∀ u ∈ us, u.oneCell' = true) (hn : n + us.length ≤ 16777216) (hbase : base ≤ w.heap.size)
    (h : ∀ v' w', w'.ownsRow base e 1 v' (n + us.length) (xs ++ us) → w.grownBy w' v.ownBlock → (v'.ownBlock = v.ownBlock ∨ v'.ownBlock = some w.heap.size) → wpList P ops Q rest (a.put o.dst v') w') :
    wpList P ops Q (o :: rest) a w := by
  refine wpList_plain hgd fun K hK => ?_
  obtain ⟨v', w', hr, h2, h3, h4⟩ := run_append_own (P := P) w base t o.type e i z 1 24 ht hi hz hsize hby hzs (by decide) v n xs hown ad us.length c us (by simp) hN h1 (by unfold maxLen; omega) (by omega) hbase
  have h5 : v'.ownBlock = v.ownBlock ∨ v'.ownBlock = some w.heap.size := by
    rcases hown.2 with ⟨ev, en⟩ | ⟨g, cap, cur, ev, hbg, hg, q⟩
    · obtain ⟨v2, w2, hr2, k2, _⟩ := run_append_own (P := P) w w.heap.size t o.type e i z 1 24 ht hi hz hsize hby hzs (by decide) v n xs (by rw [ev]; exact ⟨hown.1, .inl ⟨rfl, en⟩⟩) ad us.length c us (by simp) hN h1 (by unfold maxLen; omega) (by omega) (Nat.le_refl _)
      have hr3 := run_append_nil (P := P) w t o.type e i z ht hi hz ad us.length c us (by rw [hsize, Nat.mul_one]) hN h0 (by omega) (by rw [hby]; omega)
      rw [ev, hr3] at hr
      injection hr with e3 _
      rw [← e3]
      exact .inr rfl
    · subst ev
      exact (run_append_keeps (P := P) base t o.type e i z ht hi hz hsize hby n xs g cap hown ad us.length c us rfl hN h1 hn v' w' hr).2
  unfold Oper.wp execOp
  simp only [ho, resolve, invoke, builtin, Sem.run_bind, Sem.run_pure, Result.andThen_ok, List.map_toArray, List.map_cons, List.map_nil, hs, hx, hr]
  exact hK _ _ (h v' w' h2 h3 h5)
end
theorem GW.app {w w2 w4 : World} {B : Nat} {s s' : Value} {gs os : List (List Int)} {us : Nat → Value} (h : GW w B s gs) (hB : B ≤ w.heap.size) (hb2 : Below w.heap.size w w2) (hr : WR w2 w.heap.size w2.heap.size us os os.length)
    (ha : ∀ (vs : List Value), w2.ownsRow B 25 1 s gs.length vs → w4.ownsRow B 25 1 s' (gs.length + os.length) (vs ++ (List.range os.length).map us)) (hg : w2.grownBy w4 s.ownBlock) : GW w4 B s' (gs ++ os) := by
  obtain ⟨us0, vs, h1, h2, h3⟩ := h
  have hs2 := own_below h1 hb2
  have hs4 := ha vs hs2
  have hty : ∀ k, s.ownBlock = some k → ∃ cur, w2.heap[k]? = some (.cells cur 25 (0, 0)) := fun k hk => own_tyw hs2 k hk
  have hl : vs.length = gs.length := by have := h1.1; omega
  have hgl : (gs ++ os).length = gs.length + os.length := List.length_append
  have e1 : ∀ i, i < gs.length → (gs ++ os).getD i [] = gs.getD i [] := fun i hi => by simp [List.getD, List.getElem?_append_left hi]
  have e2 : ∀ i, gs.length ≤ i → (gs ++ os).getD i [] = os.getD (i - gs.length) [] := fun i hi => by simp [List.getD, List.getElem?_append_right hi]
  obtain ⟨uu, hu1, hu2⟩ : ∃ uu : Nat → Value, (∀ i, i < gs.length → uu i = us0 i) ∧ ∀ i, gs.length ≤ i → uu i = us (i - gs.length) := ⟨fun i => if i < gs.length then us0 i else us (i - gs.length), fun i hi => if_pos hi, fun i hi => if_neg (by omega)⟩
  refine ⟨uu, vs ++ (List.range os.length).map us, by rw [hgl]; exact hs4, fun i hi => ?_, ⟨fun i hi => ?_, fun i j hij hj hp hq => ?_⟩⟩
  · rw [hgl] at hi
    by_cases e : i < gs.length
    · rw [List.getElem?_append_left (by omega), hu1 i e]
      exact h2 i e
    · rw [List.getElem?_append_right (by omega), hu2 i (by omega), hl]
      simp [show i - gs.length < os.length from by omega]
  · rw [hgl] at hi
    by_cases e : i < gs.length
    · rw [e1 i e, hu1 i e]
      exact ⟨((h3.1 i e).1.below hb2).grown_ws hg hty, fun hp k hk => Nat.lt_of_lt_of_le (Nat.lt_of_lt_of_le ((h3.1 i e).2 hp k hk) hb2.size) hg.size⟩
    · rw [e2 i (by omega), hu2 i (by omega)]
      have := hr.1 (i - gs.length) (by omega)
      exact ⟨(this.1.lower hB).grown_ws hg hty, fun hp k hk => Nat.lt_of_lt_of_le (this.2 hp k hk) hg.size⟩
  · rw [hgl] at hj
    by_cases e : j < gs.length
    · rw [e1 i (by omega)] at hp
      rw [e1 j e] at hq
      rw [hu1 i (by omega), hu1 j e]
      exact h3.2 i j hij e hp hq
    · rw [e2 j (by omega)] at hq
      rw [hu2 j (by omega)]
      by_cases e' : i < gs.length
      · rw [e1 i e'] at hp
        rw [hu1 i e']
        intro e3
        have q2 := (hr.1 (j - gs.length) (by omega)).1
        obtain ⟨Aq, nq, cq, eq⟩ := q2.frm
        obtain ⟨A5, c5, e5, h6, h7, hz, h8, h9⟩ := id q2
        obtain ⟨g5, k5, eg, ho5⟩ := h9 hq
        have hk5 : (us (j - gs.length)).ownBlock = some g5 := by rw [e5, eg]; rfl
        have q3 := q2.spot hq g5 hk5
        have q4 := (h3.1 i e').2 hp g5 (e3.trans hk5)
        omega
      · rw [e2 i (by omega)] at hp
        rw [hu2 i (by omega)]
        exact hr.2 _ _ (by omega) (by omega) hp hq
/-- the span and its sums with the first k products but the zero's, as the program makes them -/
def grR (sp : List (List Int)) (x : List Int) : Nat → List (List Int)
  | 0 => sp
  | k + 1 => grR sp x k ++ sp.map fun y => wplus (wscale ((k + 1 : Nat) : Int) x) y
theorem xorI_zero {x : Int} (h : 0 ≤ x) : xorI x 0 = x := by unfold xorI; simp; omega
theorem wplus_zero {x y : List Int} (hl : y.length = x.length) (hy : ∀ z ∈ y, 0 ≤ z) : wplus y (wscale 0 x) = y := by
  unfold wplus
  refine (tab_ext (g := fun i => y.getD i 0) fun i hi => ?_).trans ?_
  · unfold plusK2 wscale
    rw [tab_at _ _ _ (by omega)]
    unfold scaleK
    rw [mulI_comm, mulI_zero]
    have e : y.getD i 0 = y[i] := by simp [List.getD, hi]
    rw [e]
    exact xorI_zero (hy _ (List.getElem_mem hi))
  · apply List.ext_getElem
    · rw [tab_len]
    · intro i h1 h2
      simp [tab, List.getD, h2]
theorem grR_eq {sp : List (List Int)} {x : List Int} (hl : ∀ y ∈ sp, y.length = x.length) (hz : ∀ y ∈ sp, ∀ z ∈ y, 0 ≤ z) : ∀ k, grR sp x k = grP sp x (k + 1)
  | 0 => by
    show sp = [] ++ sp.map _
    rw [List.nil_append]
    refine ((List.map_congr_left fun y hy => ?_).trans (List.map_id' sp)).symm
    exact wplus_zero (hl y hy) (hz y hy)
  | k + 1 => by
    rw [grR, grR_eq hl hz k, grP]
    congr 1
    refine List.map_congr_left fun y hy => wplus_comm ?_
    unfold wscale; rw [tab_len]; exact (hl y hy).symm
theorem grR_len (sp : List (List Int)) (x : List Int) : ∀ k, (grR sp x k).length = sp.length * (k + 1)
  | 0 => by rw [grR, Nat.mul_one]
  | k + 1 => by rw [grR, List.length_append, List.length_map, grR_len sp x k, Nat.mul_succ sp.length (k + 1)]
set_option maxHeartbeats 8000000 in
set_option maxRecDepth 100000 in
theorem grown_any (N : Nat) (hN : N ≤ 256) (hN0 : 1 < N) (sp : List (List Int)) (x : List Int) (hsp : sp.length ≤ 300) (hsp0 : 0 < sp.length) (h300 : ¬ 300 < sp.length * N) (hx : x.length ≤ 1048576) (hl : ∀ i, i < sp.length → (sp.getD i []).length = x.length) (B : Nat) (v u : Value) (w : World) (hB : B ≤ w.heap.size) (h : GW w B v sp) (h' : NS w u x) :
    Calls Try.prog 138 #[.int .i64 (N : Int), v, u] w fun e w' => ∃ r, e = .returned r ∧ GW w' B r (grR sp x (N - 1)) ∧ Below B w w' ∧ ∀ g, v.ownBlock = some g → GBx w w' g ∧ ∀ q, r.ownBlock = some q → q = g ∨ w.heap.size ≤ q := by
  have hmf : ∀ (fn : Fn) (first cap : Array Value) (w : World), (Instr.makeFunc fn first cap).run Try.prog w = .ok (.func fn first cap) w := fun _ _ _ _ => rfl
  obtain ⟨i0, hi, hz0, hz1, hz2⟩ := info_parts infoWord
  obtain ⟨us, vs, ho, hv, hr⟩ := id h
  obtain ⟨A, c, rfl, hcm, hA⟩ := own_form ho
  obtain ⟨g, rfl, hgB, hgl⟩ := hA hsp0
  have hnc : sp.length ≤ c ∧ c ≤ maxLen := by
    rcases ho.2 with ⟨e, _⟩ | ⟨g', cap, cur, e, _, hg, q1, q2, q3, q4⟩
    · cases e
    · cases e; exact ⟨q1, q2⟩
  obtain ⟨Ax, cx, eu⟩ := h'.form
  subst eu
  have HG := Lib.hid h
  have HX := Lib.hid h'
  have HL := Lib.hid hl
  have HV := Lib.hid hv
  have HO := Lib.hid ho
  have HR := Lib.hid hr
  obtain ⟨hnc1, hnc2⟩ := hnc
  have i1 : (0 : Int) ≤ (sp.length : Int) := by omega
  have i2 : (sp.length : Int) ≤ (c : Int) := by omega
  have hNB := fun W => nimbers_any N (by omega) W
  have i3 : (1 : Int) ≤ (N : Int) := by omega
  have hN1 : ¬ N = 1 := by omega
  have HNB := Lib.hid hNB
  clear h h' hl hv ho hr hcm hA hNB
  go_enter Try.func138, Try.ntmps138
  go_upto_region 2 with fail
  go_wp2_with fail
  refine (HNB.out _).mono ?_
  rintro e w1 ⟨gb, rfl, hgb, hrw, hb1⟩
  have HB1 := Lib.hid hb1
  have HGBX := Lib.hid hgb
  have HRW := Lib.hid hrw
  clear hb1 hgb hrw
  have hcells : 0 < N - 1 → ∃ b off, (some ⟨gb, 1, none⟩ : Option Addr) = some ⟨b, off, none⟩ ∧ b < w1.heap.size ∧ ∀ i, i < N - 1 → w1.cell? ⟨b, off + i, none⟩ = some (.int .u16 ((i + 1 : Nat) : Int)) := fun _ => ⟨gb, 1, rfl, HRW.out.lt, fun i hi => by
    have h1 := HRW.out.tabcell2 (1 + i) (by omega)
    rw [tab_at _ _ _ (by omega), Nat.add_comm 1 i] at h1
    rw [Nat.add_comm 1 i]; exact h1⟩
  have he := eachNW_any (some ⟨gb, 1, none⟩) (N - 1) (N - 1) (by omega) 86 (.slice Ax x.length cx) (enters_of Try.func86 (by kernel_rfl) rfl) (fun (j : Nat) => .int .u16 ((j + 1 : Nat) : Int)) (fun (j : Nat) => wscale ((j + 1 : Nat) : Int) x) w1 hcells (fun j W hj hW => scaled_any (.slice Ax x.length cx) x ((j + 1 : Nat) : Int) hx (by omega) (by omega) W (HX.out.below (bchain HB1.out hW)))
  obtain ⟨prs, hprs⟩ : ∃ prs, prs = (List.range (N - 1)).map fun (j : Nat) => wscale ((j + 1 : Nat) : Int) x := ⟨_, rfl⟩
  rw [← hprs] at he
  have hpl : prs.length = N - 1 := by rw [hprs]; simp
  have HPA : Hid (∀ k, k < N - 1 → prs.getD k [] = wscale ((k + 1 : Nat) : Int) x) := Lib.hid (fun k hk => by rw [hprs]; simp [List.getD, hk])
  have HE := Lib.hid he
  clear he hcells hprs
  go_wp2_with fail
  refine HE.out.mono ?_
  rintro e w2 ⟨r2, rfl, hwo2, hb2⟩
  obtain ⟨Ap, cp, up, rfl, _, _, _, hcp, hrp⟩ := hwo2
  have hsz2 := hb2.size
  have hsz1 := HB1.out.size
  have HB2 : Hid (Below w.heap.size w w2) := Lib.hid (bchain HB1.out hb2)
  obtain ⟨bp, curp, rfl, hbp1, hbp2, hbp3, hbp4⟩ := hcp (by omega)
  rw [hpl] at hbp4
  have HCP := Lib.hid hbp4
  have HBP := Lib.hid hbp3
  have HRP := Lib.hid hrp
  have ho2 := own_below HO.out HB2.out
  have HTY := Lib.hid (own_tyw ho2 g rfl)
  have HCG : Hid (∀ i, i < sp.length → w2.cell? ⟨g, i, none⟩ = some (us i)) := Lib.hid (fun i hi => by rw [ho2.cellAt i (by omega)]; exact HV.out i hi)
  have HR2 := Lib.hid ((HR.out.below (HB2.out)))
  have HG2 : Hid (GW w2 B (.slice (some ⟨g, 0, none⟩) sp.length c) (grR sp x 0)) := Lib.hid (HG.out.below HB2.out)
  have HBB2 := Lib.hid (HB2.out.mono hB)
  have HGB2 := Lib.hid (GBx.refl w2 g)
  have HOB : Hid (∀ q, (Value.slice (some ⟨g, 0, none⟩) sp.length c).ownBlock = some q → q = g ∨ w2.heap.size ≤ q) := Lib.hid (fun q hq => .inl (by
    have h1 : g = q := (by simpa [Value.ownBlock] using hq)
    exact h1.symm))
  have HFN : Hid (∀ W, GBx w2 W g → GBx w W g) := Lib.hid (fun W h => GBx.trans ⟨HB2.out.size, fun k hk _ => HB2.out.block k hk⟩ h)
  have hg2 : g < w1.heap.size := by omega
  have hM : sp.length * N ≤ 300 := by omega
  rw [hpl]
  clear hb2 hrp hcp hbp4 hbp3 ho2 HE
  go_wp2_with fail
  go_loopw [23, 1] (fun y s wr => ∃ k : Nat, y = .int .i64 (k : Int) ∧ k ≤ N - 1 ∧ Hid (GW wr B s (grR sp x k)) ∧ Hid (Below B w wr) ∧ Hid (∀ q, s.ownBlock = some q → q = g ∨ w2.heap.size ≤ q) ∧ Hid (GBx w2 wr g) ∧ Hid (∀ i, i < sp.length → wr.cell? ⟨g, i, none⟩ = some (us i))) (fun y _ _ => N - 1 - (intOf y).toNat)
  case atStart => exact ⟨0, rfl, Nat.zero_le _, HG2, HBB2, HOB, HGB2, HCG⟩
  case round =>
    clear HG2 HBB2 HOB
    obtain ⟨k, rfl, hk, HGK, HBK, HOK, HGBK, HCK⟩ := hrel
    obtain ⟨As, cs, rfl⟩ := HGK.out.form
    by_cases hlt : k < N - 1
    · have i4 : (k : Int) < ((N - 1 : Nat) : Int) := by omega
      have q1 : wr.cell? ⟨bp, k, none⟩ = some (up k) := by
        have h1 : wr.heap[bp]? = some (.cells curp 25 (0, 0)) := (HGBK.out.2 bp hbp2 (by omega)).trans HBP.out
        exact (cell_of_row _ _ _ _ _ _ h1).trans (HCP.out k hlt)
      have hpo := ((HRP.out.1 k (by omega)).1.gbx HGBK.out HTY.out).ns
      rw [HPA.out k hlt] at hpo
      have hlen1 : (wscale ((k + 1 : Nat) : Int) x).length = x.length := by unfold wscale; rw [tab_len]
      have hLk : (grR sp x k).length = sp.length * (k + 1) := grR_len sp x k
      have hLb : sp.length * (k + 1) + sp.length ≤ 300 := by
        have h1 : sp.length * (k + 2) ≤ sp.length * N := Nat.mul_le_mul (Nat.le_refl _) (by omega)
        rw [Nat.mul_succ] at h1
        omega
      have hLs : sp.length ≤ sp.length * (k + 1) := Nat.le_mul_of_pos_right _ (by omega)
      have hsn : grR sp x (k + 1) = grR sp x k ++ sp.map fun y => wplus (wscale ((k + 1 : Nat) : Int) x) y := rfl
      obtain ⟨ux, hux⟩ : ∃ u, u = up k := ⟨_, rfl⟩
      rw [← hux] at q1 hpo
      obtain ⟨px, hpx⟩ : ∃ px, px = wscale ((k + 1 : Nat) : Int) x := ⟨_, rfl⟩
      rw [← hpx] at hpo hlen1 hsn
      obtain ⟨Au, cu, eux⟩ := hpo.form
      rw [hlen1] at eux
      clear hux
      subst eux
      have hew := eachWW_any (some ⟨g, 0, none⟩) sp.length sp.length (by omega) 84 (.slice Au x.length cu) (enters_of Try.func84 (by kernel_rfl) rfl) us (fun j => wplus px (sp.getD j [])) wr (fun _ => ⟨g, 0, rfl, by have := HGBK.out.1; omega, fun i hi => by rw [Nat.zero_add]; exact HCK.out i hi⟩) (fun j W hj hW => wplus_any (.slice Au x.length cu) (us j) px (sp.getD j []) (by omega) (by rw [hlen1, HL.out j hj]) W (hpo.below hW) (((HR2.out.1 j hj).1.gbx HGBK.out HTY.out).ns.below hW))
      have hos : ((List.range sp.length).map fun j => wplus px (sp.getD j [])) = sp.map fun y => wplus px y := by
        apply List.ext_getElem
        · simp
        · intro i h1 h2
          simp at h1 h2
          simp [List.getD, h1]
      rw [hos] at hew
      obtain ⟨os, hose⟩ : ∃ os, os = sp.map fun y => wplus px y := ⟨_, rfl⟩
      rw [← hose] at hew hsn
      have hosl : os.length = sp.length := by rw [hose]; simp
      have HEW := Lib.hid hew
      have HSN := Lib.hid hsn
      obtain ⟨gk, hgk⟩ : ∃ gk, gk = grR sp x k := ⟨_, rfl⟩
      rw [← hgk] at HGK HSN hLk
      have hgk0 : grR sp x k = gk := hgk.symm
      rw [hgk0]
      have HLK := Lib.hid hLk
      have hgkb : gk.length ≤ 300 := by omega
      have hgkp : sp.length ≤ gk.length := by omega
      have hgk1 : gk.length + sp.length ≤ 300 := by omega
      clear hew hos hose hsn hpo hpx hgk hgk0 hLk hLb hLs
      go_wp2_with fail
      refine HEW.out.mono ?_
      rintro e w3 ⟨r3, rfl, hwo3, hb3⟩
      obtain ⟨A3, c3, u3, rfl, _, _, _, hc3, hr3⟩ := hwo3
      obtain ⟨b3, cur3, rfl, hb31, hb32, hb33, hb34⟩ := hc3 (by omega)
      obtain ⟨us9, vs9, ho9, hv9, hr9⟩ := id HGK.out
      obtain ⟨As2, cs2, e9, _, h9⟩ := own_form ho9
      obtain ⟨gs, egs, hgsB, hgsl⟩ := h9 (by omega)
      injection e9 with ea _ ec
      rw [← ea] at egs
      subst egs
      have ho10 := own_below ho9 hb3
      have HO10 := Lib.hid ho10
      have hgs : gs = g ∨ w2.heap.size ≤ gs := HOK.out gs rfl
      have HC33 := Lib.hid (fun (j : Nat) (u : Value) (hu : ((List.range os.length).map u3)[j]? = some u) => show w3.cell? ((⟨b3, 0, none⟩ : Addr).add j) = some u from by
        have hj : j < os.length := by
          have := (List.getElem?_eq_some_iff.1 hu).1
          simpa using this
        rw [List.getElem?_map, List.getElem?_range hj] at hu
        rw [Addr.add_lit, Nat.zero_add, ← hu]
        exact (cell_of_row _ _ _ _ _ _ hb33).trans (hb34 j hj))
      have HC34 := Lib.hid (fun (u : Value) (hu : u ∈ (List.range os.length).map u3) => show u.oneCell' = true from by
        obtain ⟨j, hj, rfl⟩ := List.mem_map.1 hu
        obtain ⟨A5, n5, c5, e5⟩ := (hr3.1 j (List.mem_range.1 hj)).1.frm
        rw [e5]; rfl)
      have HR3 := Lib.hid hr3
      have HB3 := Lib.hid hb3
      have hsw := HGBK.out.1
      have hs3 := hb3.size
      clear hr3 hb3 hb33 hb34 hc3 ho9 hv9 hr9 h9 ho10 ea ec HEW
      go_wp2_with (at_builtin; go_loud (refine wpList_append_vk rfl _ _ 44 rfl B 25 i0 (.slice none 0 0) Try.underlying44 hi hz0 hz1 hz2 rfl gk.length vs9 gs cs rfl HO10.out ⟨b3, 0, none⟩ ((List.range os.length).map u3) c3 ?hx HC33.out HC34.out ?hn ?hbase ?_))
      case hx => rw [List.length_map, List.length_range, hosl]; rfl
      case hn => rw [List.length_map, List.length_range]; omega
      case hbase => omega
      intro s' w4 hown hgrow hkeep hob
      rw [← hosl] at hown
      have hgw : GW w4 B s' (gk ++ os) := HGK.out.app (us := u3) (by omega) HB3.out HR3.out (fun vs h => by
        have ev : vs = vs9 := own_list h HO10.out
        rw [ev]; exact hown) hgrow
      have HGW : Hid (GW w4 B s' (grR sp x (k + 1))) := Lib.hid (by rw [HSN.out]; exact hgw)
      have HB4 : Hid (Below B w w4) := Lib.hid ((HBK.out.trans (HB3.out.mono (by omega))).grown hgrow (by omega) (fun q hq => by
        have h1 : gs = q := (by simpa using hq)
        omega))
      have HO4 : Hid (∀ q, s'.ownBlock = some q → q = g ∨ w2.heap.size ≤ q) := Lib.hid (fun q hq => by
        rcases hob with e | e
        · rw [e] at hq
          have h1 : gs = q := Option.some.inj hq
          omega
        · rw [e] at hq
          have h1 : w3.heap.size = q := Option.some.inj hq
          omega)
      have HGB4 : Hid (GBx w2 w4 g) := Lib.hid ⟨by have := hgrow.size; omega, fun q hq hne => by
        rw [hgrow.block q (by omega) (fun e => by have h1 : q = gs := Option.some.inj e; omega), HB3.out.block q (by omega)]
        exact HGBK.out.2 q hq hne⟩
      have HC4 : Hid (∀ i, i < sp.length → w4.cell? ⟨g, i, none⟩ = some (us i)) := Lib.hid (fun i hi => by
        have h0 : w3.cell? ⟨g, i, none⟩ = some (us i) := (HB3.out.cell (p := ⟨g, i, none⟩) (by show g < wr.heap.size; omega)).trans (HCK.out i hi)
        by_cases e : gs = g
        · subst e
          rw [hkeep i (by omega)]; exact h0
        · rw [← h0]
          exact cell_sameW (hgrow.block g (by omega) (fun e2 => e (Option.some.inj e2).symm)))
      clear hown hgrow hgw hkeep hob
      go_wp2_with fail
      exact ⟨⟨k + 1, by go_num, by omega, HGW, HB4, HO4, HGB4, HC4⟩, by simp [intOf]; omega⟩
    · obtain rfl : k = N - 1 := by omega
      have T6 : decide (((N - 1 : Nat) : Int) < ((N - 1 : Nat) : Int)) = false := by simp
      go_wp2_with fail
      go_ret
      exact ⟨_, rfl, HGK.out, HBK.out, fun g' hg' => by
        have e1 : g = g' := Option.some.inj hg'
        subst e1
        exact ⟨HFN.out _ HGBK.out, fun q hq => by
          have := HOK.out q hq
          have := HB2.out.size
          omega⟩⟩
end Go.Proofs.Ythhjhfkcgokffaa
