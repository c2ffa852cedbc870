/-
  The common divisor, of the program.
-/
import Derived.Test.YtnpadkkjaeblfaaPvW
namespace Go.Proofs.Ytnpadkkjaeblfaa
set_option linter.unusedVariables false
set_option linter.unusedSimpArgs false
open Go.ChangeShapes Go.WideShapes Go.ChangeAt Go.RowKit

theorem takeA {P : Program} {ops : Array Oper} {Q : Exit → Act → World → Prop} {a : Act} {w : World} {md : Region.Mode} {i : Nat} {oi : Oper} {d : Tmp} {v : Value} {fuel : Nat} {listed : Array Bool} (hi : ops[i]? = some oi) (hd : oi.dst = some d)
    (hs : Region.noSelect ops = true) (hf : Region.free md ops listed i = true) (hr : (Region.ready md ops listed).contains i = true)
    (hQ : ∀ c a w, Q (.panic c) (a.put (some d) v) w → Q (.panic c) a w) (hw : Region.wanted oi (yielded ops a.tmps) = true) (hy : ∀ w, (execOp a.eval oi).run P w = .ok (.value v) w)
    (h : wpAny P md ops Q fuel (listed.setIfInBounds i true) (a.put (some d) v) w) : wpAny P md ops Q (fuel + 1) listed a w :=
  wpAny_take hi hs hf hr (by rw [hd]; exact hQ) (.inl ⟨hw, hy⟩) (by rw [hd]; exact h)
theorem exec_load_row {P : Program} {o : Oper} {a : Act} {w : World} (ty : TypeId) (x : Operand) (ho : o.op = .load ty x)
    (g : Nat) (hx : a.eval x = .pointer (some ⟨g, 0, none⟩)) (t : TypeId) (cs : Array Value) (fr : Nat × Nat) (d : TypeDesc) (hg : w.heap[g]? = some (.cells cs t fr))
    (hu : P.underlying ty = some d) (hd : (match d with | .struct _ | .array _ _ => true | _ => false) = true) (hi : (P.info? ty).map (·.size) = some cs.size) :
    (execOp a.eval o).run P w = .ok (.value (.agg cs)) w := by
  unfold execOp
  simp only [ho, hx, Instr.loadAt, Instr.sureAddr, Sem.run_bind, Sem.run_pure, Result.andThen_ok, run_loadVar_row w g t ty cs fr d hg hu hd hi]
theorem NS.row {w : World} {v : Value} {zs : List Int} {g : Nat} {a0 a1 a2 : Option Addr} {n0 n1 n2 c0 c1 c2 : Nat} {t : TypeId} (h : NS w v zs) (hg : w.heap[g]? = some (.cells #[.slice a0 n0 c0, .slice a1 n1 c1, .slice a2 n2 c2] t (0, 0))) (cs : Array Value) : NS (w.setRow g cs) v zs := by
  obtain ⟨A, c, rfl, hz, hc⟩ := h
  refine ⟨A, c, rfl, hz, fun hn => ?_⟩
  obtain ⟨b, off, rfl, hlt, hcell⟩ := hc hn
  refine ⟨b, off, rfl, by rw [size_setRow]; exact hlt, fun i hi => ?_⟩
  by_cases e : b = g
  · subst e
    exfalso
    have h0 := hcell 0 hn
    rw [cell_of_heap hg] at h0
    rcases off with _ | _ | _ | off
    · simp at h0
    · simp at h0
    · simp at h0
    · simp at h0
  · exact (cell_setRow_other _ _ _ ⟨b, off + i, none⟩ e).trans (hcell i hi)
theorem NC.row {w : World} {v : Value} {zs : List Int} {g : Nat} {a0 a1 a2 : Option Addr} {n0 n1 n2 c0 c1 c2 : Nat} {t : TypeId} (h : NC w v zs) (hg : w.heap[g]? = some (.cells #[.slice a0 n0 c0, .slice a1 n1 c1, .slice a2 n2 c2] t (0, 0))) (cs : Array Value) : NC (w.setRow g cs) v zs := by
  obtain ⟨A, c, rfl, h1, h2⟩ := h
  exact ⟨A, c, rfl, h1, h2.row hg cs⟩
/-- a combination whose sum is zs -/
def CMon (w : World) (zs : List Int) (e : Ending) (w' : World) : Prop := ∃ (r0 : Value) (a1 : Option Addr) (n1 c1 : Nat) (a2 : Option Addr) (n2 c2 : Nat), e = .returned (.agg #[r0, .slice a1 n1 c1, .slice a2 n2 c2]) ∧ PO w' w.heap.size r0 zs ∧ Below w.heap.size w w'
/-- what the loop of commonOf keeps -/
def CI (w : World) (hh k : Nat) (X Y : List Int) (wr : World) : Prop :=
  ∃ (X1 X2 Y1 Y2 : List Int) (r0 r1 r2 s0 s1 s2 : Value), wr.heap[hh + 3]? = some (.cells #[r0, r1, r2] 85 (0, 0)) ∧ wr.heap[hh + 4]? = some (.cells #[s0, s1, s2] 85 (0, 0)) ∧
    NC wr r0 X ∧ NS wr r1 X1 ∧ NS wr r2 X2 ∧ NC wr s0 Y ∧ NS wr s1 Y1 ∧ NS wr s2 Y2 ∧ wr.heap[hh]? = some (.cells #[.slice none 0 0, .slice none 0 0, .slice none 0 0] 85 (0, 0)) ∧ Below hh w wr ∧ hh + 5 ≤ wr.heap.size ∧
    X1.length ≤ 21 + 21 * k ∧ X2.length ≤ 21 + 21 * k ∧ Y1.length ≤ 21 + 21 * k ∧ Y2.length ≤ 21 + 21 * k
def MS (hh : Nat) (wr : World) : Nat := match wr.heap[hh + 4]? with
  | some (.cells cs _ _) => (match cs.getD 0 undef with | .slice _ n _ => n | _ => 0)
  | _ => 0
theorem MS_eq {hh : Nat} {wr : World} {A : Option Addr} {n c : Nat} {s1 s2 : Value} {t : TypeId} {fr : Nat × Nat} (h : wr.heap[hh + 4]? = some (.cells #[.slice A n c, s1, s2] t fr)) : MS hh wr = n := by
  unfold MS
  rw [h]
  rfl
set_option maxHeartbeats 4000000 in
set_option maxRecDepth 100000 in
theorem commonOf_any (v u : Value) (xs ys : List Int) (hn : xs.length ≤ 21) (hn2 : ys.length ≤ 21) (hta : topP xs) (htb : topP ys) (w : World) (h : NC w v xs) (h' : NC w u ys) :
    Calls Try.prog 104 #[v, u] w fun e w' => CMon w (pMonic (pGcd xs ys)) e w' := by
  obtain ⟨A, c, rfl, hca⟩ := h.form
  obtain ⟨A', c', rfl, hca'⟩ := h'.form
  obtain ⟨G, hG⟩ : ∃ G, gcdF (ys.length + 1) xs ys = G := ⟨_, rfl⟩
  have hp : pGcd xs ys = G := hG
  rw [hp]
  have HG := Lib.hid hG
  have HN := Lib.hid h
  have HN' := Lib.hid h'
  have HTA := Lib.hid hta
  have HTB := Lib.hid htb
  clear h h' hta htb hG hp
  go_enter Try.func104, Try.ntmps104
  obtain ⟨hh, hhe⟩ : ∃ hh, hh = w.heap.size := ⟨_, rfl⟩
  obtain ⟨w0, hw0⟩ : ∃ w0, w0 = (((((w.alloc (.cells #[.slice none 0 0, .slice none 0 0, .slice none 0 0] 85)).alloc (.cells #[.int .u16 1] 41)).alloc (.cells #[.int .u16 1] 41)).alloc (.cells #[.slice A xs.length c, .slice (some ⟨w.heap.size + 1, 0, none⟩) 1 1, .slice none 0 0] 85)).alloc (.cells #[.slice A' ys.length c', .slice none 0 0, .slice (some ⟨w.heap.size + 1 + 1, 0, none⟩) 1 1] 85)) := ⟨_, rfl⟩
  have hB0 : Below hh w w0 := by rw [hw0, hhe]; exact (((((Below.refl _ w).alloc (Nat.le_refl _) _).alloc (by simp) _).alloc (by simp <;> omega) _).alloc (by simp <;> omega) _).alloc (by simp <;> omega) _
  have hci : CI w hh 0 xs ys w0 := by
    have z0 : w0.heap.size = hh + 5 := by rw [hw0, hhe]; simp
    have m0 : w0.heap[hh]? = some (.cells #[.slice none 0 0, .slice none 0 0, .slice none 0 0] 85 (0, 0)) := by
      rw [hw0, hhe]
      exact (heap_alloc_old _ _ _ (by simp <;> omega)).trans ((heap_alloc_old _ _ _ (by simp <;> omega)).trans ((heap_alloc_old _ _ _ (by simp <;> omega)).trans ((heap_alloc_old _ _ _ (by simp)).trans (heap_alloc_new w _))))
    have m1 : RW w0 (hh + 1) [1] := by
      rw [hw0, hhe]
      exact (heap_alloc_old _ _ _ (by simp <;> omega)).trans ((heap_alloc_old _ _ _ (by simp <;> omega)).trans ((heap_alloc_old _ _ _ (by simp)).trans (heap_alloc2_new w _ _)))
    have m2 : RW w0 (hh + 2) [1] := by
      rw [hw0, hhe]
      have e := heap_alloc2_new (w.alloc (.cells #[.slice none 0 0, .slice none 0 0, .slice none 0 0] 85)) (.cells #[.int .u16 1] 41) (.cells #[.int .u16 1] 41)
      rw [World.size_alloc] at e
      exact (heap_alloc_old _ _ _ (by simp <;> omega)).trans ((heap_alloc_old _ _ _ (by simp)).trans e)
    have m3 : w0.heap[hh + 3]? = some (.cells #[.slice A xs.length c, .slice (some ⟨hh + 1, 0, none⟩) 1 1, .slice none 0 0] 85 (0, 0)) := by
      rw [hw0, hhe]
      have e := heap_alloc_new (((w.alloc (.cells #[.slice none 0 0, .slice none 0 0, .slice none 0 0] 85)).alloc (.cells #[.int .u16 1] 41)).alloc (.cells #[.int .u16 1] 41)) (.cells #[.slice A xs.length c, .slice (some ⟨w.heap.size + 1, 0, none⟩) 1 1, .slice none 0 0] 85)
      rw [World.size_alloc, World.size_alloc, World.size_alloc] at e
      exact (heap_alloc_old _ _ _ (by simp)).trans e
    have m4 : w0.heap[hh + 4]? = some (.cells #[.slice A' ys.length c', .slice none 0 0, .slice (some ⟨hh + 1 + 1, 0, none⟩) 1 1] 85 (0, 0)) := by
      rw [hw0, hhe]
      have e := heap_alloc_new ((((w.alloc (.cells #[.slice none 0 0, .slice none 0 0, .slice none 0 0] 85)).alloc (.cells #[.int .u16 1] 41)).alloc (.cells #[.int .u16 1] 41)).alloc (.cells #[.slice A xs.length c, .slice (some ⟨w.heap.size + 1, 0, none⟩) 1 1, .slice none 0 0] 85)) (.cells #[.slice A' ys.length c', .slice none 0 0, .slice (some ⟨w.heap.size + 1 + 1, 0, none⟩) 1 1] 85)
      rw [World.size_alloc, World.size_alloc, World.size_alloc, World.size_alloc] at e
      exact e
    have i1 : inU [1] := fun y hy => by rcases List.mem_singleton.1 hy with rfl; omega
    have hB0w : Below w.heap.size w w0 := by rw [← hhe]; exact hB0
    exact ⟨[1], [], [], [1], _, _, _, _, _, _, m3, m4, HN.out.below hB0w, m1.ns i1 1, NS.nil _ _ _, HN'.out.below hB0w, NS.nil _ _ _, m2.ns i1 1, m0, hB0, by omega, by simp, by simp, by simp, by simp⟩
  have HCI0 := Lib.hid hci
  have HHE := Lib.hid hhe
  have HW0 := Lib.hid hw0
  clear hhe hw0 hci hB0
  go_wp2_with fail
  rw [← HW0.out, ← HHE.out]
  go_loopw [] (fun wr => ∃ (k : Nat) (X Y : List Int), topP X ∧ topP Y ∧ X.length ≤ 21 ∧ Y.length ≤ 21 ∧ Y.length + k ≤ ys.length ∧ gcdF (ys.length + 1 - k) X Y = G ∧ Hid (CI w hh k X Y wr)) (fun wr => MS hh wr)
  case atStart => exact ⟨0, xs, ys, HTA.out, HTB.out, hn, hn2, by omega, HG.out, HCI0⟩
  case round =>
    clear HCI0 HN HN' HTA HTB HG HW0
    obtain ⟨k, X, Y, htx, hty, hlx, hly, hlk, hg, HCI⟩ := hrel
    obtain ⟨X1, X2, Y1, Y2, r0, r1, r2, s0, s1, s2, m3, m4, n0, n1, n2, o0, o1, o2, m0, hB, hsz, l1, l2, l3, l4⟩ := HCI.out
    have N1 := Lib.hid n1
    have N2 := Lib.hid n2
    have O1 := Lib.hid o1
    have O2 := Lib.hid o2
    obtain ⟨A0, c0, rfl, _⟩ := n0.form
    obtain ⟨A1, c1, rfl, _, _⟩ := n1
    obtain ⟨A2, c2, rfl, _, _⟩ := n2
    obtain ⟨B0, d0, rfl, _⟩ := o0.form
    obtain ⟨B1, d1, rfl, _, _⟩ := o1
    obtain ⟨B2, d2, rfl, _, _⟩ := o2
    have q6 : wr.cell? ⟨hh + 1 + 1 + 1 + 1, 0, none⟩ = some (.slice B0 Y.length d0) := cell_of_heap m4 0
    have q5 : wr.cell? ⟨hh + 1 + 1 + 1, 0, none⟩ = some (.slice A0 X.length c0) := cell_of_heap m3 0
    have HM4 := Lib.hid m4
    by_cases h0 : Y.length = 0
    · have hx := gcdF_stop hg (by omega) h0
      subst hx
      have T : decide (Y.length = 0) = true := by simpa using h0
      have HU := n0.inU
      have hlu := leadP_u HU
      have hbd : Below wr.heap.size wr wr.drew := drew_b (Below.refl _ wr)
      have hld := fun (u : World) (hu : NS u (.slice A0 X.length c0) X) => lead_any (.slice A0 X.length c0) X (by omega) u hu
      obtain ⟨y, hy⟩ : ∃ y, y = leadP X := ⟨_, rfl⟩
      have hmy : pMonic X = pScale X y := by rw [hy]; rfl
      rw [← hy] at hld hlu
      have HSC := Lib.hid (cscaled_any (.slice A0 X.length c0) (.slice A1 X1.length c1) (.slice A2 X2.length c2) y X X1 X2 (by omega) (by omega) (by omega) hlu.1 hlu.2 wr.drew (n0.ns.below hbd) (N1.out.below hbd) (N2.out.below hbd))
      have HLD := Lib.hid (hld wr.drew (n0.ns.below hbd))
      obtain ⟨wd, hwd⟩ : ∃ wd, wd = wr.drew := ⟨_, rfl⟩
      have b1 : Below hh w wd := by rw [hwd]; exact drew_b hB
      have b2 : wd.heap[hh + 3]? = some (.cells #[.slice A0 X.length c0, .slice A1 X1.length c1, .slice A2 X2.length c2] 85 (0, 0)) := by rw [hwd]; exact m3
      have b3 : wd.heap[hh]? = some (.cells #[.slice none 0 0, .slice none 0 0, .slice none 0 0] 85 (0, 0)) := by rw [hwd]; exact m0
      have b4 : hh + 5 ≤ wd.heap.size := by rw [hwd]; exact hsz
      rw [← hwd] at HSC HLD
      have HWD := Lib.hid hwd
      have HB1 := Lib.hid b1
      have HMY := Lib.hid hmy
      have HB2 := Lib.hid b2
      have HB3 := Lib.hid b3
      clear hwd b1 b2 b3 hy hmy hld hbd hg h0 m3 m4 m0 n0 o0 HU HCI
      go_wp2_with fail
      refine (isZero_any B0 Y.length d0 (by omega) _).mono ?_
      rintro e w' ⟨rfl, hw⟩
      obtain rfl := hw.symm
      rw [T]
      go_wp2_with fail
      refine wp_region_held_drew (S := fun u => u.heap[hh + 3]? = some (.cells #[.slice A0 X.length c0, .slice A1 X1.length c1, .slice A2 X2.length c2] 85 (0, 0)) ∧ True) (by kernel_rfl) ?_ (fun hS => ?_)
      · rw [← HWD.out]; exact ⟨HB2.out, trivial⟩
      rw [← HWD.out] at hS ⊢
      refine takeH (i := 0) (v := .agg #[.slice A0 X.length c0, .slice A1 X1.length c1, .slice A2 X2.length c2]) rfl rfl (by kernel_rfl) (by kernel_rfl) (by kernel_rfl) (fun _ _ _ h => h) rfl ?hyz0 hS ?rsz0
      case hyz0 => exact fun wq hq => exec_load_row 85 _ rfl (hh + 3) rfl 85 _ (0, 0) _ hq.1 Try.underlying85 rfl (by kernel_rfl)
      simp only [Act.put, List.setIfInBounds_toArray, List.set_cons_zero, List.set_cons_succ]
      refine takeH (i := 1) (v := ?v1) rfl rfl (by kernel_rfl) (by kernel_rfl) (by kernel_rfl) (fun _ _ _ h => h) rfl ?hy1 hS ?rs1
      case hy1 => (intro wq hq; have s1 : wq.cell? ⟨hh + 1 + 1 + 1, 0, none⟩ = some (.slice A0 X.length c0) := cell_of_heap hq.1 0; go_simp; try (with_reducible rfl))
      simp only [Act.put, List.setIfInBounds_toArray, List.set_cons_zero, List.set_cons_succ]
      refine takeH (i := 2) (v := ?v2) rfl rfl (by kernel_rfl) (by kernel_rfl) (by kernel_rfl) (fun _ _ _ h => h) rfl ?hy2 hS ?rs2
      case hy2 => (intro wq hq; have s1 : wq.cell? ⟨hh + 1 + 1 + 1, 0, none⟩ = some (.slice A0 X.length c0) := cell_of_heap hq.1 0; go_simp; try (with_reducible rfl))
      simp only [Act.put, List.setIfInBounds_toArray, List.set_cons_zero, List.set_cons_succ]
      refine wpAnyH_ready (rs := [3]) (by kernel_rfl) (by simp) ?_
      refine AllReadyH.cons rfl (fun K hK => ?_) AllReadyH.nil
      go_simp
      refine HLD.out.mono ?_
      rintro e wn ⟨rfl, hw⟩
      obtain rfl := hw.symm
      refine hK.out _ _ hS (fun hS => ?_)
      clear hK
      try simp only [Act.put, List.setIfInBounds_toArray, List.set_cons_zero, List.set_cons_succ]
      refine wpAnyH_ready (rs := [4]) (by kernel_rfl) (by simp) ?_
      refine AllReadyH.cons rfl (fun K hK => ?_) AllReadyH.nil
      go_simp
      refine HSC.out.mono ?_
      rintro e w5 ⟨t0, t1, t2, rfl, p0, p1, p2, hb5⟩
      obtain ⟨D0, f0, rfl, _⟩ := p0.form
      obtain ⟨D1, f1, rfl, _⟩ := p1.form
      obtain ⟨D2, f2, rfl, _⟩ := p2.form
      have HP0 := Lib.hid p0
      have RS5 : w5.heap[hh]? = _ := (hb5.block hh (by omega)).trans HB3.out
      have BL5 : Hid (Below w.heap.size w w5) := Lib.hid (by rw [← HHE.out]; exact HB1.out.trans (hb5.mono (by omega)))
      have KS5 : w5.heap[hh + 3]? = _ := (hb5.block (hh + 3) (by omega)).trans hS.1
      clear p0 p1 p2 hb5
      refine hK.out _ _ ⟨KS5, trivial⟩ (fun hS => ?_)
      clear hK
      try simp only [Act.put, List.setIfInBounds_toArray, List.set_cons_zero, List.set_cons_succ]
      refine wpAnyH_ready (rs := [5]) (by kernel_rfl) (by simp) ?_
      refine AllReadyH.cons rfl (fun K hK => ?_) AllReadyH.nil
      rw [if_pos (by rfl)]
      refine wp_store_row 85 _ _ rfl hh #[.slice D0 _ f0, .slice D1 _ f1, .slice D2 _ f2] rfl rfl _ _ RS5 (by kernel_rfl) rfl (by simp [Value.oneCell']) ?_
      refine hK.out _ _ ⟨(setRow_other _ _ _ _ (by omega)).trans hS.1, trivial⟩ (fun hS => ?_)
      clear hK
      refine wpAnyH_done (by kernel_rfl) ?_ _
      clear hS
      go_wp2_with fail
      refine bodyPost_ret (v := .agg #[.slice D0 (pScale X y).length f0, .slice D1 (pScale X1 y).length f1, .slice D2 (pScale X2 y).length f2]) ?_ rfl ?_
      · exact results_cell_row rfl _ _ hh _ _ (0, 0) _ rfl (setRow_heap _ _ _ _ _ _ RS5) Try.underlying85 rfl (by kernel_rfl)
      · show CMon _ _ _ _
        unfold CMon
        refine ⟨_, _, _, _, _, _, _, rfl, ?_, ?_⟩
        · rw [HMY.out]; exact (HP0.out.setRow _ (by omega)).lower (by rw [← HHE.out]; omega)
        · exact below_setRow BL5.out (by rw [← HHE.out]; exact Nat.le_refl _) _
    · have T : decide (Y.length = 0) = false := by simpa using h0
      have hdv := over_any _ _ X Y (by omega) (by omega) wr n0 o0 htx (by omega) (top_ne hty h0)
      have hrl := pRem_len n0.inU o0.inU (by omega) (top_ne hty h0)
      have hgo := gcdF_go hg (by omega) h0
      have hrem : pPlus X (pTimes Y (pQuo X Y)) = pRem X Y := by rw [pTimes_swap o0.inU (pQuo_in n0.inU o0.inU), plus_quo n0.inU o0.inU htx (by omega)]
      have hql := pQuo_len X Y
      have HDV := Lib.hid hdv
      have HTB9 := Lib.hid hty
      have HRT : Hid (topP (pRem X Y)) := Lib.hid (pRem_top htx)
      have HL9 := Lib.hid hly
      have HL8 : Hid ((pRem X Y).length ≤ 21) := Lib.hid (by omega)
      have HG2 : Hid (gcdF (ys.length + 1 - (k + 1)) Y (pRem X Y) = G) := Lib.hid (by rwa [show ys.length + 1 - k - 1 = ys.length + 1 - (k + 1) from by omega] at hgo)
      have HREM := Lib.hid hrem
      have HN0 := Lib.hid n0
      have HO0 := Lib.hid o0
      have HM3 := Lib.hid m3
      have HM0 := Lib.hid m0
      have HB := Lib.hid hB
      clear hdv hgo hrem hg hty htx m3 m4 m0 n0 o0 hB HCI
      go_wp2_with fail
      refine (isZero_any B0 Y.length d0 (by omega) _).mono ?_
      rintro e w' ⟨rfl, hw⟩
      obtain rfl := hw.symm
      rw [T]
      go_wp2_with fail
      refine HDV.out.mono ?_
      rintro e w3 ⟨q, r, rfl, hq, hr, hb⟩
      obtain ⟨Q0, cq, rfl, _⟩ := hq.form
      obtain ⟨R0, cr, rfl, _⟩ := hr.form
      have hbd : Below wr.heap.size wr w3.drew := drew_b hb
      have HPT := Lib.hid (plusTimes_any (.slice A0 X.length c0) (.slice A1 X1.length c1) (.slice A2 X2.length c2) (.slice Q0 (pQuo X Y).length cq) (.slice B0 Y.length d0) (.slice B1 Y1.length d1) (.slice B2 Y2.length d2) X X1 X2 (pQuo X Y) Y Y1 Y2
        (by omega) (by omega) (by omega) (by omega) (by omega) (by omega) (by omega) w3.drew (HN0.out.ns.below hbd) (N1.out.below hbd) (N2.out.below hbd) (hq.ns.below (drew_b (Below.refl _ _))) (HO0.out.ns.below hbd) (O1.out.below hbd) (O2.out.below hbd))
      obtain ⟨wd, hwd⟩ : ∃ wd, wd = w3.drew := ⟨_, rfl⟩
      rw [← hwd] at HPT hbd
      have hsd : hh + 5 ≤ wd.heap.size := Nat.le_trans hsz hbd.size
      have g3 : wd.heap[hh + 3]? = _ := (hbd.block (hh + 3) (by omega)).trans HM3.out
      have g4 : wd.heap[hh + 4]? = _ := (hbd.block (hh + 4) (by omega)).trans HM4.out
      have g0 : wd.heap[hh]? = _ := (hbd.block hh (by omega)).trans HM0.out
      have HCI : Hid (∀ (w5 : World) (t0 t1 t2 : Value), PO w5 wd.heap.size t0 (pPlus X (pTimes Y (pQuo X Y))) → PO w5 wd.heap.size t1 (pPlus X1 (pTimes Y1 (pQuo X Y))) → PO w5 wd.heap.size t2 (pPlus X2 (pTimes Y2 (pQuo X Y))) → Below wd.heap.size wd w5 →
          CI w hh (k + 1) Y (pRem X Y) ((w5.setRow (hh + 3) #[.slice B0 Y.length d0, .slice B1 Y1.length d1, .slice B2 Y2.length d2]).setRow (hh + 4) #[t0, t1, t2])) := Lib.hid (by
        intro w5 t0 t1 t2 p0 p1 p2 hb5
        have e1 : w5.heap[hh + 3]? = _ := (hb5.block (hh + 3) (by omega)).trans g3
        have e2 : w5.heap[hh + 4]? = _ := (hb5.block (hh + 4) (by omega)).trans g4
        have e0 : w5.heap[hh]? = _ := (hb5.block hh (by omega)).trans g0
        have e3 := (setRow_other w5 (hh + 3) (hh + 4) #[.slice B0 Y.length d0, .slice B1 Y1.length d1, .slice B2 Y2.length d2] (by omega)).trans e2
        have hb6 := bchain hbd hb5
        rw [HREM.out] at p0
        have L1 := pPlus_len X1 (pTimes Y1 (pQuo X Y))
        have L2 := pPlus_len X2 (pTimes Y2 (pQuo X Y))
        have L3 := pTimes_len Y1 (pQuo X Y)
        have L4 := pTimes_len Y2 (pQuo X Y)
        unfold mx at L1 L2
        refine ⟨Y1, Y2, _, _, _, _, _, _, _, _, ((setRow_other _ _ _ _ (by omega)).trans (setRow_heap _ _ _ _ _ _ e1)), setRow_heap _ _ _ _ _ _ e3, (HO0.out.below hb6).row e1 _ |>.row e3 _, ((O1.out.below hb6).row e1 _).row e3 _, ((O2.out.below hb6).row e1 _).row e3 _,
          ((p0.setRow _ (by omega)).setRow _ (by omega)).nc, ((p1.setRow _ (by omega)).setRow _ (by omega)).ns, ((p2.setRow _ (by omega)).setRow _ (by omega)).ns, (setRow_other _ _ _ _ (by omega)).trans ((setRow_other _ _ _ _ (by omega)).trans e0),
          below_setRow (below_setRow (HB.out.trans (hb6.mono (by omega))) (by omega) _) (by omega) _, by rw [size_setRow, size_setRow]; have := hb6.size; omega, by omega, by omega, by split at L1 <;> omega, by split at L2 <;> omega⟩)
      have HR4 := Lib.hid g3
      have HS4 := Lib.hid g4
      have HDS := Lib.hid hsd
      have HWD := Lib.hid hwd
      clear hq hr hb hbd hwd g3 g4 g0 hsd HDV HM3 HM0 HN0 HO0 N1 N2 O1 O2 HB
      go_wp2_with fail
      refine wp_region_any (by kernel_rfl) ?_
      show wpAny _ _ _ _ _ _ _ w3.drew
      rw [← HWD.out]
      refine takeA (i := 2) (v := ?va2) rfl rfl (by kernel_rfl) (by kernel_rfl) (by kernel_rfl) (fun _ _ _ h => h) rfl ?hya2 ?ra2
      case hya2 => (intro wq; go_simp; try (with_reducible rfl))
      simp only [Act.put, List.setIfInBounds_toArray, List.set_cons_zero, List.set_cons_succ]
      refine wpAny_ready (rs := [0, 1, 3]) (by kernel_rfl) (by simp) ?_
      refine AllReady.cons rfl (fun K hK => ?_) (AllReady.cons rfl (fun K hK => ?_) (AllReady.cons rfl (fun K hK => ?_) AllReady.nil))
      · skip
        simp only [List.getElem_toArray, List.getElem_cons_zero, List.getElem_cons_succ]
        rw [if_pos (by rfl)]
        refine wp_load_row 85 _ rfl (hh + 4) rfl 85 _ (0, 0) _ HS4.out Try.underlying85 rfl (by kernel_rfl) ?_
        refine hK _ _ ?_
        clear hK
        simp only [Act.put, List.setIfInBounds_toArray, List.set_cons_zero, List.set_cons_succ]
        refine wpAny_ready (rs := [1, 3]) (by kernel_rfl) (by simp) ?_
        refine AllReady.cons rfl (fun K hK => ?_) (AllReady.cons rfl (fun K hK => ?_) AllReady.nil)
        · skip
          simp only [List.getElem_toArray, List.getElem_cons_zero, List.getElem_cons_succ]
          rw [if_pos (by rfl)]
          refine wp_load_row 85 _ rfl (hh + 3) rfl 85 _ (0, 0) _ HR4.out Try.underlying85 rfl (by kernel_rfl) ?_
          refine hK _ _ ?_
          clear hK
          simp only [Act.put, List.setIfInBounds_toArray, List.set_cons_zero, List.set_cons_succ]
          refine wpAny_ready (rs := [3]) (by kernel_rfl) (by simp) ?_
          refine AllReady.cons rfl (fun K hK => ?_) AllReady.nil
          simp only [List.getElem_toArray, List.getElem_cons_zero, List.getElem_cons_succ]
          rw [if_pos (by rfl)]
          refine wp_load_row 85 _ rfl (hh + 4) rfl 85 _ (0, 0) _ HS4.out Try.underlying85 rfl (by kernel_rfl) ?_
          refine hK _ _ ?_
          clear hK
          simp only [Act.put, List.setIfInBounds_toArray, List.set_cons_zero, List.set_cons_succ]
          refine wpAny_ready (rs := [4]) (by kernel_rfl) (by simp) ?_
          refine AllReady.cons rfl (fun K hK => ?_) AllReady.nil
          go_simp
          refine (HPT.out).mono ?_
          rintro e w5 ⟨t0, t1, t2, rfl, p0, p1, p2, hb5⟩
          have hci := HCI.out w5 t0 t1 t2 p0 p1 p2 hb5
          have e1 : w5.heap[hh + 3]? = _ := (hb5.block (hh + 3) (by have := HDS.out; omega)).trans HR4.out
          have e2 : w5.heap[hh + 4]? = _ := (hb5.block (hh + 4) (by have := HDS.out; omega)).trans HS4.out
          obtain ⟨_, _, rfl, _⟩ := p0.form
          obtain ⟨_, _, rfl, _⟩ := p1.form
          obtain ⟨_, _, rfl, _⟩ := p2.form
          have e3 := (setRow_other w5 (hh + 3) (hh + 4) #[.slice B0 Y.length d0, .slice B1 Y1.length d1, .slice B2 Y2.length d2] (by omega)).trans e2
          clear p0 p1 p2 hb5
          refine hK _ _ ?_
          clear hK
          try simp only [Act.put, List.setIfInBounds_toArray, List.set_cons_zero, List.set_cons_succ]
          refine wpAny_ready (rs := [5]) (by kernel_rfl) (by simp) ?_
          refine AllReady.cons rfl (fun K hK => ?_) AllReady.nil
          simp only [List.getElem_toArray, List.getElem_cons_zero, List.getElem_cons_succ]
          rw [if_pos (by rfl)]
          refine wp_store_row 85 _ _ rfl (hh + 3) _ rfl rfl _ _ e1 (by kernel_rfl) rfl (by simp [Value.oneCell']) ?_
          refine hK _ _ ?_
          clear hK
          try simp only [Act.put, List.setIfInBounds_toArray, List.set_cons_zero, List.set_cons_succ]
          refine wpAny_ready (rs := [6]) (by kernel_rfl) (by simp) ?_
          refine AllReady.cons rfl (fun K hK => ?_) AllReady.nil
          simp only [List.getElem_toArray, List.getElem_cons_zero, List.getElem_cons_succ]
          rw [if_pos (by rfl)]
          refine wp_store_row 85 _ _ rfl (hh + 4) _ rfl rfl _ _ e3 (by kernel_rfl) rfl (by simp [Value.oneCell']) ?_
          refine hK _ _ ?_
          clear hK
          try simp only [Act.put, List.setIfInBounds_toArray, List.set_cons_zero, List.set_cons_succ]
          refine wpAny_done (by kernel_rfl) ?_ _
          clear e1 e2 e3
          go_wp2_with fail
          go_roundw
          case rel => exact ⟨k + 1, Y, pRem X Y, HTB9.out, HRT.out, HL9.out, HL8.out, by omega, HG2.out, Lib.hid hci⟩
          case measure =>
            obtain ⟨_, _, _, _, _, _, _, z0, z1, z2, _, y4, _, _, _, y5, _⟩ := hci
            obtain ⟨_, _, rfl, _⟩ := y5.form
            rw [MS_eq y4, MS_eq HM4.out]
            exact hrl
        · skip
          simp only [List.getElem_toArray, List.getElem_cons_zero, List.getElem_cons_succ]
          rw [if_pos (by rfl)]
          refine wp_load_row 85 _ rfl (hh + 4) rfl 85 _ (0, 0) _ HS4.out Try.underlying85 rfl (by kernel_rfl) ?_
          refine hK _ _ ?_
          clear hK
          simp only [Act.put, List.setIfInBounds_toArray, List.set_cons_zero, List.set_cons_succ]
          refine wpAny_ready (rs := [1]) (by kernel_rfl) (by simp) ?_
          refine AllReady.cons rfl (fun K hK => ?_) AllReady.nil
          simp only [List.getElem_toArray, List.getElem_cons_zero, List.getElem_cons_succ]
          rw [if_pos (by rfl)]
          refine wp_load_row 85 _ rfl (hh + 3) rfl 85 _ (0, 0) _ HR4.out Try.underlying85 rfl (by kernel_rfl) ?_
          refine hK _ _ ?_
          clear hK
          simp only [Act.put, List.setIfInBounds_toArray, List.set_cons_zero, List.set_cons_succ]
          refine wpAny_ready (rs := [4]) (by kernel_rfl) (by simp) ?_
          refine AllReady.cons rfl (fun K hK => ?_) AllReady.nil
          go_simp
          refine (HPT.out).mono ?_
          rintro e w5 ⟨t0, t1, t2, rfl, p0, p1, p2, hb5⟩
          have hci := HCI.out w5 t0 t1 t2 p0 p1 p2 hb5
          have e1 : w5.heap[hh + 3]? = _ := (hb5.block (hh + 3) (by have := HDS.out; omega)).trans HR4.out
          have e2 : w5.heap[hh + 4]? = _ := (hb5.block (hh + 4) (by have := HDS.out; omega)).trans HS4.out
          obtain ⟨_, _, rfl, _⟩ := p0.form
          obtain ⟨_, _, rfl, _⟩ := p1.form
          obtain ⟨_, _, rfl, _⟩ := p2.form
          have e3 := (setRow_other w5 (hh + 3) (hh + 4) #[.slice B0 Y.length d0, .slice B1 Y1.length d1, .slice B2 Y2.length d2] (by omega)).trans e2
          clear p0 p1 p2 hb5
          refine hK _ _ ?_
          clear hK
          try simp only [Act.put, List.setIfInBounds_toArray, List.set_cons_zero, List.set_cons_succ]
          refine wpAny_ready (rs := [5]) (by kernel_rfl) (by simp) ?_
          refine AllReady.cons rfl (fun K hK => ?_) AllReady.nil
          simp only [List.getElem_toArray, List.getElem_cons_zero, List.getElem_cons_succ]
          rw [if_pos (by rfl)]
          refine wp_store_row 85 _ _ rfl (hh + 3) _ rfl rfl _ _ e1 (by kernel_rfl) rfl (by simp [Value.oneCell']) ?_
          refine hK _ _ ?_
          clear hK
          try simp only [Act.put, List.setIfInBounds_toArray, List.set_cons_zero, List.set_cons_succ]
          refine wpAny_ready (rs := [6]) (by kernel_rfl) (by simp) ?_
          refine AllReady.cons rfl (fun K hK => ?_) AllReady.nil
          simp only [List.getElem_toArray, List.getElem_cons_zero, List.getElem_cons_succ]
          rw [if_pos (by rfl)]
          refine wp_store_row 85 _ _ rfl (hh + 4) _ rfl rfl _ _ e3 (by kernel_rfl) rfl (by simp [Value.oneCell']) ?_
          refine hK _ _ ?_
          clear hK
          try simp only [Act.put, List.setIfInBounds_toArray, List.set_cons_zero, List.set_cons_succ]
          refine wpAny_done (by kernel_rfl) ?_ _
          clear e1 e2 e3
          go_wp2_with fail
          go_roundw
          case rel => exact ⟨k + 1, Y, pRem X Y, HTB9.out, HRT.out, HL9.out, HL8.out, by omega, HG2.out, Lib.hid hci⟩
          case measure =>
            obtain ⟨_, _, _, _, _, _, _, z0, z1, z2, _, y4, _, _, _, y5, _⟩ := hci
            obtain ⟨_, _, rfl, _⟩ := y5.form
            rw [MS_eq y4, MS_eq HM4.out]
            exact hrl
      · skip
        simp only [List.getElem_toArray, List.getElem_cons_zero, List.getElem_cons_succ]
        rw [if_pos (by rfl)]
        refine wp_load_row 85 _ rfl (hh + 3) rfl 85 _ (0, 0) _ HR4.out Try.underlying85 rfl (by kernel_rfl) ?_
        refine hK _ _ ?_
        clear hK
        simp only [Act.put, List.setIfInBounds_toArray, List.set_cons_zero, List.set_cons_succ]
        refine wpAny_ready (rs := [0, 3]) (by kernel_rfl) (by simp) ?_
        refine AllReady.cons rfl (fun K hK => ?_) (AllReady.cons rfl (fun K hK => ?_) AllReady.nil)
        · skip
          simp only [List.getElem_toArray, List.getElem_cons_zero, List.getElem_cons_succ]
          rw [if_pos (by rfl)]
          refine wp_load_row 85 _ rfl (hh + 4) rfl 85 _ (0, 0) _ HS4.out Try.underlying85 rfl (by kernel_rfl) ?_
          refine hK _ _ ?_
          clear hK
          simp only [Act.put, List.setIfInBounds_toArray, List.set_cons_zero, List.set_cons_succ]
          refine wpAny_ready (rs := [3]) (by kernel_rfl) (by simp) ?_
          refine AllReady.cons rfl (fun K hK => ?_) AllReady.nil
          simp only [List.getElem_toArray, List.getElem_cons_zero, List.getElem_cons_succ]
          rw [if_pos (by rfl)]
          refine wp_load_row 85 _ rfl (hh + 4) rfl 85 _ (0, 0) _ HS4.out Try.underlying85 rfl (by kernel_rfl) ?_
          refine hK _ _ ?_
          clear hK
          simp only [Act.put, List.setIfInBounds_toArray, List.set_cons_zero, List.set_cons_succ]
          refine wpAny_ready (rs := [4]) (by kernel_rfl) (by simp) ?_
          refine AllReady.cons rfl (fun K hK => ?_) AllReady.nil
          go_simp
          refine (HPT.out).mono ?_
          rintro e w5 ⟨t0, t1, t2, rfl, p0, p1, p2, hb5⟩
          have hci := HCI.out w5 t0 t1 t2 p0 p1 p2 hb5
          have e1 : w5.heap[hh + 3]? = _ := (hb5.block (hh + 3) (by have := HDS.out; omega)).trans HR4.out
          have e2 : w5.heap[hh + 4]? = _ := (hb5.block (hh + 4) (by have := HDS.out; omega)).trans HS4.out
          obtain ⟨_, _, rfl, _⟩ := p0.form
          obtain ⟨_, _, rfl, _⟩ := p1.form
          obtain ⟨_, _, rfl, _⟩ := p2.form
          have e3 := (setRow_other w5 (hh + 3) (hh + 4) #[.slice B0 Y.length d0, .slice B1 Y1.length d1, .slice B2 Y2.length d2] (by omega)).trans e2
          clear p0 p1 p2 hb5
          refine hK _ _ ?_
          clear hK
          try simp only [Act.put, List.setIfInBounds_toArray, List.set_cons_zero, List.set_cons_succ]
          refine wpAny_ready (rs := [5]) (by kernel_rfl) (by simp) ?_
          refine AllReady.cons rfl (fun K hK => ?_) AllReady.nil
          simp only [List.getElem_toArray, List.getElem_cons_zero, List.getElem_cons_succ]
          rw [if_pos (by rfl)]
          refine wp_store_row 85 _ _ rfl (hh + 3) _ rfl rfl _ _ e1 (by kernel_rfl) rfl (by simp [Value.oneCell']) ?_
          refine hK _ _ ?_
          clear hK
          try simp only [Act.put, List.setIfInBounds_toArray, List.set_cons_zero, List.set_cons_succ]
          refine wpAny_ready (rs := [6]) (by kernel_rfl) (by simp) ?_
          refine AllReady.cons rfl (fun K hK => ?_) AllReady.nil
          simp only [List.getElem_toArray, List.getElem_cons_zero, List.getElem_cons_succ]
          rw [if_pos (by rfl)]
          refine wp_store_row 85 _ _ rfl (hh + 4) _ rfl rfl _ _ e3 (by kernel_rfl) rfl (by simp [Value.oneCell']) ?_
          refine hK _ _ ?_
          clear hK
          try simp only [Act.put, List.setIfInBounds_toArray, List.set_cons_zero, List.set_cons_succ]
          refine wpAny_done (by kernel_rfl) ?_ _
          clear e1 e2 e3
          go_wp2_with fail
          go_roundw
          case rel => exact ⟨k + 1, Y, pRem X Y, HTB9.out, HRT.out, HL9.out, HL8.out, by omega, HG2.out, Lib.hid hci⟩
          case measure =>
            obtain ⟨_, _, _, _, _, _, _, z0, z1, z2, _, y4, _, _, _, y5, _⟩ := hci
            obtain ⟨_, _, rfl, _⟩ := y5.form
            rw [MS_eq y4, MS_eq HM4.out]
            exact hrl
        · skip
          simp only [List.getElem_toArray, List.getElem_cons_zero, List.getElem_cons_succ]
          rw [if_pos (by rfl)]
          refine wp_load_row 85 _ rfl (hh + 4) rfl 85 _ (0, 0) _ HS4.out Try.underlying85 rfl (by kernel_rfl) ?_
          refine hK _ _ ?_
          clear hK
          simp only [Act.put, List.setIfInBounds_toArray, List.set_cons_zero, List.set_cons_succ]
          refine wpAny_ready (rs := [0, 4]) (by kernel_rfl) (by simp) ?_
          refine AllReady.cons rfl (fun K hK => ?_) (AllReady.cons rfl (fun K hK => ?_) AllReady.nil)
          · skip
            simp only [List.getElem_toArray, List.getElem_cons_zero, List.getElem_cons_succ]
            rw [if_pos (by rfl)]
            refine wp_load_row 85 _ rfl (hh + 4) rfl 85 _ (0, 0) _ HS4.out Try.underlying85 rfl (by kernel_rfl) ?_
            refine hK _ _ ?_
            clear hK
            simp only [Act.put, List.setIfInBounds_toArray, List.set_cons_zero, List.set_cons_succ]
            refine wpAny_ready (rs := [4]) (by kernel_rfl) (by simp) ?_
            refine AllReady.cons rfl (fun K hK => ?_) AllReady.nil
            go_simp
            refine (HPT.out).mono ?_
            rintro e w5 ⟨t0, t1, t2, rfl, p0, p1, p2, hb5⟩
            have hci := HCI.out w5 t0 t1 t2 p0 p1 p2 hb5
            have e1 : w5.heap[hh + 3]? = _ := (hb5.block (hh + 3) (by have := HDS.out; omega)).trans HR4.out
            have e2 : w5.heap[hh + 4]? = _ := (hb5.block (hh + 4) (by have := HDS.out; omega)).trans HS4.out
            obtain ⟨_, _, rfl, _⟩ := p0.form
            obtain ⟨_, _, rfl, _⟩ := p1.form
            obtain ⟨_, _, rfl, _⟩ := p2.form
            have e3 := (setRow_other w5 (hh + 3) (hh + 4) #[.slice B0 Y.length d0, .slice B1 Y1.length d1, .slice B2 Y2.length d2] (by omega)).trans e2
            clear p0 p1 p2 hb5
            refine hK _ _ ?_
            clear hK
            try simp only [Act.put, List.setIfInBounds_toArray, List.set_cons_zero, List.set_cons_succ]
            refine wpAny_ready (rs := [5]) (by kernel_rfl) (by simp) ?_
            refine AllReady.cons rfl (fun K hK => ?_) AllReady.nil
            simp only [List.getElem_toArray, List.getElem_cons_zero, List.getElem_cons_succ]
            rw [if_pos (by rfl)]
            refine wp_store_row 85 _ _ rfl (hh + 3) _ rfl rfl _ _ e1 (by kernel_rfl) rfl (by simp [Value.oneCell']) ?_
            refine hK _ _ ?_
            clear hK
            try simp only [Act.put, List.setIfInBounds_toArray, List.set_cons_zero, List.set_cons_succ]
            refine wpAny_ready (rs := [6]) (by kernel_rfl) (by simp) ?_
            refine AllReady.cons rfl (fun K hK => ?_) AllReady.nil
            simp only [List.getElem_toArray, List.getElem_cons_zero, List.getElem_cons_succ]
            rw [if_pos (by rfl)]
            refine wp_store_row 85 _ _ rfl (hh + 4) _ rfl rfl _ _ e3 (by kernel_rfl) rfl (by simp [Value.oneCell']) ?_
            refine hK _ _ ?_
            clear hK
            try simp only [Act.put, List.setIfInBounds_toArray, List.set_cons_zero, List.set_cons_succ]
            refine wpAny_done (by kernel_rfl) ?_ _
            clear e1 e2 e3
            go_wp2_with fail
            go_roundw
            case rel => exact ⟨k + 1, Y, pRem X Y, HTB9.out, HRT.out, HL9.out, HL8.out, by omega, HG2.out, Lib.hid hci⟩
            case measure =>
              obtain ⟨_, _, _, _, _, _, _, z0, z1, z2, _, y4, _, _, _, y5, _⟩ := hci
              obtain ⟨_, _, rfl, _⟩ := y5.form
              rw [MS_eq y4, MS_eq HM4.out]
              exact hrl
          · skip
            go_simp
            refine (HPT.out).mono ?_
            rintro e w5 ⟨t0, t1, t2, rfl, p0, p1, p2, hb5⟩
            have hci := HCI.out w5 t0 t1 t2 p0 p1 p2 hb5
            have e1 : w5.heap[hh + 3]? = _ := (hb5.block (hh + 3) (by have := HDS.out; omega)).trans HR4.out
            have e2 : w5.heap[hh + 4]? = _ := (hb5.block (hh + 4) (by have := HDS.out; omega)).trans HS4.out
            obtain ⟨_, _, rfl, _⟩ := p0.form
            obtain ⟨_, _, rfl, _⟩ := p1.form
            obtain ⟨_, _, rfl, _⟩ := p2.form
            have e3 := (setRow_other w5 (hh + 3) (hh + 4) #[.slice B0 Y.length d0, .slice B1 Y1.length d1, .slice B2 Y2.length d2] (by omega)).trans e2
            clear p0 p1 p2 hb5
            refine hK _ _ ?_
            clear hK
            try simp only [Act.put, List.setIfInBounds_toArray, List.set_cons_zero, List.set_cons_succ]
            refine wpAny_ready (rs := [0]) (by kernel_rfl) (by simp) ?_
            refine AllReady.cons rfl (fun K hK => ?_) AllReady.nil
            simp only [List.getElem_toArray, List.getElem_cons_zero, List.getElem_cons_succ]
            rw [if_pos (by rfl)]
            refine wp_load_row 85 _ rfl (hh + 4) rfl 85 _ (0, 0) _ e2 Try.underlying85 rfl (by kernel_rfl) ?_
            refine hK _ _ ?_
            clear hK
            simp only [Act.put, List.setIfInBounds_toArray, List.set_cons_zero, List.set_cons_succ]
            refine wpAny_ready (rs := [5]) (by kernel_rfl) (by simp) ?_
            refine AllReady.cons rfl (fun K hK => ?_) AllReady.nil
            simp only [List.getElem_toArray, List.getElem_cons_zero, List.getElem_cons_succ]
            rw [if_pos (by rfl)]
            refine wp_store_row 85 _ _ rfl (hh + 3) _ rfl rfl _ _ e1 (by kernel_rfl) rfl (by simp [Value.oneCell']) ?_
            refine hK _ _ ?_
            clear hK
            try simp only [Act.put, List.setIfInBounds_toArray, List.set_cons_zero, List.set_cons_succ]
            refine wpAny_ready (rs := [6]) (by kernel_rfl) (by simp) ?_
            refine AllReady.cons rfl (fun K hK => ?_) AllReady.nil
            simp only [List.getElem_toArray, List.getElem_cons_zero, List.getElem_cons_succ]
            rw [if_pos (by rfl)]
            refine wp_store_row 85 _ _ rfl (hh + 4) _ rfl rfl _ _ e3 (by kernel_rfl) rfl (by simp [Value.oneCell']) ?_
            refine hK _ _ ?_
            clear hK
            try simp only [Act.put, List.setIfInBounds_toArray, List.set_cons_zero, List.set_cons_succ]
            refine wpAny_done (by kernel_rfl) ?_ _
            clear e1 e2 e3
            go_wp2_with fail
            go_roundw
            case rel => exact ⟨k + 1, Y, pRem X Y, HTB9.out, HRT.out, HL9.out, HL8.out, by omega, HG2.out, Lib.hid hci⟩
            case measure =>
              obtain ⟨_, _, _, _, _, _, _, z0, z1, z2, _, y4, _, _, _, y5, _⟩ := hci
              obtain ⟨_, _, rfl, _⟩ := y5.form
              rw [MS_eq y4, MS_eq HM4.out]
              exact hrl
      · skip
        simp only [List.getElem_toArray, List.getElem_cons_zero, List.getElem_cons_succ]
        rw [if_pos (by rfl)]
        refine wp_load_row 85 _ rfl (hh + 4) rfl 85 _ (0, 0) _ HS4.out Try.underlying85 rfl (by kernel_rfl) ?_
        refine hK _ _ ?_
        clear hK
        simp only [Act.put, List.setIfInBounds_toArray, List.set_cons_zero, List.set_cons_succ]
        refine wpAny_ready (rs := [0, 1]) (by kernel_rfl) (by simp) ?_
        refine AllReady.cons rfl (fun K hK => ?_) (AllReady.cons rfl (fun K hK => ?_) AllReady.nil)
        · skip
          simp only [List.getElem_toArray, List.getElem_cons_zero, List.getElem_cons_succ]
          rw [if_pos (by rfl)]
          refine wp_load_row 85 _ rfl (hh + 4) rfl 85 _ (0, 0) _ HS4.out Try.underlying85 rfl (by kernel_rfl) ?_
          refine hK _ _ ?_
          clear hK
          simp only [Act.put, List.setIfInBounds_toArray, List.set_cons_zero, List.set_cons_succ]
          refine wpAny_ready (rs := [1]) (by kernel_rfl) (by simp) ?_
          refine AllReady.cons rfl (fun K hK => ?_) AllReady.nil
          simp only [List.getElem_toArray, List.getElem_cons_zero, List.getElem_cons_succ]
          rw [if_pos (by rfl)]
          refine wp_load_row 85 _ rfl (hh + 3) rfl 85 _ (0, 0) _ HR4.out Try.underlying85 rfl (by kernel_rfl) ?_
          refine hK _ _ ?_
          clear hK
          simp only [Act.put, List.setIfInBounds_toArray, List.set_cons_zero, List.set_cons_succ]
          refine wpAny_ready (rs := [4]) (by kernel_rfl) (by simp) ?_
          refine AllReady.cons rfl (fun K hK => ?_) AllReady.nil
          go_simp
          refine (HPT.out).mono ?_
          rintro e w5 ⟨t0, t1, t2, rfl, p0, p1, p2, hb5⟩
          have hci := HCI.out w5 t0 t1 t2 p0 p1 p2 hb5
          have e1 : w5.heap[hh + 3]? = _ := (hb5.block (hh + 3) (by have := HDS.out; omega)).trans HR4.out
          have e2 : w5.heap[hh + 4]? = _ := (hb5.block (hh + 4) (by have := HDS.out; omega)).trans HS4.out
          obtain ⟨_, _, rfl, _⟩ := p0.form
          obtain ⟨_, _, rfl, _⟩ := p1.form
          obtain ⟨_, _, rfl, _⟩ := p2.form
          have e3 := (setRow_other w5 (hh + 3) (hh + 4) #[.slice B0 Y.length d0, .slice B1 Y1.length d1, .slice B2 Y2.length d2] (by omega)).trans e2
          clear p0 p1 p2 hb5
          refine hK _ _ ?_
          clear hK
          try simp only [Act.put, List.setIfInBounds_toArray, List.set_cons_zero, List.set_cons_succ]
          refine wpAny_ready (rs := [5]) (by kernel_rfl) (by simp) ?_
          refine AllReady.cons rfl (fun K hK => ?_) AllReady.nil
          simp only [List.getElem_toArray, List.getElem_cons_zero, List.getElem_cons_succ]
          rw [if_pos (by rfl)]
          refine wp_store_row 85 _ _ rfl (hh + 3) _ rfl rfl _ _ e1 (by kernel_rfl) rfl (by simp [Value.oneCell']) ?_
          refine hK _ _ ?_
          clear hK
          try simp only [Act.put, List.setIfInBounds_toArray, List.set_cons_zero, List.set_cons_succ]
          refine wpAny_ready (rs := [6]) (by kernel_rfl) (by simp) ?_
          refine AllReady.cons rfl (fun K hK => ?_) AllReady.nil
          simp only [List.getElem_toArray, List.getElem_cons_zero, List.getElem_cons_succ]
          rw [if_pos (by rfl)]
          refine wp_store_row 85 _ _ rfl (hh + 4) _ rfl rfl _ _ e3 (by kernel_rfl) rfl (by simp [Value.oneCell']) ?_
          refine hK _ _ ?_
          clear hK
          try simp only [Act.put, List.setIfInBounds_toArray, List.set_cons_zero, List.set_cons_succ]
          refine wpAny_done (by kernel_rfl) ?_ _
          clear e1 e2 e3
          go_wp2_with fail
          go_roundw
          case rel => exact ⟨k + 1, Y, pRem X Y, HTB9.out, HRT.out, HL9.out, HL8.out, by omega, HG2.out, Lib.hid hci⟩
          case measure =>
            obtain ⟨_, _, _, _, _, _, _, z0, z1, z2, _, y4, _, _, _, y5, _⟩ := hci
            obtain ⟨_, _, rfl, _⟩ := y5.form
            rw [MS_eq y4, MS_eq HM4.out]
            exact hrl
        · skip
          simp only [List.getElem_toArray, List.getElem_cons_zero, List.getElem_cons_succ]
          rw [if_pos (by rfl)]
          refine wp_load_row 85 _ rfl (hh + 3) rfl 85 _ (0, 0) _ HR4.out Try.underlying85 rfl (by kernel_rfl) ?_
          refine hK _ _ ?_
          clear hK
          simp only [Act.put, List.setIfInBounds_toArray, List.set_cons_zero, List.set_cons_succ]
          refine wpAny_ready (rs := [0, 4]) (by kernel_rfl) (by simp) ?_
          refine AllReady.cons rfl (fun K hK => ?_) (AllReady.cons rfl (fun K hK => ?_) AllReady.nil)
          · skip
            simp only [List.getElem_toArray, List.getElem_cons_zero, List.getElem_cons_succ]
            rw [if_pos (by rfl)]
            refine wp_load_row 85 _ rfl (hh + 4) rfl 85 _ (0, 0) _ HS4.out Try.underlying85 rfl (by kernel_rfl) ?_
            refine hK _ _ ?_
            clear hK
            simp only [Act.put, List.setIfInBounds_toArray, List.set_cons_zero, List.set_cons_succ]
            refine wpAny_ready (rs := [4]) (by kernel_rfl) (by simp) ?_
            refine AllReady.cons rfl (fun K hK => ?_) AllReady.nil
            go_simp
            refine (HPT.out).mono ?_
            rintro e w5 ⟨t0, t1, t2, rfl, p0, p1, p2, hb5⟩
            have hci := HCI.out w5 t0 t1 t2 p0 p1 p2 hb5
            have e1 : w5.heap[hh + 3]? = _ := (hb5.block (hh + 3) (by have := HDS.out; omega)).trans HR4.out
            have e2 : w5.heap[hh + 4]? = _ := (hb5.block (hh + 4) (by have := HDS.out; omega)).trans HS4.out
            obtain ⟨_, _, rfl, _⟩ := p0.form
            obtain ⟨_, _, rfl, _⟩ := p1.form
            obtain ⟨_, _, rfl, _⟩ := p2.form
            have e3 := (setRow_other w5 (hh + 3) (hh + 4) #[.slice B0 Y.length d0, .slice B1 Y1.length d1, .slice B2 Y2.length d2] (by omega)).trans e2
            clear p0 p1 p2 hb5
            refine hK _ _ ?_
            clear hK
            try simp only [Act.put, List.setIfInBounds_toArray, List.set_cons_zero, List.set_cons_succ]
            refine wpAny_ready (rs := [5]) (by kernel_rfl) (by simp) ?_
            refine AllReady.cons rfl (fun K hK => ?_) AllReady.nil
            simp only [List.getElem_toArray, List.getElem_cons_zero, List.getElem_cons_succ]
            rw [if_pos (by rfl)]
            refine wp_store_row 85 _ _ rfl (hh + 3) _ rfl rfl _ _ e1 (by kernel_rfl) rfl (by simp [Value.oneCell']) ?_
            refine hK _ _ ?_
            clear hK
            try simp only [Act.put, List.setIfInBounds_toArray, List.set_cons_zero, List.set_cons_succ]
            refine wpAny_ready (rs := [6]) (by kernel_rfl) (by simp) ?_
            refine AllReady.cons rfl (fun K hK => ?_) AllReady.nil
            simp only [List.getElem_toArray, List.getElem_cons_zero, List.getElem_cons_succ]
            rw [if_pos (by rfl)]
            refine wp_store_row 85 _ _ rfl (hh + 4) _ rfl rfl _ _ e3 (by kernel_rfl) rfl (by simp [Value.oneCell']) ?_
            refine hK _ _ ?_
            clear hK
            try simp only [Act.put, List.setIfInBounds_toArray, List.set_cons_zero, List.set_cons_succ]
            refine wpAny_done (by kernel_rfl) ?_ _
            clear e1 e2 e3
            go_wp2_with fail
            go_roundw
            case rel => exact ⟨k + 1, Y, pRem X Y, HTB9.out, HRT.out, HL9.out, HL8.out, by omega, HG2.out, Lib.hid hci⟩
            case measure =>
              obtain ⟨_, _, _, _, _, _, _, z0, z1, z2, _, y4, _, _, _, y5, _⟩ := hci
              obtain ⟨_, _, rfl, _⟩ := y5.form
              rw [MS_eq y4, MS_eq HM4.out]
              exact hrl
          · skip
            go_simp
            refine (HPT.out).mono ?_
            rintro e w5 ⟨t0, t1, t2, rfl, p0, p1, p2, hb5⟩
            have hci := HCI.out w5 t0 t1 t2 p0 p1 p2 hb5
            have e1 : w5.heap[hh + 3]? = _ := (hb5.block (hh + 3) (by have := HDS.out; omega)).trans HR4.out
            have e2 : w5.heap[hh + 4]? = _ := (hb5.block (hh + 4) (by have := HDS.out; omega)).trans HS4.out
            obtain ⟨_, _, rfl, _⟩ := p0.form
            obtain ⟨_, _, rfl, _⟩ := p1.form
            obtain ⟨_, _, rfl, _⟩ := p2.form
            have e3 := (setRow_other w5 (hh + 3) (hh + 4) #[.slice B0 Y.length d0, .slice B1 Y1.length d1, .slice B2 Y2.length d2] (by omega)).trans e2
            clear p0 p1 p2 hb5
            refine hK _ _ ?_
            clear hK
            try simp only [Act.put, List.setIfInBounds_toArray, List.set_cons_zero, List.set_cons_succ]
            refine wpAny_ready (rs := [0]) (by kernel_rfl) (by simp) ?_
            refine AllReady.cons rfl (fun K hK => ?_) AllReady.nil
            simp only [List.getElem_toArray, List.getElem_cons_zero, List.getElem_cons_succ]
            rw [if_pos (by rfl)]
            refine wp_load_row 85 _ rfl (hh + 4) rfl 85 _ (0, 0) _ e2 Try.underlying85 rfl (by kernel_rfl) ?_
            refine hK _ _ ?_
            clear hK
            simp only [Act.put, List.setIfInBounds_toArray, List.set_cons_zero, List.set_cons_succ]
            refine wpAny_ready (rs := [5]) (by kernel_rfl) (by simp) ?_
            refine AllReady.cons rfl (fun K hK => ?_) AllReady.nil
            simp only [List.getElem_toArray, List.getElem_cons_zero, List.getElem_cons_succ]
            rw [if_pos (by rfl)]
            refine wp_store_row 85 _ _ rfl (hh + 3) _ rfl rfl _ _ e1 (by kernel_rfl) rfl (by simp [Value.oneCell']) ?_
            refine hK _ _ ?_
            clear hK
            try simp only [Act.put, List.setIfInBounds_toArray, List.set_cons_zero, List.set_cons_succ]
            refine wpAny_ready (rs := [6]) (by kernel_rfl) (by simp) ?_
            refine AllReady.cons rfl (fun K hK => ?_) AllReady.nil
            simp only [List.getElem_toArray, List.getElem_cons_zero, List.getElem_cons_succ]
            rw [if_pos (by rfl)]
            refine wp_store_row 85 _ _ rfl (hh + 4) _ rfl rfl _ _ e3 (by kernel_rfl) rfl (by simp [Value.oneCell']) ?_
            refine hK _ _ ?_
            clear hK
            try simp only [Act.put, List.setIfInBounds_toArray, List.set_cons_zero, List.set_cons_succ]
            refine wpAny_done (by kernel_rfl) ?_ _
            clear e1 e2 e3
            go_wp2_with fail
            go_roundw
            case rel => exact ⟨k + 1, Y, pRem X Y, HTB9.out, HRT.out, HL9.out, HL8.out, by omega, HG2.out, Lib.hid hci⟩
            case measure =>
              obtain ⟨_, _, _, _, _, _, _, z0, z1, z2, _, y4, _, _, _, y5, _⟩ := hci
              obtain ⟨_, _, rfl, _⟩ := y5.form
              rw [MS_eq y4, MS_eq HM4.out]
              exact hrl
end Go.Proofs.Ytnpadkkjaeblfaa
