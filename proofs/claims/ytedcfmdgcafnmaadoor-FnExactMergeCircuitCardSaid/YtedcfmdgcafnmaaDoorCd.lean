/-
  The laws' own helpers for circuits, compared with themselves.
-/
import Derived.Test.YtedcfmdgcafnmaaDoorCb
import Derived.Laws.StructEq
import Derived.Deep.Cut
namespace Go.Proofs.YtedcfmdgcafnmaaDoor
set_option linter.unusedVariables false
set_option linter.unusedSimpArgs false
open Go.ChangeShapes Go.WideShapes Go.ChangeAt Go.RowKit Go.Deep

theorem stillc_load {P : Program} {ops : Array Oper} {w : World} {rest : List Oper} {o : Oper} {a : Act} {Q : Act → Prop} (hgd : o.guard = none) (ty : TypeId) (x : Operand) (ho : o.op = .load ty x)
    (b off : Nat) (hx : a.eval x = .pointer (some ⟨b, off, none⟩)) (cs : List Value) (d : TypeDesc) (hc : w.rangeAt b off cs) (hu : P.underlying ty = some d) (hd : d.isRow = true) (hi : (P.info? ty).map (·.size) = some cs.length)
    (h : wpStill P ops w Q rest (a.put o.dst (.agg cs.toArray))) : wpStill P ops w Q (o :: rest) a := by
  refine wpStill_step (fun K hK => ?_)
  rw [if_pos (by simp [Region.wanted, hgd])]
  unfold Oper.still execOp
  simp only [ho, hx, Instr.loadAt, Instr.sureAddr, Sem.run_bind, Sem.run_pure, Result.andThen_ok, run_loadVar_mid w b off ty cs d hc hu hd hi]
  exact ⟨rfl, hK _ h⟩
theorem range3 {w : World} {b o : Nat} {g : G3} (c0 : w.cell? ⟨b, o, none⟩ = some (.int .i8 g.1)) (c1 : w.cell? ⟨b, o + 1, none⟩ = some (.int .i16 g.2.1)) (c2 : w.cell? ⟨b, o + 2, none⟩ = some (.int .i16 g.2.2)) : w.rangeAt b o (gc g) := fun j v hv => by
  have hj : j < 3 := by have := (List.getElem?_eq_some_iff.1 hv).1; simpa [gc] using this
  have : j = 0 ∨ j = 1 ∨ j = 2 := by omega
  rcases this with rfl | rfl | rfl
  · simp [gc] at hv; subst hv; exact c0
  · simp [gc] at hv; subst hv; exact c1
  · simp [gc] at hv; subst hv; exact c2
theorem eqGate_refl (g : G3) (w : World) :
    Calls Tryd.prog 109 #[gv g, gv g] w fun e w' => e = .returned (.bool true) ∧ Below w.heap.size w w' := by
  obtain ⟨k, a, b⟩ := g
  have T0 : (k != k) = false := by simp
  have T1 : (a != a) = false := by simp
  have T2 : (b != b) = false := by simp
  have HB := Lib.hid (nw2 w (.cells #[.int .i8 k, .int .i16 a, .int .i16 b] 67) (.cells #[.int .i8 k, .int .i16 a, .int .i16 b] 67)).2.2.1
  go_enter Tryd.func109, Tryd.ntmps109
  go_wp2_with fail
  go_ret
  exact ⟨rfl, HB.out⟩
set_option maxRecDepth 100000 in
set_option maxHeartbeats 1000000 in
theorem eqGateS_refl (v u : Value) (gs : List G3) (hn : gs.length ≤ 1048576) (w : World) (h : GL w v gs) (h' : GL w u gs) :
    Calls Tryd.prog 51 #[v, u] w fun e w' => e = .returned (.bool true) ∧ Below w.heap.size w w' := by
  have H := Lib.hid h; have H' := Lib.hid h'
  obtain ⟨A, c, rfl⟩ := h.form
  obtain ⟨A', c', rfl⟩ := h'.form
  clear h h'
  have T0 : ((gs.length : Int) != (gs.length : Int)) = false := by simp
  have HB0 := Lib.hid (Below.refl w.heap.size w)
  go_enter Tryd.func51, Tryd.ntmps51
  go_wp2_with fail
  go_loopw [5] (fun i wr => ∃ k : Nat, i = .int .i64 k ∧ k ≤ gs.length ∧ Hid (Below w.heap.size w wr)) (fun i _ => gs.length - (intOf i).toNat)
  case atStart => exact ⟨0, rfl, Nat.zero_le _, HB0⟩
  case round =>
    obtain ⟨k, rfl, hk, HB⟩ := hrel
    clear HB0
    by_cases hlt : k < gs.length
    · obtain ⟨b, off, q, e, hlb, hgw, c0, c1, c2⟩ := (H.out.below HB.out).at k hlt
      cases e
      obtain ⟨b', off', q', e, hlb', hgw', d0, d1, d2⟩ := (H'.out.below HB.out).at k hlt
      cases e
      obtain ⟨x, hx⟩ : ∃ x, x = gs.getD k gz := ⟨_, rfl⟩
      rw [← hx] at c0 c1 c2 d0 d1 d2
      have R1 := range3 c0 c1 c2
      have R2 := range3 d0 d1 d2
      have T1 : decide ((k : Int) < (gs.length : Int)) = true := by simp; omega
      have i1 : (k : Int) < (gs.length : Int) := by omega
      clear c0 c1 c2 d0 d1 d2 hx hgw hgw'
      go_upto_region 6 with fail
      refine wp_region_still_tail 8 (by kernel_rfl) (by kernel_rfl) ?_
      simp only [List.take_succ_cons, List.take_zero, List.drop_succ_cons, List.drop_zero]
      still_step
      still_step
      still_step
      refine stillc_load rfl 67 _ rfl b _ rfl (gc x) _ R1 Tryd.underlying67 rfl (by kernel_rfl) ?_
      still_step
      still_step
      still_step
      refine stillc_load rfl 67 _ rfl b' _ rfl (gc x) _ R2 Tryd.underlying67 rfl (by kernel_rfl) ?_
      refine wpStill_nil ?_
      change wpList _ _ _ _ _ wr.drew
      go_wp2_with fail
      refine (eqGate_refl x _).mono ?_
      rintro e wn ⟨rfl, hb⟩
      have HB2 := Lib.hid (HB.out.trans (show Below w.heap.size wr wn from (Below.mk hb.os hb.tape hb.output hb.size hb.block : Below wr.heap.size wr wn).mono HB.out.size))
      clear hb R1 R2 HB
      go_wp2_with fail
      exact ⟨⟨k + 1, by go_num, by omega, HB2⟩, by simp [intOf]; omega⟩
    · obtain rfl : k = gs.length := by omega
      have T1 : decide ((gs.length : Int) < (gs.length : Int)) = false := by simp
      go_wp2_with fail
      go_ret
      exact ⟨rfl, HB.out⟩
set_option maxHeartbeats 1000000 in
theorem eqInt16S_refl (v u : Value) (os : List Int) (hn : os.length ≤ 1048576) (w : World) (h : IL w v os) (h' : IL w u os) :
    Calls Tryd.prog 52 #[v, u] w fun e w' => e = .returned (.bool true) ∧ Below w.heap.size w w' := by
  have H := Lib.hid h; have H' := Lib.hid h'
  obtain ⟨A, c, rfl⟩ := h.form
  obtain ⟨A', c', rfl⟩ := h'.form
  clear h h'
  have T0 : ((os.length : Int) != (os.length : Int)) = false := by simp
  have HB0 := Lib.hid (Below.refl w.heap.size w)
  go_enter Tryd.func52, Tryd.ntmps52
  go_wp2_with fail
  go_loopw [5] (fun i wr => ∃ k m : Nat, i = .int .i64 k ∧ k ≤ os.length ∧ wr = w.drewN m) (fun i _ => os.length - (intOf i).toNat)
  case atStart => exact ⟨0, 0, rfl, Nat.zero_le _, rfl⟩
  case round =>
    obtain ⟨k, m, rfl, hk, rfl⟩ := hrel
    by_cases hlt : k < os.length
    · obtain ⟨b, off, q, e, hlb, hgw, c0⟩ := H.out.at k hlt
      cases e
      obtain ⟨b', off', q', e, hlb', hgw', d0⟩ := H'.out.at k hlt
      cases e
      obtain ⟨x, hx⟩ : ∃ x, x = os.getD k 0 := ⟨_, rfl⟩
      rw [← hx] at c0 d0
      have T1 : decide ((k : Int) < (os.length : Int)) = true := by simp; omega
      have T2 : (x != x) = false := by simp
      have i1 : (k : Int) < (os.length : Int) := by omega
      clear hx hgw hgw'
      go_wp2_with fail
      go_quiet (fail)
      go_wp2_with fail
      exact ⟨⟨k + 1, m + nq, by go_num, by omega, rfl⟩, by simp [intOf]; omega⟩
    · obtain rfl : k = os.length := by omega
      have T1 : decide ((os.length : Int) < (os.length : Int)) = false := by simp
      go_wp2_with fail
      go_ret
      exact ⟨rfl, bdr HB0.out m⟩
set_option maxHeartbeats 1000000 in
theorem eqCircuit_refl (v u : Value) (n : Int) (gs : List G3) (os : List Int) (hn : gs.length + os.length ≤ 1048576) (w : World) (h : CI w v n gs os) (h' : CI w u n gs os) :
    Calls Tryd.prog 13 #[v, u] w fun e w' => e = .returned (.bool true) ∧ Below w.heap.size w w' := by
  obtain ⟨G, O, rfl, hn1, hg, ho⟩ := h
  obtain ⟨G', O', rfl, _, hg', ho'⟩ := h'
  have HG := Lib.hid hg; have HO := Lib.hid ho
  have HG' := Lib.hid hg'; have HO' := Lib.hid ho'
  obtain ⟨A, c, rfl⟩ := hg.form
  obtain ⟨A2, c2, rfl⟩ := ho.form
  obtain ⟨A', c', rfl⟩ := hg'.form
  obtain ⟨A2', c2', rfl⟩ := ho'.form
  clear hg ho hg' ho'
  have T0 : (n != n) = false := by simp
  go_enter Tryd.func13, Tryd.ntmps13
  go_wp2_with fail
  obtain ⟨a1, a2, a4, a5⟩ := nw2 w (.cells #[.int .i8 n, .slice A gs.length c, .slice A2 os.length c2] 30) (.cells #[.int .i8 n, .slice A' gs.length c', .slice A2' os.length c2'] 30)
  generalize World.alloc (World.alloc w _) _ = w3 at a1 a2 a4 a5 ⊢
  refine (eqGateS_refl _ _ gs (by omega) w3 (HG.out.below a4) (HG'.out.below a4)).mono ?_
  rintro e w4 ⟨rfl, hb4⟩
  have m1 : BX w4 w.heap.size _ _ _ := (BX.belowB ⟨_, a1⟩ hb4 (by omega))
  have m2 : BX w4 (w.heap.size + 1) _ _ _ := (BX.belowB ⟨_, a2⟩ hb4 (by omega))
  have k1 := m1.c2
  have k2 := m2.c2
  have HB4 := Lib.hid (a4.trans (hb4.mono (by omega)))
  clear a1 a2 a4 hb4 m1 m2
  go_wp2_with fail
  refine (eqInt16S_refl _ _ os (by omega) w4 (HO.out.below HB4.out) (HO'.out.below HB4.out)).mono ?_
  rintro e w5 ⟨rfl, hb5⟩
  have HB5 := Lib.hid (HB4.out.trans (hb5.mono HB4.out.size))
  clear hb5 k1 k2
  go_wp2_with fail
  go_ret
  exact ⟨rfl, HB5.out⟩
end Go.Proofs.YtedcfmdgcafnmaaDoor
