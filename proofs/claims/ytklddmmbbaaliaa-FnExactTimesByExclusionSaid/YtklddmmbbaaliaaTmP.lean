/-
  Products by exclusion: the program's own function.
-/
import Derived.Test.YtklddmmbbaaliaaTmI
namespace Go.Proofs.Ytklddmmbbaaliaa
set_option linter.unusedVariables false
set_option linter.unusedSimpArgs false
open Go.ChangeShapes Go.WideShapes Go.ChangeAt Go.RowKit
open Go.WideMaps Go.Maps
section
variable {P : Program} {o : Oper} {a : Act} {w w' : World} {K : Act → World → Prop} {Q : Exit → Act → World → Prop}
theorem wp_look {t : TypeId} {m x : Operand} {mv key v : Value} (hop : o.op = .lookup t m x false) (hm : a.eval m = mv) (hx : a.eval x = key)
    (hrun : (Instr.lookup t mv key false).run P w = .ok v w) (hK : K (a.put o.dst v) w) : o.wp P a w K Q := by
  unfold Oper.wp
  simp [execOp, hop, hm, hx, hrun, Result.andThen]
  exact hK
theorem wp_mapU {t : TypeId} {m x y : Operand} {mv key v : Value} (hop : o.op = .mapUpdate t m x y) (hm : a.eval m = mv) (hx : a.eval x = key) (hy : a.eval y = v)
    (hrun : (Instr.mapUpdate t mv key v).run P w = .ok () w') (hK : K (a.put o.dst undef) w') : o.wp P a w K Q := by
  unfold Oper.wp
  simp [execOp, hop, hm, hx, hy, hrun, Result.andThen]
  exact hK
end
theorem cell_one_at {w : World} {h : Nat} {x : Value} {t : TypeId} {fr : Nat × Nat} (hc : w.heap[h]? = some (.cells #[x] t fr)) : ∀ j u, [x][j]? = some u → w.cell? ((⟨h, 0, none⟩ : Addr).add j) = some u := by
  intro j u hj
  obtain rfl : j = 0 := by
    rcases j with _ | j
    · rfl
    · simp at hj
  simp at hj
  subst hj
  simp [Addr.add, World.cell?, hc]
theorem bstep {B : Nat} {w u v : World} (h1 : Below B w u) (h2 : Below u.heap.size u v) (h : B ≤ u.heap.size) : Below B w v := h1.trans (h2.mono h)
theorem fin_row {wr : World} {B a b : Nat} {v : Value} (ha : a < 32) (hb : b < 32) (hoi : wr.ownsInts (B + 1) 30 .u16 v (rowT a (b + 1))) :
    ∃ g o c, v = .slice (some ⟨g, o, none⟩) (b + 1) c ∧ wr.cell? ⟨g, o + b, none⟩ = some (.int .u16 ((TT a b : Nat) : Int)) := by
  obtain ⟨A, c, rfl, _, hc⟩ := NS.of_own hoi.1 (rowT_b a (b + 1) ha (by omega))
  rw [rowT_len] at hc ⊢
  obtain ⟨g, o, rfl, _, h⟩ := hc (by omega)
  exact ⟨g, o, c, rfl, by rw [h b (by omega), rowT_at a (b + 1) b (by omega)]⟩
set_option maxRecDepth 100000 in
set_option maxHeartbeats 4000000 in
theorem impl_Tbe (a b : Nat) (ha : a < 32) (hb : b < 32) (w : World) :
    Calls Try.prog 10 #[.int .u16 (a : Int), .int .u16 (b : Int)] w fun e w' => e = .returned (.tuple #[.int .u16 ((TT a b : Nat) : Int), .int .i64 0]) ∧ Below w.heap.size w w' := by
  have t1 : decide ((31 : Int) < (a : Int)) = false := by simp; omega
  have t2 : decide ((31 : Int) < (b : Int)) = false := by simp; omega
  have hmm := @run_makeMap Try.prog
  obtain ⟨i0, hi, hz0, hz1, hz2⟩ := info_parts info25
  obtain ⟨a1, ha1⟩ : ∃ a1, a1 = a + 1 := ⟨_, rfl⟩
  obtain ⟨b1, hb1⟩ : ∃ b1, b1 = b + 1 := ⟨_, rfl⟩
  have HA1 := Lib.hid ha1; have HB1 := Lib.hid hb1
  clear ha1 hb1
  obtain ⟨B, hB⟩ : ∃ B, B = w.heap.size := ⟨_, rfl⟩
  have o0 : OG (w.alloc (.map #[] 0)) w.heap.size 0 (.map []) := World.ownsGroups_made _ _ _ _ _
  have o1 : Below w.heap.size w (w.alloc (.map #[] 0)) := (Below.refl _ _).alloc (Nat.le_refl _) _
  have o2 : w.heap.size + 1 ≤ (w.alloc (.map #[] 0)).heap.size := by simp
  go_enter Try.func10, Try.ntmps10
  go_upto_region 4 with fail
  rw [← hB] at o0 o1 o2 ⊢
  generalize w.alloc (.map #[] 0) = wA at o0 o1 o2 ⊢
  have HB := Lib.hid hB
  have H0 := Lib.hid o0; have H1 := Lib.hid o1; have H2 := Lib.hid o2
  clear hB o0 o1 o2 hmm
  go_wp2_with fail
  go_loopw [18] (fun p wr => ∃ (i : Nat) (D : DataW Unit), p = .int .u16 i ∧ i ≤ a1 ∧ Hid (OG wr B (i * b1) D) ∧ Hid (MD D (fl b1 i 0)) ∧ Hid (Below B w wr) ∧ Hid (B + 1 ≤ wr.heap.size)) (fun p _ => a1 - (intOf p).toNat)
  case atStart => exact ⟨0, _, rfl, Nat.zero_le _, Lib.hid (by rw [Nat.zero_mul]; exact H0.out), Lib.hid (by rw [fl_zero]; exact MD_zero), H1, H2⟩
  case round =>
    clear H0 H1 H2
    obtain ⟨i, D, rfl, hi1, HO, HM, HBL, HSZ⟩ := hrel
    by_cases hia : i < a1
    · have T1 : decide ((i : Int) < (a : Int) + 1) = true := by have := HA1.out; simp; omega
      have hi32 : i < 32 := by have := HA1.out; omega
      go_wp2_with fail
      go_loopw [23] (fun p wr => ∃ (m : Nat) (D : DataW Unit), p = .int .u16 m ∧ m ≤ b1 ∧ Hid (OG wr B (i * b1 + m) D) ∧ Hid (MD D (fl b1 i m)) ∧ Hid (Below B w wr) ∧ Hid (B + 1 ≤ wr.heap.size)) (fun p _ => b1 - (intOf p).toNat)
      case atStart => exact ⟨0, D, rfl, Nat.zero_le _, HO, HM, HBL, HSZ⟩
      case round =>
        clear HO HM HBL HSZ
        obtain ⟨m, D, rfl, hm, HO, HM, HBL, HSZ⟩ := hrel
        by_cases hlt : m < b1
        · have T2 : decide ((m : Int) < (b : Int) + 1) = true := by have := HB1.out; simp; omega
          have hm32 : m < 32 := by have := HB1.out; omega
          have hmul : i * b1 ≤ 31 * 32 := Nat.mul_le_mul (by have := HA1.out; omega) (by have := HB1.out; omega)
          have hcnt : i * b1 + m < maxLen := by unfold maxLen; omega
          have HD := HM
          go_upto_region 10 with fail
          refine wp_region_held_drew (S := fun _ => True) (by kernel_rfl) ?hS0 (fun hS => ?_)
          case hS0 => trivial
          have hown : OG wr.drew B (i * b1 + m) D := HO.out
          have hB0 : Below B w wr.drew := HBL.out.drew
          have hsz0 : B + 1 ≤ wr.drew.heap.size := HSZ.out
          clear HO HBL HSZ HM
          generalize wr.drew = wd at hown hB0 hsz0 ⊢
          refine takeH (i := 0) (v := ?v0) rfl rfl (by kernel_rfl) (by kernel_rfl) (by kernel_rfl) (fun _ _ _ h => h) rfl ?hy0 hS ?rs0
          case hy0 => (intro wq hq; go_simp; try (with_reducible rfl))
          simp only [Act.put, List.setIfInBounds_toArray, List.set_cons_zero, List.set_cons_succ]
          refine takeH (i := 1) (v := ?v1) rfl rfl (by kernel_rfl) (by kernel_rfl) (by kernel_rfl) (fun _ _ _ h => h) rfl ?hy1 hS ?rs1
          case hy1 => (intro wq hq; go_simp; try (with_reducible rfl))
          simp only [Act.put, List.setIfInBounds_toArray, List.set_cons_zero, List.set_cons_succ]
          refine takeH (i := 2) (v := ?v2) rfl rfl (by kernel_rfl) (by kernel_rfl) (by kernel_rfl) (fun _ _ _ h => h) rfl ?hy2 hS ?rs2
          case hy2 => (intro wq hq; go_simp; try (with_reducible rfl))
          simp only [Act.put, List.setIfInBounds_toArray, List.set_cons_zero, List.set_cons_succ]
          refine takeH (i := 3) (v := ?v3) rfl rfl (by kernel_rfl) (by kernel_rfl) (by kernel_rfl) (fun _ _ _ h => h) rfl ?hy3 hS ?rs3
          case hy3 => (intro wq hq; go_simp; try (with_reducible rfl))
          simp only [Act.put, List.setIfInBounds_toArray, List.set_cons_zero, List.set_cons_succ]
          refine takeH (i := 5) (v := ?v5) rfl rfl (by kernel_rfl) (by kernel_rfl) (by kernel_rfl) (fun _ _ _ h => h) rfl ?hy5 hS ?rs5
          case hy5 => (intro wq hq; go_simp; try (with_reducible rfl))
          simp only [Act.put, List.setIfInBounds_toArray, List.set_cons_zero, List.set_cons_succ]
          refine takeH (i := 6) (v := ?v6) rfl rfl (by kernel_rfl) (by kernel_rfl) (by kernel_rfl) (fun _ _ _ h => h) rfl ?hy6 hS ?rs6
          case hy6 => (intro wq hq; go_simp; try (with_reducible rfl))
          simp only [Act.put, List.setIfInBounds_toArray, List.set_cons_zero, List.set_cons_succ]
          refine takeH (i := 7) (v := ?v7) rfl rfl (by kernel_rfl) (by kernel_rfl) (by kernel_rfl) (fun _ _ _ h => h) rfl ?hy7 hS ?rs7
          case hy7 => (intro wq hq; go_simp; try (with_reducible rfl))
          simp only [Act.put, List.setIfInBounds_toArray, List.set_cons_zero, List.set_cons_succ]
          refine wpAnyH_ready (rs := [4, 8]) (by kernel_rfl) (by simp) ?_
          refine AllReadyH.cons rfl (fun K hK => ?_) (AllReadyH.cons rfl (fun K hK => ?_) AllReadyH.nil)
          · skip
            simp only [List.getElem_toArray, List.getElem_cons_zero, List.getElem_cons_succ]
            rw [if_pos (by rfl)]
            obtain ⟨v, zs, hrun, hat, hoi, hzl, hback⟩ := World.ownsGroups.at hown lawN um (zeroN _) hcnt (keyN i (by omega))
            refine wp_look rfl rfl rfl hrun ?_
            refine hK.out _ _ trivial (fun hS => ?_)
            clear hK hrun
            try simp only [Act.put, List.setIfInBounds_toArray, List.set_cons_zero, List.set_cons_succ]
            obtain rfl := look_row HD.out hat hoi
            rw [fl_at] at hoi hzl
            clear hat
            refine wpAnyH_ready (rs := [8]) (by kernel_rfl) (by simp) ?_
            refine AllReadyH.cons rfl (fun K hK => ?_) AllReadyH.nil
            go_simp
            refine (leastProduct_any i m b1 B (i * b1 + m) D (by omega) hlt (by have := HB1.out; omega) _ hown hcnt HD.out).mono ?_
            rintro e wn ⟨rfl, hbn⟩
            refine hK.out _ _ trivial (fun hS => ?_)
            clear hK
            try simp only [Act.put, List.setIfInBounds_toArray, List.set_cons_zero, List.set_cons_succ]
            have hszn := Nat.le_trans hsz0 hbn.size
            have hoi2 : wn.ownsRow (B + 1) 30 1 v m (u16s (rowT i m)) := by have := (hoi.kept (grown_of hbn none) (by cases v.ownBlock <;> simp)).1; rw [rowT_len] at this; exact this
            refine wpAnyH_ready (rs := [9]) (by kernel_rfl) (by simp) ?_
            refine AllReadyH.cons rfl (fun K hK => ?_) AllReadyH.nil
            go_simp
            refine hK.out _ _ trivial (fun hS => ?_)
            clear hK
            try simp only [Act.put, List.setIfInBounds_toArray, List.set_cons_zero, List.set_cons_succ]
            refine wpAnyH_ready (rs := [10]) (by kernel_rfl) (by simp) ?_
            refine AllReadyH.cons rfl (fun K hK => ?_) AllReadyH.nil
            simp only [List.getElem_toArray, List.getElem_cons_zero, List.getElem_cons_succ]
            rw [if_pos (by rfl)]
            refine wp_append_lies _ _ _ 25 rfl (B + 1) 30 i0 (.int .u16 0) 1 2 ul hi hz0 hz1 hz2 rfl (by decide) _ m _ rfl (hoi2.alloc _) ⟨wn.heap.size, 0, none⟩ 1 1 [.int .u16 ((TT i m : Nat) : Int)] rfl rfl ?c1 ?c2 (by decide) ?c3 ?c4 ?c5 _ rfl ?_
            try case c1 => exact cell_one_new _ _ _
            try case c2 => (first | (simp [Value.oneCell']) | omega | (rw [World.size_alloc]; omega))
            try case c3 => (first | (unfold maxLen; omega) | omega | (rw [World.size_alloc]; omega))
            try case c4 => (first | (omega) | omega | (rw [World.size_alloc]; omega))
            try case c5 => (first | (rw [World.size_alloc]; omega) | omega | (rw [World.size_alloc]; omega))
            intro g3 cap3 wz p4 hgr hloc hl
            refine hK.out _ _ trivial (fun hS => ?_)
            clear hK
            try simp only [Act.put, List.setIfInBounds_toArray, List.set_cons_zero, List.set_cons_succ]
            have p5 : wz.ownsInts (B + 1) 30 .u16 (.slice (some ⟨g3, 0, none⟩) (m + 1) cap3) (rowT i (m + 1)) := by
              rw [rowT_snoc]
              refine ⟨?_, fun z hz => ?_⟩
              · have e : u16s (rowT i m ++ [((TT i m : Nat) : Int)]) = u16s (rowT i m) ++ [.int .u16 ((TT i m : Nat) : Int)] := by simp [u16s]
                show wz.ownsRow (B + 1) _ 1 _ _ (u16s (rowT i m ++ [((TT i m : Nat) : Int)]))
                rw [e, List.length_append, rowT_len]; exact p4
              · rw [← rowT_snoc] at hz
                exact WalkArith.wf_u16 (by have := rowT_b i (m + 1) (by omega) (by omega) z hz; omega)
            have hall : wd.grownBy wz v.ownBlock := (grown_of hbn _).trans ((World.grownBy_alloc _ _ _).trans hgr)
            obtain ⟨w2, hrun2, hown2, hgr2⟩ := hback wz _ (rowT i (m + 1)) hall p5 (by rw [rowT_len]; omega) (hloc.elim (fun h => .inl h.symm) (fun h => .inr ⟨g3, rfl, by rw [h, World.size_alloc]; have := hbn.size; omega⟩))
            have hown3 : OG w2 B (i * b1 + (m + 1)) (D.put (.int .u16 (i : Int)) (.slice (lits .u16 (rowT i (m + 1))) [])) := hown2
            have hMD := fl_step HD.out
            have hB2 : Below B w w2 := hB0.groups hoi hall hgr2 (by omega) (Nat.le_succ _) (Nat.le_refl _)
            have hS2 : B + 1 ≤ w2.heap.size := by have := hall.size; have := hgr2.size; omega
            refine wpAnyH_ready (rs := [11]) (by kernel_rfl) (by simp) ?_
            refine AllReadyH.cons rfl (fun K hK => ?_) AllReadyH.nil
            simp only [List.getElem_toArray, List.getElem_cons_zero, List.getElem_cons_succ]
            rw [if_pos (by rfl)]
            refine wp_mapU rfl rfl rfl rfl hrun2 ?_
            refine hK.out _ _ trivial (fun hS => ?_)
            clear hK
            try simp only [Act.put, List.setIfInBounds_toArray, List.set_cons_zero, List.set_cons_succ]
            have HO := Lib.hid hown3; have HM2 := Lib.hid hMD; have HB2 := Lib.hid hB2; have HS2 := Lib.hid hS2
            clear hown3 hMD hB2 hS2 hrun2 hown2 hgr2 hall p4 p5 hgr hloc hl hoi hoi2 hzl hback
            refine wpAnyH_done (by kernel_rfl) ?_ _
            trace_state
            go_wp2_with fail
            go_roundw
            case rel =>
              exact ⟨m + 1, _, by go_num, by omega, HO, HM2, HB2, HS2⟩
            case measure => simp [intOf]; omega
          · skip
            go_simp
            refine (leastProduct_any i m b1 B (i * b1 + m) D (by omega) hlt (by have := HB1.out; omega) _ hown hcnt HD.out).mono ?_
            rintro e wn ⟨rfl, hbn⟩
            refine hK.out _ _ trivial (fun hS => ?_)
            clear hK
            try simp only [Act.put, List.setIfInBounds_toArray, List.set_cons_zero, List.set_cons_succ]
            have hown := hown.below hbn
            have hB0 := bstep hB0 hbn (by omega)
            have hsz0 := Nat.le_trans hsz0 hbn.size
            refine wpAnyH_ready (rs := [4, 9]) (by kernel_rfl) (by simp) ?_
            refine AllReadyH.cons rfl (fun K hK => ?_) (AllReadyH.cons rfl (fun K hK => ?_) AllReadyH.nil)
            · skip
              simp only [List.getElem_toArray, List.getElem_cons_zero, List.getElem_cons_succ]
              rw [if_pos (by rfl)]
              obtain ⟨v, zs, hrun, hat, hoi, hzl, hback⟩ := World.ownsGroups.at hown lawN um (zeroN _) hcnt (keyN i (by omega))
              refine wp_look rfl rfl rfl hrun ?_
              refine hK.out _ _ trivial (fun hS => ?_)
              clear hK hrun
              try simp only [Act.put, List.setIfInBounds_toArray, List.set_cons_zero, List.set_cons_succ]
              obtain rfl := look_row HD.out hat hoi
              rw [fl_at] at hoi hzl
              clear hat
              have hoi2 : wn.ownsRow (B + 1) 30 1 v m (u16s (rowT i m)) := by have := hoi.1; rw [rowT_len] at this; exact this
              refine wpAnyH_ready (rs := [9]) (by kernel_rfl) (by simp) ?_
              refine AllReadyH.cons rfl (fun K hK => ?_) AllReadyH.nil
              go_simp
              refine hK.out _ _ trivial (fun hS => ?_)
              clear hK
              try simp only [Act.put, List.setIfInBounds_toArray, List.set_cons_zero, List.set_cons_succ]
              refine wpAnyH_ready (rs := [10]) (by kernel_rfl) (by simp) ?_
              refine AllReadyH.cons rfl (fun K hK => ?_) AllReadyH.nil
              simp only [List.getElem_toArray, List.getElem_cons_zero, List.getElem_cons_succ]
              rw [if_pos (by rfl)]
              refine wp_append_lies _ _ _ 25 rfl (B + 1) 30 i0 (.int .u16 0) 1 2 ul hi hz0 hz1 hz2 rfl (by decide) _ m _ rfl (hoi2.alloc _) ⟨wn.heap.size, 0, none⟩ 1 1 [.int .u16 ((TT i m : Nat) : Int)] rfl rfl ?d1 ?d2 (by decide) ?d3 ?d4 ?d5 _ rfl ?_
              try case d1 => exact cell_one_new _ _ _
              try case d2 => (first | (simp [Value.oneCell']) | omega | (rw [World.size_alloc]; omega))
              try case d3 => (first | (unfold maxLen; omega) | omega | (rw [World.size_alloc]; omega))
              try case d4 => (first | (omega) | omega | (rw [World.size_alloc]; omega))
              try case d5 => (first | (rw [World.size_alloc]; omega) | omega | (rw [World.size_alloc]; omega))
              intro g3 cap3 wz p4 hgr hloc hl
              refine hK.out _ _ trivial (fun hS => ?_)
              clear hK
              try simp only [Act.put, List.setIfInBounds_toArray, List.set_cons_zero, List.set_cons_succ]
              have p5 : wz.ownsInts (B + 1) 30 .u16 (.slice (some ⟨g3, 0, none⟩) (m + 1) cap3) (rowT i (m + 1)) := by
                rw [rowT_snoc]
                refine ⟨?_, fun z hz => ?_⟩
                · have e : u16s (rowT i m ++ [((TT i m : Nat) : Int)]) = u16s (rowT i m) ++ [.int .u16 ((TT i m : Nat) : Int)] := by simp [u16s]
                  show wz.ownsRow (B + 1) _ 1 _ _ (u16s (rowT i m ++ [((TT i m : Nat) : Int)]))
                  rw [e, List.length_append, rowT_len]; exact p4
                · rw [← rowT_snoc] at hz
                  exact WalkArith.wf_u16 (by have := rowT_b i (m + 1) (by omega) (by omega) z hz; omega)
              have hall : wn.grownBy wz v.ownBlock := (World.grownBy_alloc _ _ _).trans hgr
              obtain ⟨w2, hrun2, hown2, hgr2⟩ := hback wz _ (rowT i (m + 1)) hall p5 (by rw [rowT_len]; omega) (hloc.elim (fun h => .inl h.symm) (fun h => .inr ⟨g3, rfl, by rw [h, World.size_alloc]; omega⟩))
              have hown3 : OG w2 B (i * b1 + (m + 1)) (D.put (.int .u16 (i : Int)) (.slice (lits .u16 (rowT i (m + 1))) [])) := hown2
              have hMD := fl_step HD.out
              have hB2 : Below B w w2 := hB0.groups hoi hall hgr2 (by omega) (Nat.le_succ _) (Nat.le_refl _)
              have hS2 : B + 1 ≤ w2.heap.size := by have := hall.size; have := hgr2.size; omega
              refine wpAnyH_ready (rs := [11]) (by kernel_rfl) (by simp) ?_
              refine AllReadyH.cons rfl (fun K hK => ?_) AllReadyH.nil
              simp only [List.getElem_toArray, List.getElem_cons_zero, List.getElem_cons_succ]
              rw [if_pos (by rfl)]
              refine wp_mapU rfl rfl rfl rfl hrun2 ?_
              refine hK.out _ _ trivial (fun hS => ?_)
              clear hK
              try simp only [Act.put, List.setIfInBounds_toArray, List.set_cons_zero, List.set_cons_succ]
              have HO := Lib.hid hown3; have HM2 := Lib.hid hMD; have HB2 := Lib.hid hB2; have HS2 := Lib.hid hS2
              clear hown3 hMD hB2 hS2 hrun2 hown2 hgr2 hall p4 p5 hgr hloc hl hoi hoi2 hzl hback
              refine wpAnyH_done (by kernel_rfl) ?_ _
              trace_state
              go_wp2_with fail
              go_roundw
              case rel =>
                exact ⟨m + 1, _, by go_num, by omega, HO, HM2, HB2, HS2⟩
              case measure => simp [intOf]; omega
            · skip
              go_simp
              refine hK.out _ _ trivial (fun hS => ?_)
              clear hK
              try simp only [Act.put, List.setIfInBounds_toArray, List.set_cons_zero, List.set_cons_succ]
              obtain ⟨hA, hhA⟩ : ∃ h, h = wn.heap.size := ⟨_, rfl⟩
              have hcell : (wn.alloc (.cells #[.int .u16 ((TT i m : Nat) : Int)] 30)).heap[hA]? = some (.cells #[.int .u16 ((TT i m : Nat) : Int)] 30 (0, 0)) := by rw [hhA]; exact heap_alloc_last _ _
              have hown := hown.below ((Below.refl _ wn).alloc (Nat.le_refl _) (.cells #[.int .u16 ((TT i m : Nat) : Int)] 30))
              have hB0 := hB0.alloc (by omega) (.cells #[.int .u16 ((TT i m : Nat) : Int)] 30)
              have hsz0 : B + 1 ≤ (wn.alloc (.cells #[.int .u16 ((TT i m : Nat) : Int)] 30)).heap.size := by rw [World.size_alloc]; omega
              rw [← hhA]
              generalize wn.alloc (.cells #[.int .u16 ((TT i m : Nat) : Int)] 30) = wm at hcell hown hB0 hsz0 ⊢
              refine wpAnyH_ready (rs := [4]) (by kernel_rfl) (by simp) ?_
              refine AllReadyH.cons rfl (fun K hK => ?_) AllReadyH.nil
              simp only [List.getElem_toArray, List.getElem_cons_zero, List.getElem_cons_succ]
              rw [if_pos (by rfl)]
              obtain ⟨v, zs, hrun, hat, hoi, hzl, hback⟩ := World.ownsGroups.at hown lawN um (zeroN _) hcnt (keyN i (by omega))
              refine wp_look rfl rfl rfl hrun ?_
              refine hK.out _ _ trivial (fun hS => ?_)
              clear hK hrun
              try simp only [Act.put, List.setIfInBounds_toArray, List.set_cons_zero, List.set_cons_succ]
              obtain rfl := look_row HD.out hat hoi
              rw [fl_at] at hoi hzl
              clear hat
              have hoi2 : wm.ownsRow (B + 1) 30 1 v m (u16s (rowT i m)) := by have := hoi.1; rw [rowT_len] at this; exact this
              refine wpAnyH_ready (rs := [10]) (by kernel_rfl) (by simp) ?_
              refine AllReadyH.cons rfl (fun K hK => ?_) AllReadyH.nil
              simp only [List.getElem_toArray, List.getElem_cons_zero, List.getElem_cons_succ]
              rw [if_pos (by rfl)]
              refine wp_append_lies _ _ _ 25 rfl (B + 1) 30 i0 (.int .u16 0) 1 2 ul hi hz0 hz1 hz2 rfl (by decide) _ m _ rfl hoi2 ⟨hA, 0, none⟩ 1 1 [.int .u16 ((TT i m : Nat) : Int)] rfl rfl ?e1 ?e2 (by decide) ?e3 ?e4 ?e5 _ rfl ?_
              try case e1 => exact cell_one_at hcell
              try case e2 => (first | (simp [Value.oneCell']) | omega | (rw [World.size_alloc]; omega))
              try case e3 => (first | (unfold maxLen; omega) | omega | (rw [World.size_alloc]; omega))
              try case e4 => (first | (omega) | omega | (rw [World.size_alloc]; omega))
              try case e5 => (first | (rw [World.size_alloc]; omega) | omega | (rw [World.size_alloc]; omega))
              intro g3 cap3 wz p4 hgr hloc hl
              refine hK.out _ _ trivial (fun hS => ?_)
              clear hK
              try simp only [Act.put, List.setIfInBounds_toArray, List.set_cons_zero, List.set_cons_succ]
              have p5 : wz.ownsInts (B + 1) 30 .u16 (.slice (some ⟨g3, 0, none⟩) (m + 1) cap3) (rowT i (m + 1)) := by
                rw [rowT_snoc]
                refine ⟨?_, fun z hz => ?_⟩
                · have e : u16s (rowT i m ++ [((TT i m : Nat) : Int)]) = u16s (rowT i m) ++ [.int .u16 ((TT i m : Nat) : Int)] := by simp [u16s]
                  show wz.ownsRow (B + 1) _ 1 _ _ (u16s (rowT i m ++ [((TT i m : Nat) : Int)]))
                  rw [e, List.length_append, rowT_len]; exact p4
                · rw [← rowT_snoc] at hz
                  exact WalkArith.wf_u16 (by have := rowT_b i (m + 1) (by omega) (by omega) z hz; omega)
              have hall : wm.grownBy wz v.ownBlock := hgr
              obtain ⟨w2, hrun2, hown2, hgr2⟩ := hback wz _ (rowT i (m + 1)) hall p5 (by rw [rowT_len]; omega) (hloc.elim (fun h => .inl h.symm) (fun h => .inr ⟨g3, rfl, by rw [h]; omega⟩))
              have hown3 : OG w2 B (i * b1 + (m + 1)) (D.put (.int .u16 (i : Int)) (.slice (lits .u16 (rowT i (m + 1))) [])) := hown2
              have hMD := fl_step HD.out
              have hB2 : Below B w w2 := hB0.groups hoi hall hgr2 (by omega) (Nat.le_succ _) (Nat.le_refl _)
              have hS2 : B + 1 ≤ w2.heap.size := by have := hall.size; have := hgr2.size; omega
              refine wpAnyH_ready (rs := [11]) (by kernel_rfl) (by simp) ?_
              refine AllReadyH.cons rfl (fun K hK => ?_) AllReadyH.nil
              simp only [List.getElem_toArray, List.getElem_cons_zero, List.getElem_cons_succ]
              rw [if_pos (by rfl)]
              refine wp_mapU rfl rfl rfl rfl hrun2 ?_
              refine hK.out _ _ trivial (fun hS => ?_)
              clear hK
              try simp only [Act.put, List.setIfInBounds_toArray, List.set_cons_zero, List.set_cons_succ]
              have HO := Lib.hid hown3; have HM2 := Lib.hid hMD; have HB2 := Lib.hid hB2; have HS2 := Lib.hid hS2
              clear hown3 hMD hB2 hS2 hrun2 hown2 hgr2 hall p4 p5 hgr hloc hl hoi hoi2 hzl hback
              refine wpAnyH_done (by kernel_rfl) ?_ _
              trace_state
              go_wp2_with fail
              go_roundw
              case rel =>
                exact ⟨m + 1, _, by go_num, by omega, HO, HM2, HB2, HS2⟩
              case measure => simp [intOf]; omega
        · obtain rfl : m = b1 := by omega
          have T2 : decide ((m : Int) < (b : Int) + 1) = false := by have := HB1.out; simp; omega
          go_wp2_with fail
          exact ⟨⟨i + 1, D, by go_num, by omega, Lib.hid (by rw [Nat.add_mul, Nat.one_mul]; exact HO.out), Lib.hid (by rw [← fl_next]; exact HM.out), HBL, HSZ⟩, by simp [intOf]; omega⟩
    · obtain rfl : i = a1 := by omega
      have T1 : decide ((i : Int) < (a : Int) + 1) = false := by have := HA1.out; simp; omega
      have hown := HO.out
      have hcnt : i * b1 < maxLen := by
        have e1 := HA1.out
        have e2 := HB1.out
        have : i * b1 ≤ 32 * 32 := Nat.mul_le_mul (by omega) (by omega)
        unfold maxLen; omega
      have i1 : (b : Int) < ((b + 1 : Nat) : Int) := by omega
      go_wp2_with (first | (at_lookup; refine wpList_lookup_groups _ rfl _ _ 40 rfl 30 25 30 .u16 lawN um (zeroN _) (B + 1) B (i * b1) D rfl hown hcnt _ _ rfl (keyN a (by omega)) ?_; intro v zs hat hoi hzl hback; obtain rfl := look_row HM.out hat hoi; rw [fl_low (by have := HA1.out; omega), HB1.out] at hoi; clear hat hback hzl hown; obtain ⟨gf, of, cf, rfl, hcf⟩ := fin_row ha hb hoi; clear hoi))
      go_ret2
      exact ⟨rfl, by have := HBL.out; rw [HB.out] at this; exact this⟩
end Go.Proofs.Ytklddmmbbaaliaa
