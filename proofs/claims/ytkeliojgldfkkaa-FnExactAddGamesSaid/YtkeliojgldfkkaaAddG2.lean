/-
  AddGames, of the program.
-/
import Derived.Test.YtkeliojgldfkkaaAddG
namespace Go.Proofs.Ytkeliojgldfkkaa
set_option linter.unusedVariables false
set_option linter.unusedSimpArgs false
open Go.ChangeShapes Go.WideShapes Go.ChangeAt Go.RowKit Go.Deep

theorem plus1_any (n ba oa cA g : Nat) (p q : Int) (h0 : 0 ≤ (n : Int) * q) (h1 : (n : Int) * q ≤ 60) (s0 : 0 ≤ p + (n : Int) * q) (s1 : p + (n : Int) * q < 60) (w : World) (h : w.cell? ⟨g, 0, none⟩ = some (.slice (some ⟨ba, oa, none⟩) n cA)) :
    Calls Try.prog 36 #[.int .i64 p, .int .i64 q, .pointer (some ⟨g, 0, none⟩)] w fun e w' => e = .returned (.int .i8 (p + (n : Int) * q)) ∧ w' = w := by
  have cv := conv8' _ s0 s1
  go_enter Try.func36, Try.ntmps36
  go_wp2_with fail
  go_ret
  exact ⟨rfl, rfl⟩
theorem OGU.low {U : Nat → Value} {B B' : Nat} {w : World} {v : Value} {gs : List (List Int)} (h : OGU U B w v gs) (hB : B' ≤ B) : OGU U B' w v gs := by
  have lo : ∀ {e s n : Nat} {v : Value} {xs : List Value}, w.ownsRow B e s v n xs → w.ownsRow B' e s v n xs := by
    intro e s n v xs h
    refine ⟨h.1, ?_⟩
    rcases h.2 with q | ⟨g, c, cur, q1, q2, q3⟩
    · exact .inl q
    · exact .inr ⟨g, c, cur, q1, Nat.le_trans hB q2, q3⟩
  exact ⟨lo h.outer, fun i hi => lo (h.rows i hi), h.small, h.apart⟩
set_option maxRecDepth 100000 in
set_option maxHeartbeats 4000000 in
theorem plus_any (A B : List (List Int)) (ba oa cA bb ob cB : Nat) (vA : (1 ≤ A.length ∧ A.length ≤ 60) ∧ ∀ i, i < A.length → rowOk i (A.getD i [])) (vB : (1 ≤ B.length ∧ B.length ≤ 60) ∧ ∀ i, i < B.length → rowOk i (B.getD i []))
    (hNM : A.length * B.length ≤ 60) (wc : World) (hlA0 : ba < wc.heap.size) (hlB0 : bb < wc.heap.size)
    (hcA : ∀ i, i < A.length → ∃ u, wc.cell? ⟨ba, oa + i, none⟩ = some u ∧ R8 0 wc u (A.getD i [])) (hcB : ∀ i, i < B.length → ∃ u, wc.cell? ⟨bb, ob + i, none⟩ = some u ∧ R8 0 wc u (B.getD i [])) :
    Calls Try.prog 34 #[.slice (some ⟨ba, oa, none⟩) A.length cA, .slice (some ⟨bb, ob, none⟩) B.length cB] wc fun e w' => ∃ v U, e = .returned v ∧ OGU U wc.heap.size w' v (addL A B (B.length * A.length)) ∧ Below wc.heap.size wc w' := by
  obtain ⟨i8, h8, h80, h81, h82⟩ := info_parts info8
  obtain ⟨ir, hr, hr0, hr1, hr2⟩ := info_parts infoRow8
  have HNM := Lib.hid hNM
  have HVA := Lib.hid vA
  have HVB := Lib.hid vB
  obtain ⟨⟨a1, a2⟩, _⟩ := vA
  obtain ⟨⟨b1, b2⟩, _⟩ := vB
  have hb0 : Below wc.heap.size wc (wc.alloc (.cells #[.slice (some ⟨ba, oa, none⟩) A.length cA] 25)) := (Below.refl _ _).alloc (Nat.le_refl _) _
  have hbox : (wc.alloc (.cells #[.slice (some ⟨ba, oa, none⟩) A.length cA] 25)).cell? ⟨wc.heap.size, 0, none⟩ = some (.slice (some ⟨ba, oa, none⟩) A.length cA) := cell_of_row _ _ _ _ _ _ (heap_alloc_new wc _)
  have hsz : (wc.alloc (.cells #[.slice (some ⟨ba, oa, none⟩) A.length cA] 25)).heap.size = wc.heap.size + 1 := World.size_alloc _ _
  have hcA' : ∀ i, i < A.length → ∃ u, (wc.alloc (.cells #[.slice (some ⟨ba, oa, none⟩) A.length cA] 25)).cell? ⟨ba, oa + i, none⟩ = some u ∧ R8 0 (wc.alloc (.cells #[.slice (some ⟨ba, oa, none⟩) A.length cA] 25)) u (A.getD i []) := fun i hi => by
    obtain ⟨u, x1, x2⟩ := hcA i hi
    exact ⟨u, (hb0.cell (p := ⟨ba, oa + i, none⟩) hlA0).trans x1, x2.below hb0⟩
  have hcB' : ∀ i, i < B.length → ∃ u, (wc.alloc (.cells #[.slice (some ⟨ba, oa, none⟩) A.length cA] 25)).cell? ⟨bb, ob + i, none⟩ = some u ∧ R8 0 (wc.alloc (.cells #[.slice (some ⟨ba, oa, none⟩) A.length cA] 25)) u (B.getD i []) := fun i hi => by
    obtain ⟨u, x1, x2⟩ := hcB i hi
    exact ⟨u, (hb0.cell (p := ⟨bb, ob + i, none⟩) hlB0).trans x1, x2.below hb0⟩
  have HB0 := Lib.hid hb0
  have HCA0 := Lib.hid hcA'
  have HCB0 := Lib.hid hcB'
  have HSZ0 := Lib.hid hsz
  have HBOX0 := Lib.hid hbox
  clear hcA hcB hcA' hcB' hNM hb0 hbox hsz
  go_enter Try.func34, Try.ntmps34
  go_wp2_with fail
  obtain ⟨g0, hg0⟩ : ∃ g0, g0 = wc.heap.size := ⟨_, rfl⟩
  have HB := HB0
  have HCA := HCA0
  have HCB := HCB0
  have HSZ := HSZ0
  have HBOX := HBOX0
  clear HB0 HCA0 HCB0 HSZ0 HBOX0
  rw [← hg0] at HB HSZ HBOX hlA0 hlB0 ⊢
  have HGG := Lib.hid hg0
  clear hg0
  generalize wc.alloc (.cells #[.slice (some ⟨ba, oa, none⟩) A.length cA] 25) = w at HB HCA HCB HSZ HBOX ⊢
  have HG0 := Lib.hid (show g0 < w.heap.size by have := HSZ.out; omega)
  have hlA : ba < w.heap.size := by have := HSZ.out; omega
  have hlB : bb < w.heap.size := by have := HSZ.out; omega
  go_loopw [19, 6] (fun y o wz => ∃ k : Nat, y = .int .i64 k ∧ k ≤ B.length ∧ Hid (∃ U, OGU U w.heap.size wz o (addL A B (k * A.length))) ∧ Hid (Below w.heap.size w wz) ∧ Hid (w.heap.size ≤ wz.heap.size)) (fun y _ _ => B.length - (intOf y).toNat)
  case atStart => exact ⟨0, rfl, by omega, Lib.hid ⟨_, by rw [Nat.zero_mul]; exact OGU.nil (World.ownsRow_nil _ _ _ _)⟩, Lib.hid (Below.refl _ _), Lib.hid (Nat.le_refl _)⟩
  case round =>
    obtain ⟨k, rfl, hk, HO, HBW, HS⟩ := hrel
    by_cases hk2 : k < B.length
    · have T2 : decide ((k : Int) < (B.length : Int)) = true := by simp; omega
      have k1 : (k : Int) < (B.length : Int) := by omega
      have HVk := Lib.hid hk2
      obtain ⟨uk, hk1, hk2⟩ := HCB.out k hk2
      obtain ⟨Ak, ck, rfl, _, hck⟩ := hk2
      obtain ⟨lk, hlk⟩ : ∃ l, l = (B.getD k []).length := ⟨_, rfl⟩
      rw [← hlk] at hk1 hck
      have HCk := Lib.hid hck
      have HKk := Lib.hid hk1
      have HLk := Lib.hid hlk
      clear hck hk1 hlk
      have HLTk := Lib.hid hlB
      have hlk : lk ≤ 60 := by
        have := row_len (HVB.out.2 k hk2)
        rw [← HLk.out] at this; omega
      have q1 : wr.cell? ⟨bb, ob + k, none⟩ = some (.slice Ak lk ck) := (HBW.out.cell (p := ⟨bb, ob + k, none⟩) hlB).trans HKk.out
      have q3 : wr.cell? ⟨g0, 0, none⟩ = some (.slice (some ⟨ba, oa, none⟩) A.length cA) := (HBW.out.cell (p := ⟨g0, 0, none⟩) HG0.out).trans HBOX.out
      go_wp2_with fail
      clear q1 q3
      go_loopw [26, 6] (fun y o wz => ∃ i : Nat, y = .int .i64 i ∧ i ≤ A.length ∧ Hid (∃ U, OGU U w.heap.size wz o (addL A B (k * A.length + i))) ∧ Hid (Below w.heap.size w wz) ∧ Hid (w.heap.size ≤ wz.heap.size)) (fun y _ _ => A.length - (intOf y).toNat)
      case atStart => exact ⟨0, rfl, by omega, HO, HBW, HS⟩
      case round =>
        clear HO HBW HS
        obtain ⟨i, rfl, hi, HO, HBW, HS⟩ := hrel
        by_cases hi2 : i < A.length
        · have T4 : decide ((i : Int) < (A.length : Int)) = true := by simp; omega
          have i1 : (i : Int) < (A.length : Int) := by omega
          have HVi := Lib.hid hi2
          obtain ⟨ui, hi1, hi2⟩ := HCA.out i hi2
          obtain ⟨Ai, ci, rfl, _, hci⟩ := hi2
          obtain ⟨li, hli⟩ : ∃ l, l = (A.getD i []).length := ⟨_, rfl⟩
          rw [← hli] at hi1 hci
          have HCi := Lib.hid hci
          have HKi := Lib.hid hi1
          have HLi := Lib.hid hli
          clear hci hi1 hli
          have HLTi := Lib.hid hlA
          have hli : li ≤ 60 := by
            have := row_len (HVA.out.2 i hi2)
            rw [← HLi.out] at this; omega
          obtain ⟨W0, rfl⟩ : ∃ W0, W0 = wr := ⟨_, rfl⟩
          have q1 : W0.cell? ⟨ba, oa + i, none⟩ = some (.slice Ai li ci) := (HBW.out.cell (p := ⟨ba, oa + i, none⟩) hlA).trans HKi.out
          go_wp2_with fail
          clear q1
          obtain ⟨M, hM⟩ : ∃ M, M = W0.heap.size := ⟨_, rfl⟩
          have m1 : W0.ownsRow M 45 1 (.slice none 0 0) 0 [] := World.ownsRow_nil _ _ _ _
          have m2 : Below M W0 W0 := Below.refl _ _
          have m3 : M ≤ W0.heap.size := by omega
          have m4 : Below w.heap.size w W0 := HBW.out
          have HBM := Lib.hid (show w.heap.size ≤ M by rw [hM]; exact HS.out)
          have HM := Lib.hid hM
          clear hM
          go_loopw [33, 11] (fun y mv wz => ∃ j : Nat, y = .int .i64 j ∧ j ≤ lk ∧ Hid (wz.ownsRow M 45 1 mv (j) (i8s (rowP A B k i j 0))) ∧ Hid (Below M W0 wz) ∧ Hid (Below w.heap.size w wz) ∧ Hid (M ≤ wz.heap.size)) (fun y _ _ => lk - (intOf y).toNat)
          case atStart => exact ⟨0, rfl, by omega, Lib.hid (by rw [rowP_zero]; exact m1), Lib.hid m2, Lib.hid m4, Lib.hid m3⟩
          case round =>
            try clear m1 m2 m3 m4
            try clear HQ HQB HW HQS
            obtain ⟨j, rfl, hj, HQ, HQB, HW, HQS⟩ := hrel
            by_cases hlj : j < lk
            · have T3 : decide ((j : Int) < (lk : Int)) = true := by simp; omega
              have j1 : (j : Int) < (lk : Int) := by omega
              obtain ⟨b2, off2, rfl, _, hlb2, hcell2⟩ := HCk.out (by omega)
              have q2 : wr.cell? ⟨b2, off2 + j, none⟩ = some (.int .i8 ((B.getD k []).getD j 0)) := (HW.out.cell (p := ⟨b2, off2 + j, none⟩) hlb2).trans (hcell2 j hlj)
              have rr := row_at (HVB.out.2 k HVk.out) j (by rw [← HLk.out]; exact hlj)
              have HLJ := Lib.hid (show j < (B.getD k []).length by rw [← HLk.out]; exact hlj)
              have HCL2 := Lib.hid hcell2
              clear hcell2
              obtain ⟨t, ht⟩ : ∃ t, t = (B.getD k []).getD j 0 := ⟨_, rfl⟩
              rw [← ht] at q2 rr
              have HT := Lib.hid ht
              clear ht
              obtain ⟨t0, t1⟩ := rr
              have HBD := Lib.hid (add_bound1 HNM.out hi2 hk2 t0 t1)
              have tb0 : -128 ≤ t := by omega
              have tb1 : t < 128 := by omega
              go_wp2_with fail
              refine (plus1_any A.length ba oa cA g0 (i : Int) t HBD.out.1 HBD.out.2.1 HBD.out.2.2.1 HBD.out.2.2.2 _ ((HW.out.cell (p := ⟨g0, 0, none⟩) HG0.out).trans HBOX.out)).mono ?_
              rintro e wq ⟨rfl, hwq⟩
              obtain rfl : wr = wq := hwq.symm
              go_wp2_with (at_builtin; refine wpList_append_own _ rfl _ _ 43 rfl (M) 45 i8 (.int .i8 0) 1 1 Try.underlying43 h8 h80 h81 h82 rfl (by decide) _ (j) _ rfl (HQ.out.alloc _) ⟨wr.heap.size, 0, none⟩ 1 1 [.int .i8 ((i : Int) + (A.length : Int) * t)] rfl rfl ?c1 ?c2 ?c3 ?c4 ?c5 ?_)
              case c1 => exact one_cell2 _ _ _
              case c2 => simp [Value.oneCell']
              case c3 => unfold maxLen; omega
              case c4 => omega
              case c5 => rw [World.size_alloc]; have := HQS.out; omega
              intro s' wy hown hgrow _
              rw [HT.out, rowP_one A B k i j HLJ.out] at hown
              have hw1 : w.heap.size ≤ wr.heap.size := Nat.le_trans HBM.out HQS.out
              have HB2 := Lib.hid ((HQB.out.alloc HQS.out _).grown hgrow (by rw [World.size_alloc]; have := HQS.out; omega) (fun x hx => (HQ.out.lt x hx).1))
              have HW2 := Lib.hid ((HW.out.alloc hw1 _).grown hgrow (by rw [World.size_alloc]; omega) (fun x hx => Nat.le_trans HBM.out (HQ.out.lt x hx).1))
              have HS2 := Lib.hid (Nat.le_trans (show M ≤ (wr.alloc (.cells #[.int .i8 ((i : Int) + (A.length : Int) * t)] 45)).heap.size by rw [World.size_alloc]; have := HQS.out; omega) hgrow.size)
              have HQ2 := Lib.hid hown
              clear hown hgrow HQ HQB HQS HW hw1
              go_wp2_with fail
              exact ⟨⟨j + 1, by go_num, by omega, HQ2, HB2, HW2, HS2⟩, by simp [intOf]; omega⟩
            · obtain rfl : lk = j := by omega
              have T3 : decide ((lk : Int) < (lk : Int)) = false := by simp
              go_wp2_with fail
              go_loopw [48, 11] (fun y mv wz => ∃ j : Nat, y = .int .i64 j ∧ j ≤ li ∧ Hid (wz.ownsRow M 45 1 mv (lk + j) (i8s (rowP A B k i lk j))) ∧ Hid (Below M W0 wz) ∧ Hid (Below w.heap.size w wz) ∧ Hid (M ≤ wz.heap.size)) (fun y _ _ => li - (intOf y).toNat)
              case atStart => exact ⟨0, rfl, by omega, HQ, HQB, HW, HQS⟩
              case round =>
                try clear m1 m2 m3 m4
                try clear HQ HQB HW HQS
                obtain ⟨j, rfl, hj, HQ, HQB, HW, HQS⟩ := hrel
                by_cases hlj : j < li
                · have T3 : decide ((j : Int) < (li : Int)) = true := by simp; omega
                  have j1 : (j : Int) < (li : Int) := by omega
                  obtain ⟨b2, off2, rfl, _, hlb2, hcell2⟩ := HCi.out (by omega)
                  have q2 : wr.cell? ⟨b2, off2 + j, none⟩ = some (.int .i8 ((A.getD i []).getD j 0)) := (HW.out.cell (p := ⟨b2, off2 + j, none⟩) hlb2).trans (hcell2 j hlj)
                  have rr := row_at (HVA.out.2 i HVi.out) j (by rw [← HLi.out]; exact hlj)
                  have HLJ := Lib.hid (show j < (A.getD i []).length by rw [← HLi.out]; exact hlj)
                  have HCL2 := Lib.hid hcell2
                  clear hcell2
                  obtain ⟨t, ht⟩ : ∃ t, t = (A.getD i []).getD j 0 := ⟨_, rfl⟩
                  rw [← ht] at q2 rr
                  have HT := Lib.hid ht
                  clear ht
                  obtain ⟨t0, t1⟩ := rr
                  have HBD := Lib.hid (add_bound2 HNM.out hi2 hk2 t0 t1)
                  have tb0 : -128 ≤ t := by omega
                  have tb1 : t < 128 := by omega
                  go_wp2_with fail
                  refine (plus1_any A.length ba oa cA g0 t (k : Int) HBD.out.1 HBD.out.2.1 HBD.out.2.2.1 HBD.out.2.2.2 _ ((HW.out.cell (p := ⟨g0, 0, none⟩) HG0.out).trans HBOX.out)).mono ?_
                  rintro e wq ⟨rfl, hwq⟩
                  obtain rfl : wr = wq := hwq.symm
                  go_wp2_with (at_builtin; refine wpList_append_own _ rfl _ _ 43 rfl (M) 45 i8 (.int .i8 0) 1 1 Try.underlying43 h8 h80 h81 h82 rfl (by decide) _ (lk + j) _ rfl (HQ.out.alloc _) ⟨wr.heap.size, 0, none⟩ 1 1 [.int .i8 (t + (A.length : Int) * (k : Int))] rfl rfl ?c1 ?c2 ?c3 ?c4 ?c5 ?_)
                  case c1 => exact one_cell2 _ _ _
                  case c2 => simp [Value.oneCell']
                  case c3 => unfold maxLen; omega
                  case c4 => omega
                  case c5 => rw [World.size_alloc]; have := HQS.out; omega
                  intro s' wy hown hgrow _
                  rw [HT.out, rowP_two A B k i lk j HLJ.out] at hown
                  have hw1 : w.heap.size ≤ wr.heap.size := Nat.le_trans HBM.out HQS.out
                  have HB2 := Lib.hid ((HQB.out.alloc HQS.out _).grown hgrow (by rw [World.size_alloc]; have := HQS.out; omega) (fun x hx => (HQ.out.lt x hx).1))
                  have HW2 := Lib.hid ((HW.out.alloc hw1 _).grown hgrow (by rw [World.size_alloc]; omega) (fun x hx => Nat.le_trans HBM.out (HQ.out.lt x hx).1))
                  have HS2 := Lib.hid (Nat.le_trans (show M ≤ (wr.alloc (.cells #[.int .i8 (t + (A.length : Int) * (k : Int))] 45)).heap.size by rw [World.size_alloc]; have := HQS.out; omega) hgrow.size)
                  have HQ2 := Lib.hid hown
                  clear hown hgrow HQ HQB HQS HW hw1
                  go_wp2_with fail
                  exact ⟨⟨j + 1, by go_num, by omega, HQ2, HB2, HW2, HS2⟩, by simp [intOf]; omega⟩
                · obtain rfl : li = j := by omega
                  have T3 : decide ((li : Int) < (li : Int)) = false := by simp
                  obtain ⟨A2, c2, rfl, _, _⟩ := own_form HQ.out
                  obtain ⟨U, hU⟩ := HO.out
                  have hU2 := hU.below (by rw [← HM.out]; exact HQB.out)
                  have hout := hU2.outer
                  rw [addL_len] at hout
                  obtain ⟨A3, c3, rfl, _, _⟩ := own_form hout
                  have HU := Lib.hid hU
                  have HU2 := Lib.hid hU2
                  have HOUT := Lib.hid hout
                  have hkn : k * A.length + i < 3600 := by
                    have e1 := Nat.mul_le_mul (Nat.le_of_lt hk2) a2
                    have e2 : B.length * 60 ≤ 3600 - 60 + 60 := by omega
                    have e3 : k * A.length + A.length ≤ B.length * A.length := by rw [← Nat.succ_mul]; exact Nat.mul_le_mul_right _ hk2
                    have e4 := HNM.out
                    rw [Nat.mul_comm] at e4
                    omega
                  have hrow : wr.ownsRow M 45 1 (.slice A2 (lk + li) c2) (rowF A B k i).length (i8s (rowF A B k i)) := by
                    have e : (rowF A B k i).length = lk + li := by
                      unfold rowF; rw [rowP_len _ _ _ _ _ _ (Nat.le_refl _) (Nat.le_refl _), HLk.out, HLi.out]
                    rw [e]
                    unfold rowF
                    rw [← HLk.out, ← HLi.out]
                    exact HQ.out
                  have HROW := Lib.hid hrow
                  clear hU hU2 hout hrow
                  go_wp2_with (at_builtin; refine wpList_append_own _ rfl _ _ 25 rfl (w.heap.size) 43 ir (.slice none 0 0) 1 24 Try.underlying25 hr hr0 hr1 hr2 rfl (by decide) _ (k * A.length + i) _ rfl (HOUT.out.alloc _) ⟨wr.heap.size, 0, none⟩ 1 1 [.slice A2 (lk + li) c2] rfl rfl ?c1 ?c2 ?c3 ?c4 ?c5 ?_)
                  case c1 => exact one_cell2 _ _ _
                  case c2 => simp [Value.oneCell']
                  case c3 => unfold maxLen; omega
                  case c4 => omega
                  case c5 => rw [World.size_alloc]; have := HQS.out; have := HBM.out; omega
                  intro s' wy hown hgrow _
                  have hal : Below wr.heap.size wr (wr.alloc (.cells #[.slice A2 (lk + li) c2] 43)) := (Below.refl _ _).alloc (Nat.le_refl _) _
                  have hnew := (HU2.out.below hal).snoc hgrow (by rw [addL_len]; exact hown) (own_below HROW.out hal) HBM.out
                    (rowP_small A B k i _ _ HNM.out hi2 hk2 (HVA.out.2 i hi2) (HVB.out.2 k hk2)) (by
                    intro p hp b hb
                    rw [HM.out]
                    exact HU.out.lows p hp b hb)
                  rw [addL_snoc A B k i hi2] at hnew
                  have hw1 : w.heap.size ≤ wr.heap.size := Nat.le_trans HBM.out HQS.out
                  have HB2 := Lib.hid ((HW.out.alloc hw1 (.cells #[.slice A2 (lk + li) c2] 43)).grown hgrow (by rw [World.size_alloc]; omega) (fun x hx => (HOUT.out.lt x hx).1))
                  have HS2 := Lib.hid (Nat.le_trans (show w.heap.size ≤ (wr.alloc (.cells #[.slice A2 (lk + li) c2] 43)).heap.size by rw [World.size_alloc]; omega) hgrow.size)
                  have HO2 := Lib.hid (show ∃ U, OGU U w.heap.size wy s' (addL A B (k * A.length + (i + 1))) from ⟨_, hnew⟩)
                  clear hown hgrow HQ HQB HQS HO HBW HS hnew HU HU2 HOUT hal hw1 HW HROW
                  go_wp2_with fail
                  exact ⟨⟨i + 1, by go_num, by omega, HO2, HB2, HS2⟩, by simp [intOf]; omega⟩
        · obtain rfl : i = A.length := by omega
          have T4 : decide (((A.length : Nat) : Int) < (A.length : Int)) = false := by simp
          have HO2 : Hid (∃ U, OGU U w.heap.size wr u6 (addL A B ((k + 1) * A.length))) := Lib.hid (by rw [Nat.succ_mul]; exact HO.out)
          go_wp2_with fail
          exact ⟨⟨k + 1, by go_num, by omega, HO2, HBW, HS⟩, by simp [intOf]; omega⟩
    · obtain rfl : k = B.length := by omega
      have T2 : decide (((B.length : Nat) : Int) < (B.length : Int)) = false := by simp
      obtain ⟨U, hU⟩ := HO.out
      go_wp2_with fail
      go_ret
      rw [← HGG.out]
      exact ⟨_, U, rfl, hU.low (by have := HSZ.out; omega), HB.out.trans (HBW.out.mono (by have := HSZ.out; omega))⟩
set_option maxRecDepth 100000 in
set_option maxHeartbeats 4000000 in
theorem impl_AddGames (va vb : Value) (A B : List (List Int)) (hnA : total A ≤ 1048576) (hnB : total B ≤ 1048576) (B1 B2 : Nat) (w : World) (hA : GS B1 w va A) (hB : GS B2 w vb B) :
    Calls Try.prog 20 #[va, vb] w fun e w' => ∃ v U, e = .returned (.tuple #[v, .int .i64 (addC A B)]) ∧ OGU U w.heap.size w' v (addG A B) ∧ Below w.heap.size w w' := by
  rcases ha : validB A with _ | _
  · have hD : badAdd A B = 1 := by unfold badAdd; rw [if_pos ha]
    have hC : addC A B = 1 := by unfold addC; rw [hD]; rfl
    have hG : addG A B = [] := by unfold addG; rw [hD]; rfl
    rw [hC, hG]
    have HA := Lib.hid ha
    clear hC hG hD ha
    go_enter Try.func20, Try.ntmps20
    go_wp2_with fail
    refine (impl_ValidGame va A hnA B1 w hA).mono ?_
    rintro e w' ⟨rfl, rfl⟩
    rw [HA.out]
    go_wp2_with fail
    go_ret2
    first | exact ⟨_, _, rfl, OGU.nil (World.ownsRow_nil _ _ _ _), Below.refl _ _⟩ | exact ⟨_, rfl, ⟨_, OGU.nil (World.ownsRow_nil _ _ _ _)⟩, Below.refl _ _⟩
  rcases hb : validB B with _ | _
  · have hD : badAdd A B = 1 := by unfold badAdd; rw [if_neg (by rw [ha]; decide), if_pos hb]
    have hC : addC A B = 1 := by unfold addC; rw [hD]; rfl
    have hG : addG A B = [] := by unfold addG; rw [hD]; rfl
    rw [hC, hG]
    have HA := Lib.hid ha
    have HB := Lib.hid hb
    clear hC hG hD ha hb
    go_enter Try.func20, Try.ntmps20
    go_wp2_with fail
    refine (impl_ValidGame va A hnA B1 w hA).mono ?_
    rintro e w' ⟨rfl, rfl⟩
    rw [HA.out]
    go_wp2_with fail
    refine (impl_ValidGame vb B hnB B2 w' hB).mono ?_
    rintro e w' ⟨rfl, rfl⟩
    rw [HB.out]
    go_wp2_with fail
    go_ret2
    first | exact ⟨_, _, rfl, OGU.nil (World.ownsRow_nil _ _ _ _), Below.refl _ _⟩ | exact ⟨_, rfl, ⟨_, OGU.nil (World.ownsRow_nil _ _ _ _)⟩, Below.refl _ _⟩
  have vA := validB_true ha
  have vB := validB_true hb
  have HVA := Lib.hid vA
  have HVB := Lib.hid vB
  obtain ⟨⟨a1, a2⟩, _⟩ := vA
  obtain ⟨⟨b1, b2⟩, _⟩ := vB
  obtain ⟨AA, cA, rfl, _, _, hcA⟩ := hA.low (Nat.zero_le B1)
  obtain ⟨AB, cB, rfl, _, _, hcB⟩ := hB.low (Nat.zero_le B2)
  obtain ⟨ba, oa, rfl, _, hlA, hcellA⟩ := hcA (by omega)
  obtain ⟨bb, ob, rfl, _, hlB, hcellB⟩ := hcB (by omega)
  have HCA := Lib.hid hcellA
  have HCB := Lib.hid hcellB
  have HOA := Lib.hid hA
  have HOB := Lib.hid hB
  clear hcA hcB hcellA hcellB hA hB
  have hmul : ((A.length : Int) * (B.length : Int)) = ((A.length * B.length : Nat) : Int) := by simp
  by_cases hnm : 60 < A.length * B.length
  · have hD : badAdd A B = 3 := by unfold badAdd; rw [if_neg (by rw [ha]; decide), if_neg (by rw [hb]; decide), if_pos hnm]
    have hC : addC A B = 3 := by unfold addC; rw [hD]; rfl
    have hG : addG A B = [] := by unfold addG; rw [hD]; rfl
    rw [hC, hG]
    have hp : A.length * B.length ≤ 3600 := Nat.mul_le_mul a2 b2
    have T5 : decide ((60 : Int) < (A.length : Int) * (B.length : Int)) = true := by rw [hmul]; simp; omega
    have p1 : (A.length : Int) * (B.length : Int) ≤ 3600 := by rw [hmul]; omega
    have p2 : 0 ≤ (A.length : Int) * (B.length : Int) := by rw [hmul]; omega
    have HA := Lib.hid ha
    have HB := Lib.hid hb
    clear hC hG hD ha hb hmul hnm hp
    go_enter Try.func20, Try.ntmps20
    go_wp2_with fail
    refine (impl_ValidGame _ A hnA B1 w HOA.out).mono ?_
    rintro e w' ⟨rfl, rfl⟩
    rw [HA.out]
    go_wp2_with fail
    refine (impl_ValidGame _ B hnB B2 w' HOB.out).mono ?_
    rintro e w' ⟨rfl, rfl⟩
    rw [HB.out]
    go_wp2_with fail
    go_ret2
    first | exact ⟨_, _, rfl, OGU.nil (World.ownsRow_nil _ _ _ _), Below.refl _ _⟩ | exact ⟨_, rfl, ⟨_, OGU.nil (World.ownsRow_nil _ _ _ _)⟩, Below.refl _ _⟩
  have hD : badAdd A B = 0 := by unfold badAdd; rw [if_neg (by rw [ha]; decide), if_neg (by rw [hb]; decide), if_neg hnm]
  have hC : addC A B = 0 := by unfold addC; rw [hD]; rfl
  have hG : addG A B = addL A B (B.length * A.length) := by unfold addG; rw [hD]; rfl
  rw [hC, hG]
  have hNM : A.length * B.length ≤ 60 := by omega
  have HNM := Lib.hid hNM
  have T5 : decide ((60 : Int) < (A.length : Int) * (B.length : Int)) = false := by rw [hmul]; simp; omega
  have p1 : (A.length : Int) * (B.length : Int) ≤ 3600 := by rw [hmul]; omega
  have p2 : 0 ≤ (A.length : Int) * (B.length : Int) := by rw [hmul]; omega
  have HA := Lib.hid ha
  have HB := Lib.hid hb
  clear hC hG hD ha hb hmul hnm hNM
  go_enter Try.func20, Try.ntmps20
  go_wp2_with fail
  refine (impl_ValidGame _ A hnA B1 w HOA.out).mono ?_
  rintro e w1 ⟨rfl, hw1⟩
  rw [HA.out, hw1]
  clear hw1 w1
  go_wp2_with fail
  refine (impl_ValidGame _ B hnB B2 w HOB.out).mono ?_
  rintro e w1 ⟨rfl, hw1⟩
  rw [HB.out, hw1]
  clear hw1 w1
  go_wp2_with fail
  refine (plus_any A B ba oa cA bb ob cB HVA.out HVB.out HNM.out w hlA hlB HCA.out HCB.out).mono ?_
  rintro e w' ⟨v, U, rfl, hU, hbw⟩
  have HU := Lib.hid hU
  have HBW := Lib.hid hbw
  clear hU hbw
  go_wp2_with fail
  go_ret2
  exact ⟨_, U, rfl, HU.out, HBW.out⟩
end Go.Proofs.Ytkeliojgldfkkaa
