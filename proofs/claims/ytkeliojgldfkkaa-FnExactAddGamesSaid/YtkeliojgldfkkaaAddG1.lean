/-
  AddGames, of the model.
-/
import Derived.Test.YtkeliojgldfkkaaAddG
namespace Go.Proofs.Ytkeliojgldfkkaa
set_option linter.unusedVariables false
set_option linter.unusedSimpArgs false
open Go.ChangeShapes Go.WideShapes Go.ChangeAt Go.RowKit Go.Deep

set_option maxRecDepth 100000 in
set_option maxHeartbeats 4000000 in
theorem spec_AddGames (va vb : Value) (A B : List (List Int)) (hnA : total A ≤ 1048576) (hnB : total B ≤ 1048576) (B1 B2 : Nat) (w : World) (hA : GS B1 w va A) (hB : GS B2 w vb B) :
    Calls Try.prog 19 #[va, vb] w fun e w' => ∃ v U, e = .returned (.tuple #[v, .int .i64 (addC A B)]) ∧ OGU U w.heap.size w' v (addG A B) ∧ Below w.heap.size w w' := by
  obtain ⟨i8, h8, h80, h81, h82⟩ := info_parts info8
  obtain ⟨ir, hr, hr0, hr1, hr2⟩ := info_parts infoRow8
  rcases ha : validB A with _ | _
  · have hD : badAdd A B = 1 := by unfold badAdd; rw [if_pos ha]
    have hC : addC A B = 1 := by unfold addC; rw [hD]; rfl
    have hG : addG A B = [] := by unfold addG; rw [hD]; rfl
    rw [hC, hG]
    have HA := Lib.hid ha
    clear hC hG hD ha
    go_enter Try.func19, Try.ntmps19
    go_wp2_with fail
    refine (spec_ok va A hnA B1 w hA).mono ?_
    rintro e w' ⟨rfl, rfl⟩
    rw [HA.out]
    go_wp2_with fail
    go_ret2
    first | exact ⟨_, _, rfl, OGU.nil (World.ownsRow_made _ #[] 0 (Nat.le_refl _) (Nat.zero_le _) rfl), (Below.refl _ _).alloc (Nat.le_refl _) _⟩ | exact ⟨_, rfl, ⟨_, OGU.nil (World.ownsRow_made _ #[] 0 (Nat.le_refl _) (Nat.zero_le _) rfl)⟩, (Below.refl _ _).alloc (Nat.le_refl _) _⟩
  rcases hb : validB B with _ | _
  · have hD : badAdd A B = 1 := by unfold badAdd; rw [if_neg (by rw [ha]; decide), if_pos hb]
    have hC : addC A B = 1 := by unfold addC; rw [hD]; rfl
    have hG : addG A B = [] := by unfold addG; rw [hD]; rfl
    rw [hC, hG]
    have HA := Lib.hid ha
    have HB := Lib.hid hb
    clear hC hG hD ha hb
    go_enter Try.func19, Try.ntmps19
    go_wp2_with fail
    refine (spec_ok va A hnA B1 w hA).mono ?_
    rintro e w' ⟨rfl, rfl⟩
    rw [HA.out]
    go_wp2_with fail
    refine (spec_ok vb B hnB B2 w' hB).mono ?_
    rintro e w' ⟨rfl, rfl⟩
    rw [HB.out]
    go_wp2_with fail
    go_ret2
    first | exact ⟨_, _, rfl, OGU.nil (World.ownsRow_made _ #[] 0 (Nat.le_refl _) (Nat.zero_le _) rfl), (Below.refl _ _).alloc (Nat.le_refl _) _⟩ | exact ⟨_, rfl, ⟨_, OGU.nil (World.ownsRow_made _ #[] 0 (Nat.le_refl _) (Nat.zero_le _) rfl)⟩, (Below.refl _ _).alloc (Nat.le_refl _) _⟩
  have vA := validB_true ha
  have vB := validB_true hb
  have HVA := Lib.hid vA
  have HVB := Lib.hid vB
  obtain ⟨⟨a1, a2⟩, _⟩ := vA
  obtain ⟨⟨b1, b2⟩, _⟩ := vB
  obtain ⟨AA, cA, rfl, _, _, hcA⟩ := hA.low (Nat.zero_le B1)
  obtain ⟨AB, cB, rfl, _, _, hcB⟩ := hB.low (Nat.zero_le B2)
  obtain ⟨ba, oa, rfl, _, hlA, hcellA⟩ := hcA (by omega)
  obtain ⟨bb, ob, rfl, _, hlB, hcellB⟩ := hcB (by omega)
  have HCA := Lib.hid hcellA
  have HCB := Lib.hid hcellB
  have HOA := Lib.hid hA
  have HOB := Lib.hid hB
  clear hcA hcB hcellA hcellB hA hB
  have hmul : ((A.length : Int) * (B.length : Int)) = ((A.length * B.length : Nat) : Int) := by simp
  by_cases hnm : 60 < A.length * B.length
  · have hD : badAdd A B = 3 := by unfold badAdd; rw [if_neg (by rw [ha]; decide), if_neg (by rw [hb]; decide), if_pos hnm]
    have hC : addC A B = 3 := by unfold addC; rw [hD]; rfl
    have hG : addG A B = [] := by unfold addG; rw [hD]; rfl
    rw [hC, hG]
    have hp : A.length * B.length ≤ 3600 := Nat.mul_le_mul a2 b2
    have T5 : decide ((60 : Int) < (A.length : Int) * (B.length : Int)) = true := by rw [hmul]; simp; omega
    have p1 : (A.length : Int) * (B.length : Int) ≤ 3600 := by rw [hmul]; omega
    have p2 : 0 ≤ (A.length : Int) * (B.length : Int) := by rw [hmul]; omega
    have HA := Lib.hid ha
    have HB := Lib.hid hb
    clear hC hG hD ha hb hmul hnm hp
    go_enter Try.func19, Try.ntmps19
    go_wp2_with fail
    refine (spec_ok _ A hnA B1 w HOA.out).mono ?_
    rintro e w' ⟨rfl, rfl⟩
    rw [HA.out]
    go_wp2_with fail
    refine (spec_ok _ B hnB B2 w' HOB.out).mono ?_
    rintro e w' ⟨rfl, rfl⟩
    rw [HB.out]
    go_wp2_with fail
    go_ret2
    first | exact ⟨_, _, rfl, OGU.nil (World.ownsRow_made _ #[] 0 (Nat.le_refl _) (Nat.zero_le _) rfl), (Below.refl _ _).alloc (Nat.le_refl _) _⟩ | exact ⟨_, rfl, ⟨_, OGU.nil (World.ownsRow_made _ #[] 0 (Nat.le_refl _) (Nat.zero_le _) rfl)⟩, (Below.refl _ _).alloc (Nat.le_refl _) _⟩
  have hD : badAdd A B = 0 := by unfold badAdd; rw [if_neg (by rw [ha]; decide), if_neg (by rw [hb]; decide), if_neg hnm]
  have hC : addC A B = 0 := by unfold addC; rw [hD]; rfl
  have hG : addG A B = addL A B (B.length * A.length) := by unfold addG; rw [hD]; rfl
  rw [hC, hG]
  have hNM : A.length * B.length ≤ 60 := by omega
  have HNM := Lib.hid hNM
  have T5 : decide ((60 : Int) < (A.length : Int) * (B.length : Int)) = false := by rw [hmul]; simp; omega
  have p1 : (A.length : Int) * (B.length : Int) ≤ 3600 := by rw [hmul]; omega
  have p2 : 0 ≤ (A.length : Int) * (B.length : Int) := by rw [hmul]; omega
  have HA := Lib.hid ha
  have HB := Lib.hid hb
  clear hC hG hD ha hb hmul hnm hNM
  go_enter Try.func19, Try.ntmps19
  go_wp2_with fail
  refine (spec_ok _ A hnA B1 w HOA.out).mono ?_
  rintro e w1 ⟨rfl, hw1⟩
  rw [HA.out, hw1]
  clear hw1 w1
  go_wp2_with fail
  refine (spec_ok _ B hnB B2 w HOB.out).mono ?_
  rintro e w1 ⟨rfl, hw1⟩
  rw [HB.out, hw1]
  clear hw1 w1
  go_wp2_with fail
  have m1 : (w.alloc (.cells #[] 43)).ownsRow w.heap.size 43 1 (.slice (some ⟨w.heap.size, 0, none⟩) 0 0) 0 [] := World.ownsRow_made _ #[] 0 (Nat.le_refl _) (Nat.zero_le _) rfl
  have m2 : Below w.heap.size w (w.alloc (.cells #[] 43)) := (Below.refl _ _).alloc (Nat.le_refl _) _
  have m3 : w.heap.size ≤ (w.alloc (.cells #[] 43)).heap.size := by rw [World.size_alloc]; omega
  clear T5 p1 p2 HA HB
  generalize w.alloc (.cells #[] 43) = wa at m1 m2 m3 ⊢
  go_loopw [8, 7] (fun y o wz => ∃ k : Nat, y = .int .i64 k ∧ k ≤ B.length ∧ Hid (∃ U, OGU U w.heap.size wz o (addL A B (k * A.length))) ∧ Hid (Below w.heap.size w wz) ∧ Hid (w.heap.size ≤ wz.heap.size)) (fun y _ _ => B.length - (intOf y).toNat)
  case atStart => exact ⟨0, rfl, by omega, Lib.hid ⟨_, by rw [Nat.zero_mul]; exact OGU.nil m1⟩, Lib.hid m2, Lib.hid m3⟩
  case round =>
    clear m1 m2 m3
    obtain ⟨k, rfl, hk, HO, HBW, HS⟩ := hrel
    by_cases hk2 : k < B.length
    · have T2 : decide ((k : Int) < (B.length : Int)) = true := by simp; omega
      have k1 : (k : Int) < (B.length : Int) := by omega
      have HVk := Lib.hid hk2
      obtain ⟨uk, hk1, hk2⟩ := HCB.out k hk2
      obtain ⟨Ak, ck, rfl, _, hck⟩ := hk2
      obtain ⟨lk, hlk⟩ : ∃ l, l = (B.getD k []).length := ⟨_, rfl⟩
      rw [← hlk] at hk1 hck
      have HCk := Lib.hid hck
      have HKk := Lib.hid hk1
      have HLk := Lib.hid hlk
      clear hck hk1 hlk
      have HLTk := Lib.hid hlB
      have hlk : lk ≤ 60 := by
        have := row_len (HVB.out.2 k hk2)
        rw [← HLk.out] at this; omega
      go_wp2_with fail
      go_loopw [9, 7] (fun y o wz => ∃ i : Nat, y = .int .i64 i ∧ i ≤ A.length ∧ Hid (∃ U, OGU U w.heap.size wz o (addL A B (k * A.length + i))) ∧ Hid (Below w.heap.size w wz) ∧ Hid (w.heap.size ≤ wz.heap.size)) (fun y _ _ => A.length - (intOf y).toNat)
      case atStart => exact ⟨0, rfl, by omega, HO, HBW, HS⟩
      case round =>
        clear HO HBW HS
        obtain ⟨i, rfl, hi, HO, HBW, HS⟩ := hrel
        by_cases hi2 : i < A.length
        · have T4 : decide ((i : Int) < (A.length : Int)) = true := by simp; omega
          have i1 : (i : Int) < (A.length : Int) := by omega
          have HVi := Lib.hid hi2
          obtain ⟨ui, hi1, hi2⟩ := HCA.out i hi2
          obtain ⟨Ai, ci, rfl, _, hci⟩ := hi2
          obtain ⟨li, hli⟩ : ∃ l, l = (A.getD i []).length := ⟨_, rfl⟩
          rw [← hli] at hi1 hci
          have HCi := Lib.hid hci
          have HKi := Lib.hid hi1
          have HLi := Lib.hid hli
          clear hci hi1 hli
          have HLTi := Lib.hid hlA
          have hli : li ≤ 60 := by
            have := row_len (HVA.out.2 i hi2)
            rw [← HLi.out] at this; omega
          obtain ⟨W0, rfl⟩ : ∃ W0, W0 = wr := ⟨_, rfl⟩
          go_wp2_with fail
          obtain ⟨M, hM⟩ : ∃ M, M = W0.heap.size := ⟨_, rfl⟩
          have m1 : (W0.alloc (.cells #[] 45)).ownsRow M 45 1 (.slice (some ⟨W0.heap.size, 0, none⟩) 0 0) 0 [] := World.ownsRow_made _ #[] 0 (by omega) (Nat.zero_le _) rfl
          have m2 : Below M W0 (W0.alloc (.cells #[] 45)) := (Below.refl _ _).alloc (by omega) _
          have m3 : M ≤ (W0.alloc (.cells #[] 45)).heap.size := by rw [World.size_alloc]; omega
          have m4 : Below w.heap.size w (W0.alloc (.cells #[] 45)) := HBW.out.alloc HS.out _
          have HBM := Lib.hid (show w.heap.size ≤ M by rw [hM]; exact HS.out)
          rw [← hM] at m1 ⊢
          have HM := Lib.hid hM
          clear hM
          generalize W0.alloc (.cells #[] 45) = wb at m1 m2 m3 m4 ⊢
          go_loopw [11, 10] (fun y mv wz => ∃ j : Nat, y = .int .i64 j ∧ j ≤ lk ∧ Hid (wz.ownsRow M 45 1 mv (j) (i8s (rowP A B k i j 0))) ∧ Hid (Below M W0 wz) ∧ Hid (Below w.heap.size w wz) ∧ Hid (M ≤ wz.heap.size)) (fun y _ _ => lk - (intOf y).toNat)
          case atStart => exact ⟨0, rfl, by omega, Lib.hid (by rw [rowP_zero]; exact m1), Lib.hid m2, Lib.hid m4, Lib.hid m3⟩
          case round =>
            try clear m1 m2 m3 m4
            try clear HQ HQB HW HQS
            obtain ⟨j, rfl, hj, HQ, HQB, HW, HQS⟩ := hrel
            by_cases hlj : j < lk
            · have T3 : decide ((j : Int) < (lk : Int)) = true := by simp; omega
              have j1 : (j : Int) < (lk : Int) := by omega
              obtain ⟨b2, off2, rfl, _, hlb2, hcell2⟩ := HCk.out (by omega)
              have q1 : wr.cell? ⟨bb, ob + k, none⟩ = some (.slice (some ⟨b2, off2, none⟩) lk ck) := (HW.out.cell (p := ⟨bb, ob + k, none⟩) HLTk.out).trans HKk.out
              have q2 : wr.cell? ⟨b2, off2 + j, none⟩ = some (.int .i8 ((B.getD k []).getD j 0)) := (HW.out.cell (p := ⟨b2, off2 + j, none⟩) hlb2).trans (hcell2 j hlj)
              have rr := row_at (HVB.out.2 k HVk.out) j (by rw [← HLk.out]; exact hlj)
              have HLJ := Lib.hid (show j < (B.getD k []).length by rw [← HLk.out]; exact hlj)
              have HCL2 := Lib.hid hcell2
              clear hcell2
              obtain ⟨t, ht⟩ : ∃ t, t = (B.getD k []).getD j 0 := ⟨_, rfl⟩
              rw [← ht] at q2 rr
              have HT := Lib.hid ht
              clear ht
              obtain ⟨t0, t1⟩ := rr
              obtain ⟨pp0, pp1, s0, s1⟩ := add_bound1 HNM.out hi2 hk2 t0 t1
              have cv0 := conv8' _ s0 s1
              obtain ⟨x, hx⟩ : ∃ x, x = (i : Int) + (A.length : Int) * t := ⟨_, rfl⟩
              have cv : IntKind.wrap .i8 ((i : Int) + (A.length : Int) * t) = x := by rw [cv0, hx]
              have HX := Lib.hid hx
              clear hx cv0
              go_wp2_with (at_builtin; refine wpList_append_own _ rfl _ _ 43 rfl (M) 45 i8 (.int .i8 0) 1 1 Try.underlying43 h8 h80 h81 h82 rfl (by decide) _ (j) _ rfl (HQ.out.alloc _) ⟨wr.heap.size, 0, none⟩ 1 1 [.int .i8 x] rfl rfl ?c1 ?c2 ?c3 ?c4 ?c5 ?_)
              case c1 => exact one_cell2 _ _ _
              case c2 => simp [Value.oneCell']
              case c3 => unfold maxLen; omega
              case c4 => omega
              case c5 => rw [World.size_alloc]; have := HQS.out; omega
              intro s' wy hown hgrow _
              rw [HX.out, HT.out, rowP_one A B k i j HLJ.out] at hown
              have hw1 : w.heap.size ≤ wr.heap.size := Nat.le_trans HBM.out HQS.out
              have HB2 := Lib.hid ((HQB.out.alloc HQS.out _).grown hgrow (by rw [World.size_alloc]; have := HQS.out; omega) (fun x hx => (HQ.out.lt x hx).1))
              have HW2 := Lib.hid ((HW.out.alloc hw1 _).grown hgrow (by rw [World.size_alloc]; omega) (fun x hx => Nat.le_trans HBM.out (HQ.out.lt x hx).1))
              have HS2 := Lib.hid (Nat.le_trans (show M ≤ (wr.alloc (.cells #[.int .i8 x] 45)).heap.size by rw [World.size_alloc]; have := HQS.out; omega) hgrow.size)
              have HQ2 := Lib.hid hown
              clear hown hgrow HQ HQB HQS HW hw1
              go_wp2_with fail
              exact ⟨⟨j + 1, by go_num, by omega, HQ2, HB2, HW2, HS2⟩, by simp [intOf]; omega⟩
            · obtain rfl : lk = j := by omega
              have T3 : decide ((lk : Int) < (lk : Int)) = false := by simp
              have q1 : wr.cell? ⟨bb, ob + k, none⟩ = some (.slice Ak lk ck) := (HW.out.cell (p := ⟨bb, ob + k, none⟩) HLTk.out).trans HKk.out
              have q3 : wr.cell? ⟨ba, oa + i, none⟩ = some (.slice Ai li ci) := (HW.out.cell (p := ⟨ba, oa + i, none⟩) HLTi.out).trans HKi.out
              go_wp2_with fail
              go_loopw [12, 10] (fun y mv wz => ∃ j : Nat, y = .int .i64 j ∧ j ≤ li ∧ Hid (wz.ownsRow M 45 1 mv (lk + j) (i8s (rowP A B k i lk j))) ∧ Hid (Below M W0 wz) ∧ Hid (Below w.heap.size w wz) ∧ Hid (M ≤ wz.heap.size)) (fun y _ _ => li - (intOf y).toNat)
              case atStart => exact ⟨0, rfl, by omega, HQ, HQB, HW, HQS⟩
              case round =>
                try clear m1 m2 m3 m4
                try clear HQ HQB HW HQS
                obtain ⟨j, rfl, hj, HQ, HQB, HW, HQS⟩ := hrel
                by_cases hlj : j < li
                · have T3 : decide ((j : Int) < (li : Int)) = true := by simp; omega
                  have j1 : (j : Int) < (li : Int) := by omega
                  obtain ⟨b2, off2, rfl, _, hlb2, hcell2⟩ := HCi.out (by omega)
                  have q1 : wr.cell? ⟨ba, oa + i, none⟩ = some (.slice (some ⟨b2, off2, none⟩) li ci) := (HW.out.cell (p := ⟨ba, oa + i, none⟩) HLTi.out).trans HKi.out
                  have q2 : wr.cell? ⟨b2, off2 + j, none⟩ = some (.int .i8 ((A.getD i []).getD j 0)) := (HW.out.cell (p := ⟨b2, off2 + j, none⟩) hlb2).trans (hcell2 j hlj)
                  have rr := row_at (HVA.out.2 i HVi.out) j (by rw [← HLi.out]; exact hlj)
                  have HLJ := Lib.hid (show j < (A.getD i []).length by rw [← HLi.out]; exact hlj)
                  have HCL2 := Lib.hid hcell2
                  clear hcell2
                  obtain ⟨t, ht⟩ : ∃ t, t = (A.getD i []).getD j 0 := ⟨_, rfl⟩
                  rw [← ht] at q2 rr
                  have HT := Lib.hid ht
                  clear ht
                  obtain ⟨t0, t1⟩ := rr
                  obtain ⟨pp0, pp1, s0, s1⟩ := add_bound2 HNM.out hi2 hk2 t0 t1
                  have cv0 := conv8' _ s0 s1
                  obtain ⟨x, hx⟩ : ∃ x, x = t + (A.length : Int) * (k : Int) := ⟨_, rfl⟩
                  have cv : IntKind.wrap .i8 (t + (A.length : Int) * (k : Int)) = x := by rw [cv0, hx]
                  have HX := Lib.hid hx
                  clear hx cv0
                  go_wp2_with (at_builtin; refine wpList_append_own _ rfl _ _ 43 rfl (M) 45 i8 (.int .i8 0) 1 1 Try.underlying43 h8 h80 h81 h82 rfl (by decide) _ (lk + j) _ rfl (HQ.out.alloc _) ⟨wr.heap.size, 0, none⟩ 1 1 [.int .i8 x] rfl rfl ?c1 ?c2 ?c3 ?c4 ?c5 ?_)
                  case c1 => exact one_cell2 _ _ _
                  case c2 => simp [Value.oneCell']
                  case c3 => unfold maxLen; omega
                  case c4 => omega
                  case c5 => rw [World.size_alloc]; have := HQS.out; omega
                  intro s' wy hown hgrow _
                  rw [HX.out, HT.out, rowP_two A B k i lk j HLJ.out] at hown
                  have hw1 : w.heap.size ≤ wr.heap.size := Nat.le_trans HBM.out HQS.out
                  have HB2 := Lib.hid ((HQB.out.alloc HQS.out _).grown hgrow (by rw [World.size_alloc]; have := HQS.out; omega) (fun x hx => (HQ.out.lt x hx).1))
                  have HW2 := Lib.hid ((HW.out.alloc hw1 _).grown hgrow (by rw [World.size_alloc]; omega) (fun x hx => Nat.le_trans HBM.out (HQ.out.lt x hx).1))
                  have HS2 := Lib.hid (Nat.le_trans (show M ≤ (wr.alloc (.cells #[.int .i8 x] 45)).heap.size by rw [World.size_alloc]; have := HQS.out; omega) hgrow.size)
                  have HQ2 := Lib.hid hown
                  clear hown hgrow HQ HQB HQS HW hw1
                  go_wp2_with fail
                  exact ⟨⟨j + 1, by go_num, by omega, HQ2, HB2, HW2, HS2⟩, by simp [intOf]; omega⟩
                · obtain rfl : li = j := by omega
                  have T3 : decide ((li : Int) < (li : Int)) = false := by simp
                  have q1 : wr.cell? ⟨ba, oa + i, none⟩ = some (.slice Ai li ci) := (HW.out.cell (p := ⟨ba, oa + i, none⟩) HLTi.out).trans HKi.out
                  obtain ⟨A2, c2, rfl, _, _⟩ := own_form HQ.out
                  obtain ⟨U, hU⟩ := HO.out
                  have hU2 := hU.below (by rw [← HM.out]; exact HQB.out)
                  have hout := hU2.outer
                  rw [addL_len] at hout
                  obtain ⟨A3, c3, rfl, _, _⟩ := own_form hout
                  have HU := Lib.hid hU
                  have HU2 := Lib.hid hU2
                  have HOUT := Lib.hid hout
                  have hkn : k * A.length + i < 3600 := by
                    have e1 := Nat.mul_le_mul (Nat.le_of_lt hk2) a2
                    have e2 : B.length * 60 ≤ 3600 - 60 + 60 := by omega
                    have e3 : k * A.length + A.length ≤ B.length * A.length := by rw [← Nat.succ_mul]; exact Nat.mul_le_mul_right _ hk2
                    have e4 := HNM.out
                    rw [Nat.mul_comm] at e4
                    omega
                  have hrow : wr.ownsRow M 45 1 (.slice A2 (lk + li) c2) (rowF A B k i).length (i8s (rowF A B k i)) := by
                    have e : (rowF A B k i).length = lk + li := by
                      unfold rowF; rw [rowP_len _ _ _ _ _ _ (Nat.le_refl _) (Nat.le_refl _), HLk.out, HLi.out]
                    rw [e]
                    unfold rowF
                    rw [← HLk.out, ← HLi.out]
                    exact HQ.out
                  have HROW := Lib.hid hrow
                  clear hU hU2 hout hrow
                  go_wp2_with (at_builtin; refine wpList_append_own _ rfl _ _ 25 rfl (w.heap.size) 43 ir (.slice none 0 0) 1 24 Try.underlying25 hr hr0 hr1 hr2 rfl (by decide) _ (k * A.length + i) _ rfl (HOUT.out.alloc _) ⟨wr.heap.size, 0, none⟩ 1 1 [.slice A2 (lk + li) c2] rfl rfl ?c1 ?c2 ?c3 ?c4 ?c5 ?_)
                  case c1 => exact one_cell2 _ _ _
                  case c2 => simp [Value.oneCell']
                  case c3 => unfold maxLen; omega
                  case c4 => omega
                  case c5 => rw [World.size_alloc]; have := HQS.out; have := HBM.out; omega
                  intro s' wy hown hgrow _
                  have hal : Below wr.heap.size wr (wr.alloc (.cells #[.slice A2 (lk + li) c2] 43)) := (Below.refl _ _).alloc (Nat.le_refl _) _
                  have hnew := (HU2.out.below hal).snoc hgrow (by rw [addL_len]; exact hown) (own_below HROW.out hal) HBM.out
                    (rowP_small A B k i _ _ HNM.out hi2 hk2 (HVA.out.2 i hi2) (HVB.out.2 k hk2)) (by
                    intro p hp b hb
                    rw [HM.out]
                    exact HU.out.lows p hp b hb)
                  rw [addL_snoc A B k i hi2] at hnew
                  have hw1 : w.heap.size ≤ wr.heap.size := Nat.le_trans HBM.out HQS.out
                  have HB2 := Lib.hid ((HW.out.alloc hw1 (.cells #[.slice A2 (lk + li) c2] 43)).grown hgrow (by rw [World.size_alloc]; omega) (fun x hx => (HOUT.out.lt x hx).1))
                  have HS2 := Lib.hid (Nat.le_trans (show w.heap.size ≤ (wr.alloc (.cells #[.slice A2 (lk + li) c2] 43)).heap.size by rw [World.size_alloc]; omega) hgrow.size)
                  have HO2 := Lib.hid (show ∃ U, OGU U w.heap.size wy s' (addL A B (k * A.length + (i + 1))) from ⟨_, hnew⟩)
                  clear hown hgrow HQ HQB HQS HO HBW HS hnew HU HU2 HOUT hal hw1 HW HROW
                  go_wp2_with fail
                  exact ⟨⟨i + 1, by go_num, by omega, HO2, HB2, HS2⟩, by simp [intOf]; omega⟩
        · obtain rfl : i = A.length := by omega
          have T4 : decide (((A.length : Nat) : Int) < (A.length : Int)) = false := by simp
          have HO2 : Hid (∃ U, OGU U w.heap.size wr u7 (addL A B ((k + 1) * A.length))) := Lib.hid (by rw [Nat.succ_mul]; exact HO.out)
          go_wp2_with fail
          exact ⟨⟨k + 1, by go_num, by omega, HO2, HBW, HS⟩, by simp [intOf]; omega⟩
    · obtain rfl : k = B.length := by omega
      have T2 : decide (((B.length : Nat) : Int) < (B.length : Int)) = false := by simp
      obtain ⟨U, hU⟩ := HO.out
      go_wp2_with fail
      go_ret2
      exact ⟨_, U, rfl, hU, HBW.out⟩
end Go.Proofs.Ytkeliojgldfkkaa
