/-
  A span that grows, of the model.
-/
import Derived.Test.YthhjhfkcgokffaaYt
namespace Go.Proofs.Ythhjhfkcgokffaa
set_option linter.unusedVariables false
set_option linter.unusedSimpArgs false
open Go.ChangeShapes Go.WideShapes Go.ChangeAt Go.RowKit Go.Shelf

/-- the first j sums with one product -/
def grQ (sp : List (List Int)) (x : List Int) (a j : Nat) : List (List Int) := grP sp x a ++ (sp.take j).map fun y => wplus y (wscale (a : Int) x)
theorem grQ_zero (sp : List (List Int)) (x : List Int) (a : Nat) : grQ sp x a 0 = grP sp x a := by unfold grQ; simp
theorem grQ_snoc {sp : List (List Int)} {x : List Int} {a j : Nat} (hj : j < sp.length) : grQ sp x a (j + 1) = grQ sp x a j ++ [wplus (sp.getD j []) (wscale (a : Int) x)] := by
  unfold grQ
  rw [List.take_add_one, List.map_append, ← List.append_assoc]
  simp [List.getD, hj]
theorem grQ_end (sp : List (List Int)) (x : List Int) (a : Nat) : grQ sp x a sp.length = grP sp x (a + 1) := by
  unfold grQ; rw [List.take_length]; rfl
theorem grQ_len (sp : List (List Int)) (x : List Int) (a j : Nat) (hj : j ≤ sp.length) : (grQ sp x a j).length = sp.length * a + j := by
  unfold grQ; rw [List.length_append, grP_len, List.length_map, List.length_take, Nat.min_eq_left hj]
set_option maxHeartbeats 1000000 in
theorem l06Wider_many (N : Nat) (v u : Value) (sp : List (List Int)) (hsp : sp.length ≤ 300) (hN : N ≤ 256) (h300 : 300 < sp.length * N) (w : World) (h : ∃ A c, v = .slice A sp.length c) (h' : ∃ A n c, u = .slice A n c) :
    Calls Try.prog 97 #[.int .i64 (N : Int), v, u] w fun e w' => ∃ r, e = .returned r ∧ GW w' w.heap.size r [] ∧ Below w.heap.size w w' := by
  obtain ⟨A, c, rfl⟩ := h
  obtain ⟨A', n', c', rfl⟩ := h'
  obtain ⟨m, hm⟩ : ∃ m : Nat, m = sp.length * N := ⟨_, rfl⟩
  have hmul : (sp.length : Int) * (N : Int) = (m : Int) := by rw [hm, Int.natCast_mul]
  have hmb : m ≤ 300 * 256 := by rw [hm]; exact Nat.mul_le_mul hsp hN
  have T1 : decide ((300 : Int) < (m : Int)) = true := by rw [decide_eq_true_iff]; omega
  have hwr : IntKind.i64.wrap ((sp.length : Int) * (N : Int)) = (m : Int) := by rw [hmul, IntKind.wrap_i64]; omega
  clear h300 hm
  go_enter Try.func97, Try.ntmps97
  go_wp2_with fail
  go_ret
  exact ⟨_, rfl, GW.made w, (Below.refl _ w).alloc (Nat.le_refl _) _⟩
set_option maxHeartbeats 8000000 in
set_option maxRecDepth 100000 in
theorem l06Wider_any (N : Nat) (v u : Value) (sp : List (List Int)) (x : List Int) (hsp : sp.length ≤ 300) (hN : N ≤ 256) (h300 : ¬ 300 < sp.length * N) (hx : x.length ≤ 1048576) (hl : ∀ i, i < sp.length → (sp.getD i []).length = x.length) (w : World) (h : WS w v sp) (h' : NS w u x) :
    Calls Try.prog 97 #[.int .i64 (N : Int), v, u] w fun e w' => ∃ r, e = .returned r ∧ GW w' w.heap.size r (grP sp x N) ∧ Below w.heap.size w w' := by
  obtain ⟨i0, hi, hz0, hz1, hz2⟩ := info_parts infoWord
  obtain ⟨A, c, us, rfl, hc, hu⟩ := h.open
  obtain ⟨A', c', hu'⟩ := h'.form
  subst hu'
  have HC := Lib.hid hc
  have HU := Lib.hid hu
  have HX := Lib.hid h'
  have HL := Lib.hid hl
  obtain ⟨m, hm⟩ : ∃ m : Nat, m = sp.length * N := ⟨_, rfl⟩
  have hmul : (sp.length : Int) * (N : Int) = (m : Int) := by rw [hm, Int.natCast_mul]
  have hmb : m ≤ 300 := by omega
  have T1 : decide ((300 : Int) < (m : Int)) = false := by rw [decide_eq_false_iff_not]; omega
  have hwr : IntKind.i64.wrap ((sp.length : Int) * (N : Int)) = (m : Int) := by rw [hmul, IntKind.wrap_i64]; omega
  have HM := Lib.hid hm
  obtain ⟨B0, hB0⟩ : ∃ B0, B0 = w.heap.size := ⟨_, rfl⟩
  have HB0 := Lib.hid hB0
  have hG0 : GW (w.alloc (.cells #[] 25)) B0 (.slice (some ⟨w.heap.size, 0, none⟩) 0 0) (grP sp x 0) := by rw [hB0]; exact GW.made w
  have HG0 := Lib.hid hG0
  have hb0 : Below B0 w (w.alloc (.cells #[] 25)) := by rw [hB0]; exact (Below.refl _ w).alloc (Nat.le_refl _) _
  have HBB0 := Lib.hid hb0
  have HSZ : Hid (B0 < (w.alloc (.cells #[] 25)).heap.size) := Lib.hid (by rw [hB0]; simp)
  rw [← hB0]
  clear h300 hm hc hu hl h' h hG0 hb0 hB0 hmul
  go_enter Try.func97, Try.ntmps97
  go_wp2_with fail
  go_loopw [8, 7] (fun y s wr => ∃ a : Nat, y = .int .i64 (a : Int) ∧ a ≤ N ∧ Hid (GW wr B0 s (grP sp x a)) ∧ Hid (Below B0 w wr) ∧ Hid (B0 < wr.heap.size)) (fun y _ _ => N - (intOf y).toNat)
  case atStart => exact ⟨0, rfl, Nat.zero_le _, HG0, HBB0, HSZ⟩
  case round =>
    clear HG0 HBB0 HSZ
    obtain ⟨a, rfl, ha, HG, HB, HS⟩ := hrel
    obtain ⟨A1, c1, rfl⟩ := HG.out.form
    by_cases hlt : a < N
    · have i1 : (a : Int) < (N : Int) := by omega
      have hwa : IntKind.u16.wrap (a : Int) = (a : Int) := wrap16_nat (by omega)
      have hsc := l06Scale_any (a : Int) (by omega) (by omega) (.slice A' x.length c') x hx _ (HX.out.below (HB.out.mono (Nat.le_of_eq HB0.out.symm)))
      rw [show tab x.length (scaleK (a : Int) x) = wscale (a : Int) x from rfl] at hsc
      have HSC := Lib.hid hsc
      clear hsc
      go_wp2_with fail
      refine HSC.out.mono ?_
      rintro e w2 ⟨rs, rfl, hps, hb2⟩
      obtain ⟨As, ns, cs, rfl⟩ := hps.frm
      have hsl : (wscale (a : Int) x).length = x.length := by unfold wscale; rw [tab_len]
      obtain ⟨sc, hscd⟩ : ∃ sc, sc = wscale (a : Int) x := ⟨_, rfl⟩
      rw [← hscd] at hps hsl
      have HSCD := Lib.hid hscd
      have HPS := Lib.hid (hps.lower (B' := B0) (by have := HS.out; omega))
      have HGQ0 : Hid (GW w2 B0 (.slice A1 (grP sp x a).length c1) (grQ sp x a 0)) := Lib.hid (by rw [grQ_zero]; exact HG.out.below hb2)
      have HB2 : Hid (Below B0 w w2) := Lib.hid (HB.out.trans (hb2.mono (by have := HS.out; omega)))
      have HS2 : Hid (B0 < w2.heap.size) := Lib.hid (by have := HS.out; have := hb2.size; omega)
      have hla : sp.length * a + sp.length ≤ 300 := by
        have h1 : sp.length * (a + 1) ≤ sp.length * N := Nat.mul_le_mul (Nat.le_refl _) hlt
        rw [Nat.mul_succ] at h1
        have := HM.out
        omega
      clear hps hb2 hscd
      go_wp2_with fail
      go_loopw [10, 7] (fun y s wr => ∃ j : Nat, y = .int .i64 (j : Int) ∧ j ≤ sp.length ∧ Hid (GW wr B0 s (grQ sp x a j)) ∧ Hid (Below B0 w wr) ∧ Hid (B0 < wr.heap.size) ∧ Hid (PO wr B0 (.slice As ns cs) sc)) (fun y _ _ => sp.length - (intOf y).toNat)
      case atStart => exact ⟨0, rfl, Nat.zero_le _, HGQ0, HB2, HS2, HPS⟩
      case round =>
        clear HGQ0 HB2 HS2 HPS HG HB HS
        obtain ⟨j, rfl, hj, HG, HB, HS, HP⟩ := hrel
        obtain ⟨A2, c2, rfl⟩ := HG.out.form
        by_cases hjl : j < sp.length
        · obtain ⟨b, off, rfl, hlb, hcell⟩ := HC.out (by omega)
          have i2 : (j : Int) < (sp.length : Int) := by omega
          have q1 : wr.cell? ⟨b, off + j, none⟩ = some (us j) := (HB.out.cell (p := ⟨b, off + j, none⟩) (by rw [HB0.out]; exact hlb)).trans (hcell j hjl)
          have hlj := HL.out j hjl
          have hpl := l06Plus_any (us j) (.slice As ns cs) (sp.getD j []) sc (by omega) (by omega) wr ((HU.out j hjl).below (HB.out.mono (Nat.le_of_eq HB0.out.symm))) HP.out.ns
          rw [show tab (sp.getD j []).length (plusK2 (sp.getD j []) sc) = wplus (sp.getD j []) sc from rfl] at hpl
          have hgl : (grQ sp x a j).length ≤ 300 := by rw [grQ_len sp x a j hj]; omega
          have HSN := Lib.hid (grQ_snoc (sp := sp) (x := x) (a := a) hjl)
          rw [← HSCD.out] at HSN
          obtain ⟨gq, hgq⟩ : ∃ gq, gq = grQ sp x a j := ⟨_, rfl⟩
          rw [← hgq] at HG HSN hgl
          obtain ⟨xx, hxx⟩ : ∃ xx, xx = wplus (sp.getD j []) sc := ⟨_, rfl⟩
          rw [← hxx] at hpl HSN
          obtain ⟨ux, hux⟩ : ∃ u, u = us j := ⟨_, rfl⟩
          rw [← hux] at hpl q1
          have hg0 : grQ sp x a j = gq := hgq.symm
          rw [hg0]
          have HPL := Lib.hid hpl
          have HCL := Lib.hid hcell
          clear hpl hcell hgq hxx hux hg0
          go_wp2_with fail
          refine HPL.out.mono ?_
          rintro e w3 ⟨r, rfl, hpo, hb3⟩
          obtain ⟨Ar, nr, cr, rfl⟩ := hpo.frm
          have HPO := Lib.hid hpo
          have HB3 := Lib.hid hb3
          obtain ⟨vs0, ho0⟩ := HG.out.own
          have ho1 : (w3.alloc (.cells #[.slice Ar nr cr] 25)).ownsRow B0 25 1 (.slice A2 gq.length c2) gq.length vs0 := own_below ho0 (hb3.alloc hb3.size _)
          have HO1 := Lib.hid ho1
          have hB5 : Below B0 w (w3.alloc (.cells #[.slice Ar nr cr] 25)) := (HB.out.trans (hb3.mono (by have := HS.out; omega))).alloc (by have := HS.out; have := hb3.size; omega) _
          have HB5 := Lib.hid hB5
          have HP5 : Hid (PO (w3.alloc (.cells #[.slice Ar nr cr] 25)) B0 (.slice As ns cs) sc) := Lib.hid (HP.out.below (hb3.alloc hb3.size _))
          have hsp5 := own_spot ho1
          have HSP := Lib.hid hsp5
          have HTY := Lib.hid (fun k hk => own_tyw ho1 k hk)
          clear hpo hb3 ho0 ho1 hB5 hsp5
          go_wp2_with (at_builtin; refine wpList_append_own _ rfl _ _ 44 rfl B0 25 i0 (.slice none 0 0) 1 24 Try.underlying44 hi hz0 hz1 hz2 rfl (by decide) _ gq.length vs0 rfl HO1.out ⟨w3.heap.size, 0, none⟩ 1 1 [.slice Ar nr cr] rfl rfl ?c1 ?c2 ?c3 ?c4 ?c5 ?_)
          case c1 => exact row1_cells w3 _ _
          case c2 => exact fun u hu => by rw [List.mem_singleton] at hu; rw [hu]; rfl
          case c3 => unfold maxLen; omega
          case c4 => omega
          case c5 => have := HS.out; have := HB3.out.size; simp; omega
          intro s' wy hown hgrow _
          have hgw : GW wy B0 s' (gq ++ [xx]) := HG.out.snoc (u := .slice Ar nr cr) (x := xx) (by have := HS.out; omega) HB3.out HPO.out (w3 := w3.alloc (.cells #[.slice Ar nr cr] 25)) ((Below.refl _ w3).alloc (Nat.le_refl _) _) (fun vs h => by
            have ev : vs = vs0 := own_list h HO1.out
            rw [ev]; exact hown) hgrow
          have HGW := Lib.hid hgw
          have HB6 := Lib.hid (HB5.out.grown hgrow (by have := HS.out; have := HB3.out.size; simp; omega) (fun q hq => (HSP.out q hq).1))
          have HS6 : Hid (B0 < wy.heap.size) := Lib.hid (by have := HS.out; have := HB3.out.size; have := hgrow.size; simp at this; omega)
          have HP6 : Hid (PO wy B0 (.slice As ns cs) sc) := Lib.hid (HP5.out.grown_ws hgrow HTY.out)
          clear hown hgrow hgw
          go_wp2_with fail
          exact ⟨⟨j + 1, by go_num, by omega, Lib.hid (by rw [HSN.out]; exact HGW.out), HB6, HS6, HP6⟩, by simp [intOf]; omega⟩
        · obtain rfl : j = sp.length := by omega
          have T6 : decide ((sp.length : Int) < (sp.length : Int)) = false := by simp
          have hge := grQ_end sp x a
          rw [hge] at HG
          rw [hge]
          go_wp2_with fail
          exact ⟨⟨a + 1, by go_num, by omega, HG, HB, HS⟩, by simp [intOf]; omega⟩
    · obtain rfl : a = N := by omega
      have T6 : decide ((a : Int) < (a : Int)) = false := by simp
      go_wp2_with fail
      go_ret
      exact ⟨_, rfl, HG.out, HB.out⟩
end Go.Proofs.Ythhjhfkcgokffaa
