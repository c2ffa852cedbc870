/-
  FlipGate of the model.
-/
import Derived.Test.YtngaelifkhelbaaDoorDq
namespace Go.Proofs.YtngaelifkhelbaaDoor
set_option linter.unusedVariables false
set_option linter.unusedSimpArgs false
open Go.ChangeShapes Go.WideShapes Go.ChangeAt Go.RowKit Go.Deep
theorem region_post7 {P : Program} {c : Code} {a : Act} {w : World} {Q : Exit → Act → World → Prop} {A : Nat → Nat → Nat → Option Addr → Nat → Option Addr → Nat → Act} (R : Nat → Nat → Nat → Option Addr → Nat → Option Addr → Nat → World → Prop)
    (h1 : c.wp P (fun x a' w' => x = .normal ∧ ∃ p q r s t u v, a' = A p q r s t u v ∧ R p q r s t u v w') a w) (h2 : ∀ p q r s t u v w', R p q r s t u v w' → Q .normal (A p q r s t u v) w') : c.wp P Q a w :=
  Code.wp_mono (fun x a' w' ⟨hx, p, q, r, s, t, u, v, ha, hr⟩ => by subst hx; subst ha; exact h2 p q r s t u v w' hr) h1
theorem set_self {α : Type} {l : List α} {j : Nat} {x : α} (h : l[j]? = some x) : l.set j x = l := by
  apply List.ext_getElem?
  intro q
  rw [List.getElem?_set]
  by_cases e : j = q
  · subst e
    have hj := (List.getElem?_eq_some_iff.1 h).1
    rw [if_pos rfl, if_pos hj, h]
  · rw [if_neg e]
theorem kind_set (gs : List G3) (k : Nat) (hk : k < gs.length) (z : Int) : (gcs gs).set (k * 3) (.int .i8 z) = gcs (gs.set k (z, (gs.getD k gz).2.1, (gs.getD k gz).2.2)) := by
  rw [← gcs_set gs k _ hk]
  have e1 : ((gcs gs).set (k * 3) (.int .i8 z))[k * 3 + 1]? = some (.int .i16 (gs.getD k gz).2.1) := by
    rw [List.getElem?_set, if_neg (by omega)]; exact (gcs_get gs k hk 1 (by omega)).trans rfl
  have e2 : ((gcs gs).set (k * 3) (.int .i8 z))[k * 3 + 2]? = some (.int .i16 (gs.getD k gz).2.2) := by
    rw [List.getElem?_set, if_neg (by omega)]; exact (gcs_get gs k hk 2 (by omega)).trans rfl
  rw [set_self e1, set_self e2]

set_option maxHeartbeats 16000000 in
set_option maxRecDepth 100000 in
theorem spec_FlipGate (v : Value) (n : Int) (gs : List G3) (os : List Int) (i : Int) (hbi : -9223372036854775808 ≤ i ∧ i ≤ 9223372036854775807) (w : World) (h : CI w v n gs os) :
    Calls Tryd.prog 36 #[v, .int .i64 i] w fun e w' => ∃ u, e = .returned (.tuple #[u, .int .i64 (fgK n gs os i)]) ∧ Below w.heap.size w w' ∧ CO w.heap.size w'.heap.size w' u (fgN n gs os i) (fgG n gs os i) (fgO n gs os i) := by
  clear hbi
  have H := Lib.hid h
  obtain ⟨G, O, rfl, hn, hg, ho⟩ := h
  have HG := Lib.hid hg; have HO := Lib.hid ho
  obtain ⟨A, c, rfl⟩ := hg.form
  obtain ⟨A2, c2, rfl⟩ := ho.form
  clear hg ho
  cases hc : circB n gs os with
  | false =>
    have hB : fgB n gs os i = false := by unfold fgB; rw [hc]; rfl
    have hK : fgK n gs os i = 1 := by unfold fgK; rw [hc]; rfl
    have eN : fgN n gs os i = 0 := by unfold fgN; rw [hB]; rfl
    have eG : fgG n gs os i = [] := by unfold fgG; rw [hB]; rfl
    have eO : fgO n gs os i = [] := by unfold fgO; rw [hB]; rfl
    rw [eN, eG, eO, hK]
    clear eN eG eO hK hB
    have HCF := Lib.hid hc
    clear hc
    obtain ⟨a1, a2, hb1, s1⟩ := nw2 w (.cells #[.int .i8 n, .slice A gs.length c, .slice A2 os.length c2] 33) (.cells #[.int .i8 0, .slice none 0 0, .slice none 0 0] 33)
    go_enter Tryd.func36, Tryd.ntmps36
    go_wp2_with fail
    generalize World.alloc (World.alloc w _) _ = w1 at a1 a2 hb1 s1 ⊢
    refine (l07Ok_any w.heap.size n _ _ gs os w1 ⟨_, a1⟩ hn (HG.out.below hb1) (HO.out.below hb1)).mono ?_
    rintro e w2 ⟨rfl, hb⟩
    have M2 : Hid (BX w2 (w.heap.size + 1) (.int .i8 0) (.slice none 0 0) (.slice none 0 0)) := Lib.hid (BX.below ⟨_, a2⟩ hb)
    have C2 : Hid (BX w2 w.heap.size (.int .i8 n) (.slice A gs.length c) (.slice A2 os.length c2)) := Lib.hid (BX.below ⟨_, a1⟩ hb)
    have HB2 := Lib.hid (hb1.trans (hb.mono hb1.size))
    have HWS : Hid (w.heap.size + 2 ≤ w2.heap.size) := Lib.hid (by have := hb.size; omega)
    clear hb hb1 a1 a2 s1
    rw [HCF.out]
    have r2 := M2.out.there
    go_wp2_with (guard_target =~ wpList _ _ _ (⟨_, Op.store 33 _ _, _, _, _, _⟩ :: _) _ _; refine wpList_store_mid rfl 33 _ _ rfl (w.heap.size + 1) 0 #[.int .i8 0, .slice none 0 0, .slice none 0 0] rfl rfl r2 (by kernel_rfl) (three_one rfl rfl rfl) ?_)
    obtain ⟨t8, h8⟩ := M2.out.puts (.int .i8 0) (.slice none 0 0) (.slice none 0 0)
    refine bodyPost_ret (v := .tuple #[.agg #[.int .i8 0, .slice none 0 0, .slice none 0 0], .int .i64 1]) ?_ rfl ⟨_, rfl, bsets (by omega) _ 0 w2 HB2.out, ⟨.slice none 0 0, .slice none 0 0, rfl, by omega, by simp, by simp, World.ownsRow_nil _ _ _ _, World.ownsRow_nil _ _ _ _, by simp [Value.ownBlock], by simp [Value.ownBlock], by simp [Value.ownBlock]⟩⟩
    exact results_cell_tmp rfl _ _ (w.heap.size + 1) _ _ (0, 0) _ _ rfl rfl h8 Tryd.underlying33 rfl (by kernel_rfl)
  | true =>
    have HC := Lib.hid hc
    have hlen : gs.length ≤ 600 := (head_of hc).2.2.1
    have hol : os.length ≤ 16 := (head_of hc).2.2.2
    cases hr : decide (0 ≤ i ∧ i < (gs.length : Int)) with
    | false =>
      have hB : fgB n gs os i = false := by unfold fgB; rw [hr]; simp
      have hK : fgK n gs os i = 2 := by unfold fgK; rw [hc, hr]; rfl
      have eN : fgN n gs os i = 0 := by unfold fgN; rw [hB]; rfl
      have eG : fgG n gs os i = [] := by unfold fgG; rw [hB]; rfl
      have eO : fgO n gs os i = [] := by unfold fgO; rw [hB]; rfl
      rw [eN, eG, eO, hK]
      clear eN eG eO hK hB
      have HR := Lib.hid hr
      clear hc hr
      obtain ⟨a1, a2, hb1, s1⟩ := nw2 w (.cells #[.int .i8 n, .slice A gs.length c, .slice A2 os.length c2] 33) (.cells #[.int .i8 0, .slice none 0 0, .slice none 0 0] 33)
      go_enter Tryd.func36, Tryd.ntmps36
      go_wp2_with fail
      generalize World.alloc (World.alloc w _) _ = w1 at a1 a2 hb1 s1 ⊢
      refine (l07Ok_any w.heap.size n _ _ gs os w1 ⟨_, a1⟩ hn (HG.out.below hb1) (HO.out.below hb1)).mono ?_
      rintro e w2 ⟨rfl, hb⟩
      have M2 : Hid (BX w2 (w.heap.size + 1) (.int .i8 0) (.slice none 0 0) (.slice none 0 0)) := Lib.hid (BX.below ⟨_, a2⟩ hb)
      have C2 : Hid (BX w2 w.heap.size (.int .i8 n) (.slice A gs.length c) (.slice A2 os.length c2)) := Lib.hid (BX.below ⟨_, a1⟩ hb)
      have HB2 := Lib.hid (hb1.trans (hb.mono hb1.size))
      have HWS : Hid (w.heap.size + 2 ≤ w2.heap.size) := Lib.hid (by have := hb.size; omega)
      clear hb hb1 a1 a2 s1
      rw [HC.out]
      have c1 := C2.out.c1
      go_wp2_with fail
      refine (inC_any i 0 ((gs.length : Int) - 1) w2).mono ?_
      rintro e w3 ⟨rfl, hww⟩
      subst hww
      rw [show decide (0 ≤ i ∧ i ≤ (gs.length : Int) - 1) = false from by rw [← HR.out]; congr 1; apply propext; omega]
      have r2 := M2.out.there
      go_wp2_with (guard_target =~ wpList _ _ _ (⟨_, Op.store 33 _ _, _, _, _, _⟩ :: _) _ _; refine wpList_store_mid rfl 33 _ _ rfl (w.heap.size + 1) 0 #[.int .i8 0, .slice none 0 0, .slice none 0 0] rfl rfl r2 (by kernel_rfl) (three_one rfl rfl rfl) ?_)
      obtain ⟨t8, h8⟩ := M2.out.puts (.int .i8 0) (.slice none 0 0) (.slice none 0 0)
      refine bodyPost_ret (v := .tuple #[.agg #[.int .i8 0, .slice none 0 0, .slice none 0 0], .int .i64 2]) ?_ rfl ⟨_, rfl, bsets (by omega) _ 0 w3 HB2.out, ⟨.slice none 0 0, .slice none 0 0, rfl, by omega, by simp, by simp, World.ownsRow_nil _ _ _ _, World.ownsRow_nil _ _ _ _, by simp [Value.ownBlock], by simp [Value.ownBlock], by simp [Value.ownBlock]⟩⟩
      exact results_cell_tmp rfl _ _ (w.heap.size + 1) _ _ (0, 0) _ _ rfl rfl h8 Tryd.underlying33 rfl (by kernel_rfl)
    | true =>
      have hr2 := of_decide_eq_true hr
      obtain ⟨iN, rfl⟩ : ∃ iN : Nat, i = (iN : Int) := ⟨i.toNat, by omega⟩
      have hlt : iN < gs.length := by omega
      have i1 : (iN : Int) < (gs.length : Int) := by omega
      have HR := Lib.hid hr
      cases hj : joinB (gs.getD ((iN : Int)).toNat gz) with
      | false =>
        have hB : fgB n gs os (iN : Int) = false := by unfold fgB; rw [hj]; simp
        have hK : fgK n gs os (iN : Int) = 4 := by unfold fgK; rw [hc, hr, hj]; rfl
        have eN : fgN n gs os (iN : Int) = 0 := by unfold fgN; rw [hB]; rfl
        have eG : fgG n gs os (iN : Int) = [] := by unfold fgG; rw [hB]; rfl
        have eO : fgO n gs os (iN : Int) = [] := by unfold fgO; rw [hB]; rfl
        rw [eN, eG, eO, hK]
        clear eN eG eO hK hB
        have HJ := Lib.hid (show joinB (gs.getD iN gz) = false from hj)
        clear hc hr hr2 hj
        obtain ⟨a1, a2, hb1, s1⟩ := nw2 w (.cells #[.int .i8 n, .slice A gs.length c, .slice A2 os.length c2] 33) (.cells #[.int .i8 0, .slice none 0 0, .slice none 0 0] 33)
        go_enter Tryd.func36, Tryd.ntmps36
        go_wp2_with fail
        generalize World.alloc (World.alloc w _) _ = w1 at a1 a2 hb1 s1 ⊢
        refine (l07Ok_any w.heap.size n _ _ gs os w1 ⟨_, a1⟩ hn (HG.out.below hb1) (HO.out.below hb1)).mono ?_
        rintro e w2 ⟨rfl, hb⟩
        have M2 : Hid (BX w2 (w.heap.size + 1) (.int .i8 0) (.slice none 0 0) (.slice none 0 0)) := Lib.hid (BX.below ⟨_, a2⟩ hb)
        have C2 : Hid (BX w2 w.heap.size (.int .i8 n) (.slice A gs.length c) (.slice A2 os.length c2)) := Lib.hid (BX.below ⟨_, a1⟩ hb)
        have HB2 := Lib.hid (hb1.trans (hb.mono hb1.size))
        have HWS : Hid (w.heap.size + 2 ≤ w2.heap.size) := Lib.hid (by have := hb.size; omega)
        clear hb hb1 a1 a2 s1
        rw [HC.out]
        have c1 := C2.out.c1
        go_wp2_with fail
        refine (inC_any (iN : Int) 0 ((gs.length : Int) - 1) w2).mono ?_
        rintro e w3 ⟨rfl, hww⟩
        subst hww
        rw [show decide (0 ≤ (iN : Int) ∧ (iN : Int) ≤ (gs.length : Int) - 1) = true from by rw [← HR.out]; congr 1; apply propext; omega]
        have HB3 := Lib.hid HB2.out; have C3 := Lib.hid C2.out; have M3 := Lib.hid M2.out; have HW3 := Lib.hid HWS.out
        clear HB2 C2 M2 HWS
        obtain ⟨b, off, c', e, hlb, hgw, d0, d1, d2⟩ := (HG.out.below HB3.out).at iN hlt
        cases e
        obtain ⟨x, hx⟩ : ∃ x, x = gs.getD iN gz := ⟨_, rfl⟩
        rw [← hx] at d0 d1 d2
        have hjx : joinB x = false := by rw [hx]; exact HJ.out
        obtain ⟨kd, a, bb⟩ := x
        simp only at d0 d1 d2
        have HXX := Lib.hid hx
        clear hx hgw
        go_wp2_with fail
        refine (l07Joins_any (kd, a, bb) w3).mono ?_
        rintro e w4 ⟨rfl, hb4⟩
        rw [hjx]
        have M4 := Lib.hid (M3.out.below hb4)
        have HB4 := Lib.hid (HB3.out.trans (hb4.mono HB3.out.size))
        have r4 := M4.out.there
        clear hb4 d0 d1 d2 hjx c1
        go_wp2_with (guard_target =~ wpList _ _ _ (⟨_, Op.store 33 _ _, _, _, _, _⟩ :: _) _ _; refine wpList_store_mid rfl 33 _ _ rfl (w.heap.size + 1) 0 #[.int .i8 0, .slice none 0 0, .slice none 0 0] rfl rfl r4 (by kernel_rfl) (three_one rfl rfl rfl) ?_)
        obtain ⟨t8, h8⟩ := M4.out.puts (.int .i8 0) (.slice none 0 0) (.slice none 0 0)
        refine bodyPost_ret (v := .tuple #[.agg #[.int .i8 0, .slice none 0 0, .slice none 0 0], .int .i64 4]) ?_ rfl ⟨_, rfl, bsets (by omega) _ 0 w4 HB4.out, ⟨.slice none 0 0, .slice none 0 0, rfl, by omega, by simp, by simp, World.ownsRow_nil _ _ _ _, World.ownsRow_nil _ _ _ _, by simp [Value.ownBlock], by simp [Value.ownBlock], by simp [Value.ownBlock]⟩⟩
        exact results_cell_tmp rfl _ _ (w.heap.size + 1) _ _ (0, 0) _ _ rfl rfl h8 Tryd.underlying33 rfl (by kernel_rfl)
      | true =>
        have hB : fgB n gs os (iN : Int) = true := by unfold fgB; rw [hc, hr, hj]; rfl
        have hK : fgK n gs os (iN : Int) = 0 := by unfold fgK; rw [hc, hr, hj]; rfl
        have eN : fgN n gs os (iN : Int) = n := by unfold fgN; rw [hB]; rfl
        have eG : fgG n gs os (iN : Int) = gs.set iN (flpG (gs.getD iN gz)) := by unfold fgG; rw [hB]; rfl
        have eO : fgO n gs os (iN : Int) = os := by unfold fgO; rw [hB]; rfl
        rw [eN, eG, eO, hK]
        obtain ⟨fg, hfg⟩ : ∃ fg, fg = gs.set iN (flpG (gs.getD iN gz)) := ⟨_, rfl⟩
        rw [← hfg]
        have HFG := Lib.hid hfg
        clear hfg
        have HGW := Lib.hid (flip_w HG.out.2 iN hj)
        have HJ := Lib.hid (show joinB (gs.getD iN gz) = true from hj)
        clear eN eG eO hK hB hc hr hr2 hj
        obtain ⟨i0, hi, hz0, hz1, hz2⟩ := info_parts infoI16
        obtain ⟨j0, ji, jz0, jz1, jz2⟩ := info_parts infoGate
        have HI := Lib.hid hi; have HZ0 := Lib.hid hz0; have HZ1 := Lib.hid hz1; have HZ2 := Lib.hid hz2
        have JI := Lib.hid ji; have JZ0 := Lib.hid jz0; have JZ1 := Lib.hid jz1; have JZ2 := Lib.hid jz2
        clear ji jz0 jz1 jz2 hi hz0 hz1 hz2
        obtain ⟨a1, a2, hb1, s1⟩ := nw2 w (.cells #[.int .i8 n, .slice A gs.length c, .slice A2 os.length c2] 33) (.cells #[.int .i8 0, .slice none 0 0, .slice none 0 0] 33)
        go_enter Tryd.func36, Tryd.ntmps36
        go_wp2_with fail
        generalize World.alloc (World.alloc w _) _ = w1 at a1 a2 hb1 s1 ⊢
        refine (l07Ok_any w.heap.size n _ _ gs os w1 ⟨_, a1⟩ hn (HG.out.below hb1) (HO.out.below hb1)).mono ?_
        rintro e w2 ⟨rfl, hb⟩
        have M2 : Hid (BX w2 (w.heap.size + 1) (.int .i8 0) (.slice none 0 0) (.slice none 0 0)) := Lib.hid (BX.below ⟨_, a2⟩ hb)
        have C2 : Hid (BX w2 w.heap.size (.int .i8 n) (.slice A gs.length c) (.slice A2 os.length c2)) := Lib.hid (BX.below ⟨_, a1⟩ hb)
        have HB2 := Lib.hid (hb1.trans (hb.mono hb1.size))
        have HWS : Hid (w.heap.size + 2 ≤ w2.heap.size) := Lib.hid (by have := hb.size; omega)
        clear hb hb1 a1 a2 s1
        rw [HC.out]
        have c1 := C2.out.c1
        go_wp2_with fail
        refine (inC_any (iN : Int) 0 ((gs.length : Int) - 1) w2).mono ?_
        rintro e w3 ⟨rfl, hww⟩
        subst hww
        rw [show decide (0 ≤ (iN : Int) ∧ (iN : Int) ≤ (gs.length : Int) - 1) = true from by rw [← HR.out]; congr 1; apply propext; omega]
        have HB3 := Lib.hid HB2.out; have C3 := Lib.hid C2.out; have M3 := Lib.hid M2.out; have HW3 := Lib.hid HWS.out
        clear HB2 C2 M2 HWS
        obtain ⟨b, off, c', e, hlb, hgw, d0, d1, d2⟩ := (HG.out.below HB3.out).at iN hlt
        cases e
        obtain ⟨x, hx⟩ : ∃ x, x = gs.getD iN gz := ⟨_, rfl⟩
        rw [← hx] at d0 d1 d2
        have hjx : joinB x = true := by rw [hx]; exact HJ.out
        obtain ⟨kd, a, bb⟩ := x
        simp only at d0 d1 d2
        have HXX := Lib.hid hx
        clear hx hgw
        go_wp2_with fail
        refine (l07Joins_any (kd, a, bb) w3).mono ?_
        rintro e w4 ⟨rfl, hb4⟩
        rw [hjx]
        have hw : IntKind.wrap .i8 (5 - kd) = 5 - kd := by
          have hk : kd = 2 ∨ kd = 3 := by
            unfold joinB at hjx
            rcases Bool.or_eq_true _ _ ▸ hjx with e | e
            · exact .inl (of_decide_eq_true e)
            · exact .inr (of_decide_eq_true e)
          rcases hk with rfl | rfl <;> decide
        have hlb4 : b < w4.heap.size := Nat.lt_of_lt_of_le hlb hb4.size
        have M4 := Lib.hid (M3.out.below hb4); have C4 := Lib.hid (C3.out.below hb4)
        have HB4 := Lib.hid (HB3.out.trans (hb4.mono HB3.out.size))
        have HW4 : Hid (w.heap.size + 2 ≤ w4.heap.size) := Lib.hid (by have := HW3.out; have := hb4.size; omega)
        have HKD := Lib.hid (show w4.cell? ⟨b, off + iN * 3, none⟩ = some (.int .i8 kd) from (hb4.cell (p := ⟨b, off + iN * 3, none⟩) hlb).trans d0)
        clear hb4 d0 d1 d2 hjx c1 HB3 M3 C3 HW3 hlb
        have HB3 := Lib.hid HB4.out; have M3 := Lib.hid M4.out; have C3 := Lib.hid C4.out; have HW3 := Lib.hid HW4.out
        clear HB4 M4 C4 HW4
        have HKS := Lib.hid (fun (W : World) (hW : Below w4.heap.size w4 W) => show W.cell? ⟨w.heap.size, 0, none⟩ = some (.int .i8 n) ∧ W.cell? ⟨w.heap.size, 1, none⟩ = some (.slice (some ⟨b, off, none⟩) gs.length c) ∧ W.cell? ⟨w.heap.size, 2, none⟩ = some (.slice A2 os.length c2) from ⟨(C3.out.below hW).c0, (C3.out.below hW).c1, (C3.out.below hW).c2⟩)
        go_upto_region 7 with fail
        refine region_post7 (A := ?A7) (fun g2 g6 g11 AG cG AO cO u => Hid (Below w4.heap.size w4 u) ∧ Hid (u.heap[g11]? = some (.cells #[.int .i8 n, .slice AG gs.length cG, .slice AO os.length cO] 33 (0, 0))) ∧ Hid (w4.heap.size ≤ g11) ∧ Hid (u.ownsRow w4.heap.size 88 3 (.slice AG gs.length cG) gs.length (gcs gs)) ∧ Hid (u.ownsRow w4.heap.size 86 1 (.slice AO os.length cO) os.length (i16s os))) ?_ ?_
        rotate_left
        · refine wp_region_held_drew (S := fun u => u.cell? ⟨w.heap.size, 0, none⟩ = some (.int .i8 n) ∧ u.cell? ⟨w.heap.size, 1, none⟩ = some (.slice (some ⟨b, off, none⟩) gs.length c) ∧ u.cell? ⟨w.heap.size, 2, none⟩ = some (.slice A2 os.length c2)) (by kernel_rfl) ?hS0 (fun hS => ?_)
          case hS0 => exact HKS.out _ (bdrew1 w4)
          have HB := Lib.hid (bdrew1 w4)
          generalize w4.drew = wd at hS HB ⊢
          refine takeHd (i := 0) (v := ?v0) rfl rfl (by kernel_rfl) (by kernel_rfl) (by kernel_rfl) (fun _ _ _ h => absurd h.1 (by intro e; cases e)) rfl ?hy0 hS ?rs0
          case hy0 => (intro wq hq; obtain ⟨hq1, hq2, hq3⟩ := hq; go_simp; try (with_reducible rfl))
          simp only [Act.put, List.setIfInBounds_toArray, List.set_cons_zero, List.set_cons_succ]
          refine takeHd (i := 1) (v := ?v1) rfl rfl (by kernel_rfl) (by kernel_rfl) (by kernel_rfl) (fun _ _ _ h => absurd h.1 (by intro e; cases e)) rfl ?hy1 hS ?rs1
          case hy1 => (intro wq hq; obtain ⟨hq1, hq2, hq3⟩ := hq; go_simp; try (with_reducible rfl))
          simp only [Act.put, List.setIfInBounds_toArray, List.set_cons_zero, List.set_cons_succ]
          refine takeHd (i := 3) (v := ?v3) rfl rfl (by kernel_rfl) (by kernel_rfl) (by kernel_rfl) (fun _ _ _ h => absurd h.1 (by intro e; cases e)) rfl ?hy3 hS ?rs3
          case hy3 => (intro wq hq; obtain ⟨hq1, hq2, hq3⟩ := hq; go_simp; try (with_reducible rfl))
          simp only [Act.put, List.setIfInBounds_toArray, List.set_cons_zero, List.set_cons_succ]
          refine takeHd (i := 4) (v := ?v4) rfl rfl (by kernel_rfl) (by kernel_rfl) (by kernel_rfl) (fun _ _ _ h => absurd h.1 (by intro e; cases e)) rfl ?hy4 hS ?rs4
          case hy4 => (intro wq hq; obtain ⟨hq1, hq2, hq3⟩ := hq; go_simp; try (with_reducible rfl))
          simp only [Act.put, List.setIfInBounds_toArray, List.set_cons_zero, List.set_cons_succ]
          refine takeHd (i := 7) (v := ?v7) rfl rfl (by kernel_rfl) (by kernel_rfl) (by kernel_rfl) (fun _ _ _ h => absurd h.1 (by intro e; cases e)) rfl ?hy7 hS ?rs7
          case hy7 => (intro wq hq; obtain ⟨hq1, hq2, hq3⟩ := hq; go_simp; try (with_reducible rfl))
          simp only [Act.put, List.setIfInBounds_toArray, List.set_cons_zero, List.set_cons_succ]
          refine takeHd (i := 8) (v := ?v8) rfl rfl (by kernel_rfl) (by kernel_rfl) (by kernel_rfl) (fun _ _ _ h => absurd h.1 (by intro e; cases e)) rfl ?hy8 hS ?rs8
          case hy8 => (intro wq hq; obtain ⟨hq1, hq2, hq3⟩ := hq; go_simp; try (with_reducible rfl))
          simp only [Act.put, List.setIfInBounds_toArray, List.set_cons_zero, List.set_cons_succ]
          refine wpAnyH_ready (rs := [2, 6, 11]) (by kernel_rfl) (by simp) ?_
          refine AllReadyH.cons rfl (fun K hK => ?_) (AllReadyH.cons rfl (fun K hK => ?_) (AllReadyH.cons rfl (fun K hK => ?_) AllReadyH.nil))
          · go_simp
            have hbx := (nw1 wd (.cells #[] 88)).2.1
            have E2 : Hid ((wd.alloc (.cells #[] 88)).ownsRow w4.heap.size 88 3 (.slice (some ⟨wd.heap.size, 0, none⟩) 0 0) 0 []) := Lib.hid (World.ownsRow_made _ #[] 0 HB.out.size (Nat.zero_le _) rfl)
            replace HB := Lib.hid (HB.out.trans (hbx.mono HB.out.size))
            obtain ⟨g2, hg2⟩ : ∃ g2, g2 = wd.heap.size := ⟨_, rfl⟩
            rw [← hg2] at E2 ⊢
            refine hK.out _ (wd.alloc (.cells #[] 88)) (HKS.out _ HB.out) (fun hS => ?_)
            clear hK hbx hg2
            generalize wd.alloc (.cells #[] 88) = wx1 at hS HB E2 ⊢
            try simp only [Act.put, List.setIfInBounds_toArray, List.set_cons_zero, List.set_cons_succ]
            refine wpAnyH_ready (rs := [5, 6, 11]) (by kernel_rfl) (by simp) ?_
            refine AllReadyH.cons rfl (fun K hK => ?_) (AllReadyH.cons rfl (fun K hK => ?_) (AllReadyH.cons rfl (fun K hK => ?_) AllReadyH.nil))
            · simp only [List.getElem_toArray, List.getElem_cons_zero, List.getElem_cons_succ]
              refine wp_append_ls _ _ 31 rfl w4.heap.size 88 j0 (.agg #[.int .i8 0, .int .i16 0, .int .i16 0]) 3 6 Tryd.underlying31 JI.out JZ0.out JZ1.out JZ2.out rfl (by decide) _ 0 _ rfl E2.out (some ⟨b, off, none⟩) gs.length c (gcs gs) rfl (HG.out.below (HB3.out.trans (HB.out.mono HB3.out.size))).1 (by rw [gcs_len]) (gcs_one gs) (by unfold maxLen; omega) (by omega) HB.out.size ?_
              intro s' wx2 hown hgrow
              replace hown : wx2.ownsRow w4.heap.size 88 3 s' gs.length (gcs gs) := by simpa using hown
              replace HB := Lib.hid (HB.out.grown hgrow HB.out.size (fun q hq => (own_block E2.out q hq).1))
              obtain ⟨AG, cG, rfl, _, _⟩ := own_formu hown
              have O5 := Lib.hid hown
              refine hK.out _ wx2 (HKS.out _ HB.out) (fun hS => ?_)
              clear hK hown hgrow E2
              try simp only [Act.put, List.setIfInBounds_toArray, List.set_cons_zero, List.set_cons_succ]
              refine wpAnyH_ready (rs := [6, 11]) (by kernel_rfl) (by simp) ?_
              refine AllReadyH.cons rfl (fun K hK => ?_) (AllReadyH.cons rfl (fun K hK => ?_) AllReadyH.nil)
              · go_simp
                have hbx := (nw1 wx2 (.cells #[] 86)).2.1
                replace O5 := Lib.hid (owb O5.out hbx)
                have E6 : Hid ((wx2.alloc (.cells #[] 86)).ownsRow w4.heap.size 86 1 (.slice (some ⟨wx2.heap.size, 0, none⟩) 0 0) 0 []) := Lib.hid (World.ownsRow_made _ #[] 0 HB.out.size (Nat.zero_le _) rfl)
                replace HB := Lib.hid (HB.out.trans (hbx.mono HB.out.size))
                obtain ⟨g6, hg6⟩ : ∃ g6, g6 = wx2.heap.size := ⟨_, rfl⟩
                rw [← hg6] at E6 ⊢
                refine hK.out _ (wx2.alloc (.cells #[] 86)) (HKS.out _ HB.out) (fun hS => ?_)
                clear hK hbx hg6
                generalize wx2.alloc (.cells #[] 86) = wx3 at hS HB O5 E6 ⊢
                try simp only [Act.put, List.setIfInBounds_toArray, List.set_cons_zero, List.set_cons_succ]
                refine wpAnyH_ready (rs := [9, 11]) (by kernel_rfl) (by simp) ?_
                refine AllReadyH.cons rfl (fun K hK => ?_) (AllReadyH.cons rfl (fun K hK => ?_) AllReadyH.nil)
                · simp only [List.getElem_toArray, List.getElem_cons_zero, List.getElem_cons_succ]
                  refine wp_append_ls _ _ 24 rfl w4.heap.size 86 i0 (.int .i16 0) 1 2 Tryd.underlying24 HI.out HZ0.out HZ1.out HZ2.out rfl (by decide) _ 0 _ rfl E6.out A2 os.length c2 (i16s os) rfl (HO.out.below (HB3.out.trans (HB.out.mono HB3.out.size))).1 (by simp) (i16s_oneC os) (by unfold maxLen; omega) (by omega) HB.out.size ?_
                  intro s' wx4 hown hgrow
                  replace hown : wx4.ownsRow w4.heap.size 86 1 s' os.length (i16s os) := by simpa using hown
                  replace O5 := Lib.hid (own_grown O5.out hgrow (fun q hq e => by obtain ⟨c1, e1⟩ := own_type O5.out q hq; obtain ⟨c2, e2⟩ := own_type E6.out q e; rw [e1] at e2; cases e2))
                  replace HB := Lib.hid (HB.out.grown hgrow HB.out.size (fun q hq => (own_block E6.out q hq).1))
                  obtain ⟨AO, cO, rfl, _, _⟩ := own_formu hown
                  have O9 := Lib.hid hown
                  refine hK.out _ wx4 (HKS.out _ HB.out) (fun hS => ?_)
                  clear hK hown hgrow E6
                  try simp only [Act.put, List.setIfInBounds_toArray, List.set_cons_zero, List.set_cons_succ]
                  refine takeHd (i := 10) (v := ?v10cfgjT) rfl rfl (by kernel_rfl) (by kernel_rfl) (by kernel_rfl) (fun _ _ _ h => absurd h.1 (by intro e; cases e)) rfl ?hy10cfgjT hS ?rs10cfgjT
                  case hy10cfgjT => (intro wq hq; obtain ⟨hq1, hq2, hq3⟩ := hq; go_simp; try (with_reducible rfl))
                  simp only [Act.put, List.setIfInBounds_toArray, List.set_cons_zero, List.set_cons_succ]
                  refine wpAnyH_ready (rs := [11]) (by kernel_rfl) (by simp) ?_
                  refine AllReadyH.cons rfl (fun K hK => ?_) AllReadyH.nil
                  go_simp
                  have hbx := (nw1 wx4 (.cells #[.int .i8 0, .slice none 0 0, .slice none 0 0] 33)).2.1
                  replace O5 := Lib.hid (owb O5.out hbx)
                  replace O9 := Lib.hid (owb O9.out hbx)
                  have T11 : Hid ((wx4.alloc (.cells #[.int .i8 0, .slice none 0 0, .slice none 0 0] 33)).heap[wx4.heap.size]? = some (.cells #[.int .i8 0, .slice none 0 0, .slice none 0 0] 33 (0, 0))) := Lib.hid (heap_alloc_new wx4 _)
                  have HG11 : Hid (w4.heap.size ≤ wx4.heap.size) := Lib.hid HB.out.size
                  replace HB := Lib.hid (HB.out.trans (hbx.mono HB.out.size))
                  obtain ⟨g11, hg11⟩ : ∃ g11, g11 = wx4.heap.size := ⟨_, rfl⟩
                  rw [← hg11] at T11 HG11 ⊢
                  refine hK.out _ (wx4.alloc (.cells #[.int .i8 0, .slice none 0 0, .slice none 0 0] 33)) (HKS.out _ HB.out) (fun hS => ?_)
                  clear hK hbx hg11
                  generalize wx4.alloc (.cells #[.int .i8 0, .slice none 0 0, .slice none 0 0] 33) = wx5 at hS HB O5 O9 T11 ⊢
                  try simp only [Act.put, List.setIfInBounds_toArray, List.set_cons_zero, List.set_cons_succ]
                  refine wpAnyH_ready (rs := [12]) (by kernel_rfl) (by simp) ?_
                  refine AllReadyH.cons rfl (fun K hK => ?_) AllReadyH.nil
                  simp only [List.getElem_toArray, List.getElem_cons_zero, List.getElem_cons_succ]
                  refine wp_store_mid 33 _ _ rfl g11 0 #[.int .i8 n, .slice AG gs.length cG, .slice AO os.length cO] rfl rfl (show BX wx5 g11 (.int .i8 0) (.slice none 0 0) (.slice none 0 0) from ⟨_, T11.out⟩).there (by kernel_rfl) (three_one rfl rfl rfl) ?_
                  have HBF := Lib.hid (bsets HG11.out [.int .i8 n, .slice AG gs.length cG, .slice AO os.length cO] 0 wx5 HB.out)
                  refine hK.out _ (wx5.setCells g11 0 [.int .i8 n, .slice AG gs.length cG, .slice AO os.length cO]) (HKS.out _ HBF.out) (fun hS => ?_)
                  clear hK
                  try simp only [Act.put, List.setIfInBounds_toArray, List.set_cons_zero, List.set_cons_succ]
                  refine wpAnyH_done (by kernel_rfl) ?_ _
                  refine ⟨rfl, g2, g6, g11, AG, cG, AO, cO, ?_, HBF, Lib.hid (puts3 T11.out _ _ _), HG11, Lib.hid (own_setsT O5.out (fun q hq e => by subst e; obtain ⟨c1, e1⟩ := own_type O5.out g11 hq; rw [T11.out] at e1; cases e1) _ _), Lib.hid (own_setsT O9.out (fun q hq e => by subst e; obtain ⟨c1, e1⟩ := own_type O9.out g11 hq; rw [T11.out] at e1; cases e1) _ _)⟩
                  rfl
                · go_simp
                  have hbx := (nw1 wx3 (.cells #[.int .i8 0, .slice none 0 0, .slice none 0 0] 33)).2.1
                  replace O5 := Lib.hid (owb O5.out hbx)
                  replace E6 := Lib.hid (owb E6.out hbx)
                  have T11 : Hid ((wx3.alloc (.cells #[.int .i8 0, .slice none 0 0, .slice none 0 0] 33)).heap[wx3.heap.size]? = some (.cells #[.int .i8 0, .slice none 0 0, .slice none 0 0] 33 (0, 0))) := Lib.hid (heap_alloc_new wx3 _)
                  have HG11 : Hid (w4.heap.size ≤ wx3.heap.size) := Lib.hid HB.out.size
                  replace HB := Lib.hid (HB.out.trans (hbx.mono HB.out.size))
                  obtain ⟨g11, hg11⟩ : ∃ g11, g11 = wx3.heap.size := ⟨_, rfl⟩
                  rw [← hg11] at T11 HG11 ⊢
                  refine hK.out _ (wx3.alloc (.cells #[.int .i8 0, .slice none 0 0, .slice none 0 0] 33)) (HKS.out _ HB.out) (fun hS => ?_)
                  clear hK hbx hg11
                  generalize wx3.alloc (.cells #[.int .i8 0, .slice none 0 0, .slice none 0 0] 33) = wx6 at hS HB O5 E6 T11 ⊢
                  try simp only [Act.put, List.setIfInBounds_toArray, List.set_cons_zero, List.set_cons_succ]
                  refine wpAnyH_ready (rs := [9]) (by kernel_rfl) (by simp) ?_
                  refine AllReadyH.cons rfl (fun K hK => ?_) AllReadyH.nil
                  simp only [List.getElem_toArray, List.getElem_cons_zero, List.getElem_cons_succ]
                  refine wp_append_ls _ _ 24 rfl w4.heap.size 86 i0 (.int .i16 0) 1 2 Tryd.underlying24 HI.out HZ0.out HZ1.out HZ2.out rfl (by decide) _ 0 _ rfl E6.out A2 os.length c2 (i16s os) rfl (HO.out.below (HB3.out.trans (HB.out.mono HB3.out.size))).1 (by simp) (i16s_oneC os) (by unfold maxLen; omega) (by omega) HB.out.size ?_
                  intro s' wx7 hown hgrow
                  replace hown : wx7.ownsRow w4.heap.size 86 1 s' os.length (i16s os) := by simpa using hown
                  replace O5 := Lib.hid (own_grown O5.out hgrow (fun q hq e => by obtain ⟨c1, e1⟩ := own_type O5.out q hq; obtain ⟨c2, e2⟩ := own_type E6.out q e; rw [e1] at e2; cases e2))
                  replace T11 := Lib.hid ((hgrow.block g11 (Array.getElem?_eq_some_iff.1 T11.out).1 (fun e => by obtain ⟨c2, e2⟩ := own_type E6.out g11 e.symm; rw [T11.out] at e2; cases e2)).trans T11.out)
                  replace HB := Lib.hid (HB.out.grown hgrow HB.out.size (fun q hq => (own_block E6.out q hq).1))
                  obtain ⟨AO, cO, rfl, _, _⟩ := own_formu hown
                  have O9 := Lib.hid hown
                  refine hK.out _ wx7 (HKS.out _ HB.out) (fun hS => ?_)
                  clear hK hown hgrow E6
                  try simp only [Act.put, List.setIfInBounds_toArray, List.set_cons_zero, List.set_cons_succ]
                  refine takeHd (i := 10) (v := ?v10cfglT) rfl rfl (by kernel_rfl) (by kernel_rfl) (by kernel_rfl) (fun _ _ _ h => absurd h.1 (by intro e; cases e)) rfl ?hy10cfglT hS ?rs10cfglT
                  case hy10cfglT => (intro wq hq; obtain ⟨hq1, hq2, hq3⟩ := hq; go_simp; try (with_reducible rfl))
                  simp only [Act.put, List.setIfInBounds_toArray, List.set_cons_zero, List.set_cons_succ]
                  refine wpAnyH_ready (rs := [12]) (by kernel_rfl) (by simp) ?_
                  refine AllReadyH.cons rfl (fun K hK => ?_) AllReadyH.nil
                  simp only [List.getElem_toArray, List.getElem_cons_zero, List.getElem_cons_succ]
                  refine wp_store_mid 33 _ _ rfl g11 0 #[.int .i8 n, .slice AG gs.length cG, .slice AO os.length cO] rfl rfl (show BX wx7 g11 (.int .i8 0) (.slice none 0 0) (.slice none 0 0) from ⟨_, T11.out⟩).there (by kernel_rfl) (three_one rfl rfl rfl) ?_
                  have HBF := Lib.hid (bsets HG11.out [.int .i8 n, .slice AG gs.length cG, .slice AO os.length cO] 0 wx7 HB.out)
                  refine hK.out _ (wx7.setCells g11 0 [.int .i8 n, .slice AG gs.length cG, .slice AO os.length cO]) (HKS.out _ HBF.out) (fun hS => ?_)
                  clear hK
                  try simp only [Act.put, List.setIfInBounds_toArray, List.set_cons_zero, List.set_cons_succ]
                  refine wpAnyH_done (by kernel_rfl) ?_ _
                  refine ⟨rfl, g2, g6, g11, AG, cG, AO, cO, ?_, HBF, Lib.hid (puts3 T11.out _ _ _), HG11, Lib.hid (own_setsT O5.out (fun q hq e => by subst e; obtain ⟨c1, e1⟩ := own_type O5.out g11 hq; rw [T11.out] at e1; cases e1) _ _), Lib.hid (own_setsT O9.out (fun q hq e => by subst e; obtain ⟨c1, e1⟩ := own_type O9.out g11 hq; rw [T11.out] at e1; cases e1) _ _)⟩
                  rfl
              · go_simp
                have hbx := (nw1 wx2 (.cells #[.int .i8 0, .slice none 0 0, .slice none 0 0] 33)).2.1
                replace O5 := Lib.hid (owb O5.out hbx)
                have T11 : Hid ((wx2.alloc (.cells #[.int .i8 0, .slice none 0 0, .slice none 0 0] 33)).heap[wx2.heap.size]? = some (.cells #[.int .i8 0, .slice none 0 0, .slice none 0 0] 33 (0, 0))) := Lib.hid (heap_alloc_new wx2 _)
                have HG11 : Hid (w4.heap.size ≤ wx2.heap.size) := Lib.hid HB.out.size
                replace HB := Lib.hid (HB.out.trans (hbx.mono HB.out.size))
                obtain ⟨g11, hg11⟩ : ∃ g11, g11 = wx2.heap.size := ⟨_, rfl⟩
                rw [← hg11] at T11 HG11 ⊢
                refine hK.out _ (wx2.alloc (.cells #[.int .i8 0, .slice none 0 0, .slice none 0 0] 33)) (HKS.out _ HB.out) (fun hS => ?_)
                clear hK hbx hg11
                generalize wx2.alloc (.cells #[.int .i8 0, .slice none 0 0, .slice none 0 0] 33) = wx8 at hS HB O5 T11 ⊢
                try simp only [Act.put, List.setIfInBounds_toArray, List.set_cons_zero, List.set_cons_succ]
                refine wpAnyH_ready (rs := [6]) (by kernel_rfl) (by simp) ?_
                refine AllReadyH.cons rfl (fun K hK => ?_) AllReadyH.nil
                go_simp
                have hbx := (nw1 wx8 (.cells #[] 86)).2.1
                replace O5 := Lib.hid (owb O5.out hbx)
                replace T11 := Lib.hid ((hbx.block g11 (Array.getElem?_eq_some_iff.1 T11.out).1).trans T11.out)
                have E6 : Hid ((wx8.alloc (.cells #[] 86)).ownsRow w4.heap.size 86 1 (.slice (some ⟨wx8.heap.size, 0, none⟩) 0 0) 0 []) := Lib.hid (World.ownsRow_made _ #[] 0 HB.out.size (Nat.zero_le _) rfl)
                replace HB := Lib.hid (HB.out.trans (hbx.mono HB.out.size))
                obtain ⟨g6, hg6⟩ : ∃ g6, g6 = wx8.heap.size := ⟨_, rfl⟩
                rw [← hg6] at E6 ⊢
                refine hK.out _ (wx8.alloc (.cells #[] 86)) (HKS.out _ HB.out) (fun hS => ?_)
                clear hK hbx hg6
                generalize wx8.alloc (.cells #[] 86) = wx9 at hS HB O5 E6 T11 ⊢
                try simp only [Act.put, List.setIfInBounds_toArray, List.set_cons_zero, List.set_cons_succ]
                refine wpAnyH_ready (rs := [9]) (by kernel_rfl) (by simp) ?_
                refine AllReadyH.cons rfl (fun K hK => ?_) AllReadyH.nil
                simp only [List.getElem_toArray, List.getElem_cons_zero, List.getElem_cons_succ]
                refine wp_append_ls _ _ 24 rfl w4.heap.size 86 i0 (.int .i16 0) 1 2 Tryd.underlying24 HI.out HZ0.out HZ1.out HZ2.out rfl (by decide) _ 0 _ rfl E6.out A2 os.length c2 (i16s os) rfl (HO.out.below (HB3.out.trans (HB.out.mono HB3.out.size))).1 (by simp) (i16s_oneC os) (by unfold maxLen; omega) (by omega) HB.out.size ?_
                intro s' wx10 hown hgrow
                replace hown : wx10.ownsRow w4.heap.size 86 1 s' os.length (i16s os) := by simpa using hown
                replace O5 := Lib.hid (own_grown O5.out hgrow (fun q hq e => by obtain ⟨c1, e1⟩ := own_type O5.out q hq; obtain ⟨c2, e2⟩ := own_type E6.out q e; rw [e1] at e2; cases e2))
                replace T11 := Lib.hid ((hgrow.block g11 (Array.getElem?_eq_some_iff.1 T11.out).1 (fun e => by obtain ⟨c2, e2⟩ := own_type E6.out g11 e.symm; rw [T11.out] at e2; cases e2)).trans T11.out)
                replace HB := Lib.hid (HB.out.grown hgrow HB.out.size (fun q hq => (own_block E6.out q hq).1))
                obtain ⟨AO, cO, rfl, _, _⟩ := own_formu hown
                have O9 := Lib.hid hown
                refine hK.out _ wx10 (HKS.out _ HB.out) (fun hS => ?_)
                clear hK hown hgrow E6
                try simp only [Act.put, List.setIfInBounds_toArray, List.set_cons_zero, List.set_cons_succ]
                refine takeHd (i := 10) (v := ?v10cflT) rfl rfl (by kernel_rfl) (by kernel_rfl) (by kernel_rfl) (fun _ _ _ h => absurd h.1 (by intro e; cases e)) rfl ?hy10cflT hS ?rs10cflT
                case hy10cflT => (intro wq hq; obtain ⟨hq1, hq2, hq3⟩ := hq; go_simp; try (with_reducible rfl))
                simp only [Act.put, List.setIfInBounds_toArray, List.set_cons_zero, List.set_cons_succ]
                refine wpAnyH_ready (rs := [12]) (by kernel_rfl) (by simp) ?_
                refine AllReadyH.cons rfl (fun K hK => ?_) AllReadyH.nil
                simp only [List.getElem_toArray, List.getElem_cons_zero, List.getElem_cons_succ]
                refine wp_store_mid 33 _ _ rfl g11 0 #[.int .i8 n, .slice AG gs.length cG, .slice AO os.length cO] rfl rfl (show BX wx10 g11 (.int .i8 0) (.slice none 0 0) (.slice none 0 0) from ⟨_, T11.out⟩).there (by kernel_rfl) (three_one rfl rfl rfl) ?_
                have HBF := Lib.hid (bsets HG11.out [.int .i8 n, .slice AG gs.length cG, .slice AO os.length cO] 0 wx10 HB.out)
                refine hK.out _ (wx10.setCells g11 0 [.int .i8 n, .slice AG gs.length cG, .slice AO os.length cO]) (HKS.out _ HBF.out) (fun hS => ?_)
                clear hK
                try simp only [Act.put, List.setIfInBounds_toArray, List.set_cons_zero, List.set_cons_succ]
                refine wpAnyH_done (by kernel_rfl) ?_ _
                refine ⟨rfl, g2, g6, g11, AG, cG, AO, cO, ?_, HBF, Lib.hid (puts3 T11.out _ _ _), HG11, Lib.hid (own_setsT O5.out (fun q hq e => by subst e; obtain ⟨c1, e1⟩ := own_type O5.out g11 hq; rw [T11.out] at e1; cases e1) _ _), Lib.hid (own_setsT O9.out (fun q hq e => by subst e; obtain ⟨c1, e1⟩ := own_type O9.out g11 hq; rw [T11.out] at e1; cases e1) _ _)⟩
                rfl
            · go_simp
              have hbx := (nw1 wx1 (.cells #[] 86)).2.1
              replace E2 := Lib.hid (owb E2.out hbx)
              have E6 : Hid ((wx1.alloc (.cells #[] 86)).ownsRow w4.heap.size 86 1 (.slice (some ⟨wx1.heap.size, 0, none⟩) 0 0) 0 []) := Lib.hid (World.ownsRow_made _ #[] 0 HB.out.size (Nat.zero_le _) rfl)
              replace HB := Lib.hid (HB.out.trans (hbx.mono HB.out.size))
              obtain ⟨g6, hg6⟩ : ∃ g6, g6 = wx1.heap.size := ⟨_, rfl⟩
              rw [← hg6] at E6 ⊢
              refine hK.out _ (wx1.alloc (.cells #[] 86)) (HKS.out _ HB.out) (fun hS => ?_)
              clear hK hbx hg6
              generalize wx1.alloc (.cells #[] 86) = wx11 at hS HB E2 E6 ⊢
              try simp only [Act.put, List.setIfInBounds_toArray, List.set_cons_zero, List.set_cons_succ]
              refine wpAnyH_ready (rs := [5, 11]) (by kernel_rfl) (by simp) ?_
              refine AllReadyH.cons rfl (fun K hK => ?_) (AllReadyH.cons rfl (fun K hK => ?_) AllReadyH.nil)
              · simp only [List.getElem_toArray, List.getElem_cons_zero, List.getElem_cons_succ]
                refine wp_append_ls _ _ 31 rfl w4.heap.size 88 j0 (.agg #[.int .i8 0, .int .i16 0, .int .i16 0]) 3 6 Tryd.underlying31 JI.out JZ0.out JZ1.out JZ2.out rfl (by decide) _ 0 _ rfl E2.out (some ⟨b, off, none⟩) gs.length c (gcs gs) rfl (HG.out.below (HB3.out.trans (HB.out.mono HB3.out.size))).1 (by rw [gcs_len]) (gcs_one gs) (by unfold maxLen; omega) (by omega) HB.out.size ?_
                intro s' wx12 hown hgrow
                replace hown : wx12.ownsRow w4.heap.size 88 3 s' gs.length (gcs gs) := by simpa using hown
                replace E6 := Lib.hid (own_grown E6.out hgrow (fun q hq e => by obtain ⟨c1, e1⟩ := own_type E6.out q hq; obtain ⟨c2, e2⟩ := own_type E2.out q e; rw [e1] at e2; cases e2))
                replace HB := Lib.hid (HB.out.grown hgrow HB.out.size (fun q hq => (own_block E2.out q hq).1))
                obtain ⟨AG, cG, rfl, _, _⟩ := own_formu hown
                have O5 := Lib.hid hown
                refine hK.out _ wx12 (HKS.out _ HB.out) (fun hS => ?_)
                clear hK hown hgrow E2
                try simp only [Act.put, List.setIfInBounds_toArray, List.set_cons_zero, List.set_cons_succ]
                refine wpAnyH_ready (rs := [9, 11]) (by kernel_rfl) (by simp) ?_
                refine AllReadyH.cons rfl (fun K hK => ?_) (AllReadyH.cons rfl (fun K hK => ?_) AllReadyH.nil)
                · simp only [List.getElem_toArray, List.getElem_cons_zero, List.getElem_cons_succ]
                  refine wp_append_ls _ _ 24 rfl w4.heap.size 86 i0 (.int .i16 0) 1 2 Tryd.underlying24 HI.out HZ0.out HZ1.out HZ2.out rfl (by decide) _ 0 _ rfl E6.out A2 os.length c2 (i16s os) rfl (HO.out.below (HB3.out.trans (HB.out.mono HB3.out.size))).1 (by simp) (i16s_oneC os) (by unfold maxLen; omega) (by omega) HB.out.size ?_
                  intro s' wx13 hown hgrow
                  replace hown : wx13.ownsRow w4.heap.size 86 1 s' os.length (i16s os) := by simpa using hown
                  replace O5 := Lib.hid (own_grown O5.out hgrow (fun q hq e => by obtain ⟨c1, e1⟩ := own_type O5.out q hq; obtain ⟨c2, e2⟩ := own_type E6.out q e; rw [e1] at e2; cases e2))
                  replace HB := Lib.hid (HB.out.grown hgrow HB.out.size (fun q hq => (own_block E6.out q hq).1))
                  obtain ⟨AO, cO, rfl, _, _⟩ := own_formu hown
                  have O9 := Lib.hid hown
                  refine hK.out _ wx13 (HKS.out _ HB.out) (fun hS => ?_)
                  clear hK hown hgrow E6
                  try simp only [Act.put, List.setIfInBounds_toArray, List.set_cons_zero, List.set_cons_succ]
                  refine takeHd (i := 10) (v := ?v10cgfjT) rfl rfl (by kernel_rfl) (by kernel_rfl) (by kernel_rfl) (fun _ _ _ h => absurd h.1 (by intro e; cases e)) rfl ?hy10cgfjT hS ?rs10cgfjT
                  case hy10cgfjT => (intro wq hq; obtain ⟨hq1, hq2, hq3⟩ := hq; go_simp; try (with_reducible rfl))
                  simp only [Act.put, List.setIfInBounds_toArray, List.set_cons_zero, List.set_cons_succ]
                  refine wpAnyH_ready (rs := [11]) (by kernel_rfl) (by simp) ?_
                  refine AllReadyH.cons rfl (fun K hK => ?_) AllReadyH.nil
                  go_simp
                  have hbx := (nw1 wx13 (.cells #[.int .i8 0, .slice none 0 0, .slice none 0 0] 33)).2.1
                  replace O5 := Lib.hid (owb O5.out hbx)
                  replace O9 := Lib.hid (owb O9.out hbx)
                  have T11 : Hid ((wx13.alloc (.cells #[.int .i8 0, .slice none 0 0, .slice none 0 0] 33)).heap[wx13.heap.size]? = some (.cells #[.int .i8 0, .slice none 0 0, .slice none 0 0] 33 (0, 0))) := Lib.hid (heap_alloc_new wx13 _)
                  have HG11 : Hid (w4.heap.size ≤ wx13.heap.size) := Lib.hid HB.out.size
                  replace HB := Lib.hid (HB.out.trans (hbx.mono HB.out.size))
                  obtain ⟨g11, hg11⟩ : ∃ g11, g11 = wx13.heap.size := ⟨_, rfl⟩
                  rw [← hg11] at T11 HG11 ⊢
                  refine hK.out _ (wx13.alloc (.cells #[.int .i8 0, .slice none 0 0, .slice none 0 0] 33)) (HKS.out _ HB.out) (fun hS => ?_)
                  clear hK hbx hg11
                  generalize wx13.alloc (.cells #[.int .i8 0, .slice none 0 0, .slice none 0 0] 33) = wx14 at hS HB O5 O9 T11 ⊢
                  try simp only [Act.put, List.setIfInBounds_toArray, List.set_cons_zero, List.set_cons_succ]
                  refine wpAnyH_ready (rs := [12]) (by kernel_rfl) (by simp) ?_
                  refine AllReadyH.cons rfl (fun K hK => ?_) AllReadyH.nil
                  simp only [List.getElem_toArray, List.getElem_cons_zero, List.getElem_cons_succ]
                  refine wp_store_mid 33 _ _ rfl g11 0 #[.int .i8 n, .slice AG gs.length cG, .slice AO os.length cO] rfl rfl (show BX wx14 g11 (.int .i8 0) (.slice none 0 0) (.slice none 0 0) from ⟨_, T11.out⟩).there (by kernel_rfl) (three_one rfl rfl rfl) ?_
                  have HBF := Lib.hid (bsets HG11.out [.int .i8 n, .slice AG gs.length cG, .slice AO os.length cO] 0 wx14 HB.out)
                  refine hK.out _ (wx14.setCells g11 0 [.int .i8 n, .slice AG gs.length cG, .slice AO os.length cO]) (HKS.out _ HBF.out) (fun hS => ?_)
                  clear hK
                  try simp only [Act.put, List.setIfInBounds_toArray, List.set_cons_zero, List.set_cons_succ]
                  refine wpAnyH_done (by kernel_rfl) ?_ _
                  refine ⟨rfl, g2, g6, g11, AG, cG, AO, cO, ?_, HBF, Lib.hid (puts3 T11.out _ _ _), HG11, Lib.hid (own_setsT O5.out (fun q hq e => by subst e; obtain ⟨c1, e1⟩ := own_type O5.out g11 hq; rw [T11.out] at e1; cases e1) _ _), Lib.hid (own_setsT O9.out (fun q hq e => by subst e; obtain ⟨c1, e1⟩ := own_type O9.out g11 hq; rw [T11.out] at e1; cases e1) _ _)⟩
                  rfl
                · go_simp
                  have hbx := (nw1 wx12 (.cells #[.int .i8 0, .slice none 0 0, .slice none 0 0] 33)).2.1
                  replace O5 := Lib.hid (owb O5.out hbx)
                  replace E6 := Lib.hid (owb E6.out hbx)
                  have T11 : Hid ((wx12.alloc (.cells #[.int .i8 0, .slice none 0 0, .slice none 0 0] 33)).heap[wx12.heap.size]? = some (.cells #[.int .i8 0, .slice none 0 0, .slice none 0 0] 33 (0, 0))) := Lib.hid (heap_alloc_new wx12 _)
                  have HG11 : Hid (w4.heap.size ≤ wx12.heap.size) := Lib.hid HB.out.size
                  replace HB := Lib.hid (HB.out.trans (hbx.mono HB.out.size))
                  obtain ⟨g11, hg11⟩ : ∃ g11, g11 = wx12.heap.size := ⟨_, rfl⟩
                  rw [← hg11] at T11 HG11 ⊢
                  refine hK.out _ (wx12.alloc (.cells #[.int .i8 0, .slice none 0 0, .slice none 0 0] 33)) (HKS.out _ HB.out) (fun hS => ?_)
                  clear hK hbx hg11
                  generalize wx12.alloc (.cells #[.int .i8 0, .slice none 0 0, .slice none 0 0] 33) = wx15 at hS HB O5 E6 T11 ⊢
                  try simp only [Act.put, List.setIfInBounds_toArray, List.set_cons_zero, List.set_cons_succ]
                  refine wpAnyH_ready (rs := [9]) (by kernel_rfl) (by simp) ?_
                  refine AllReadyH.cons rfl (fun K hK => ?_) AllReadyH.nil
                  simp only [List.getElem_toArray, List.getElem_cons_zero, List.getElem_cons_succ]
                  refine wp_append_ls _ _ 24 rfl w4.heap.size 86 i0 (.int .i16 0) 1 2 Tryd.underlying24 HI.out HZ0.out HZ1.out HZ2.out rfl (by decide) _ 0 _ rfl E6.out A2 os.length c2 (i16s os) rfl (HO.out.below (HB3.out.trans (HB.out.mono HB3.out.size))).1 (by simp) (i16s_oneC os) (by unfold maxLen; omega) (by omega) HB.out.size ?_
                  intro s' wx16 hown hgrow
                  replace hown : wx16.ownsRow w4.heap.size 86 1 s' os.length (i16s os) := by simpa using hown
                  replace O5 := Lib.hid (own_grown O5.out hgrow (fun q hq e => by obtain ⟨c1, e1⟩ := own_type O5.out q hq; obtain ⟨c2, e2⟩ := own_type E6.out q e; rw [e1] at e2; cases e2))
                  replace T11 := Lib.hid ((hgrow.block g11 (Array.getElem?_eq_some_iff.1 T11.out).1 (fun e => by obtain ⟨c2, e2⟩ := own_type E6.out g11 e.symm; rw [T11.out] at e2; cases e2)).trans T11.out)
                  replace HB := Lib.hid (HB.out.grown hgrow HB.out.size (fun q hq => (own_block E6.out q hq).1))
                  obtain ⟨AO, cO, rfl, _, _⟩ := own_formu hown
                  have O9 := Lib.hid hown
                  refine hK.out _ wx16 (HKS.out _ HB.out) (fun hS => ?_)
                  clear hK hown hgrow E6
                  try simp only [Act.put, List.setIfInBounds_toArray, List.set_cons_zero, List.set_cons_succ]
                  refine takeHd (i := 10) (v := ?v10cgflT) rfl rfl (by kernel_rfl) (by kernel_rfl) (by kernel_rfl) (fun _ _ _ h => absurd h.1 (by intro e; cases e)) rfl ?hy10cgflT hS ?rs10cgflT
                  case hy10cgflT => (intro wq hq; obtain ⟨hq1, hq2, hq3⟩ := hq; go_simp; try (with_reducible rfl))
                  simp only [Act.put, List.setIfInBounds_toArray, List.set_cons_zero, List.set_cons_succ]
                  refine wpAnyH_ready (rs := [12]) (by kernel_rfl) (by simp) ?_
                  refine AllReadyH.cons rfl (fun K hK => ?_) AllReadyH.nil
                  simp only [List.getElem_toArray, List.getElem_cons_zero, List.getElem_cons_succ]
                  refine wp_store_mid 33 _ _ rfl g11 0 #[.int .i8 n, .slice AG gs.length cG, .slice AO os.length cO] rfl rfl (show BX wx16 g11 (.int .i8 0) (.slice none 0 0) (.slice none 0 0) from ⟨_, T11.out⟩).there (by kernel_rfl) (three_one rfl rfl rfl) ?_
                  have HBF := Lib.hid (bsets HG11.out [.int .i8 n, .slice AG gs.length cG, .slice AO os.length cO] 0 wx16 HB.out)
                  refine hK.out _ (wx16.setCells g11 0 [.int .i8 n, .slice AG gs.length cG, .slice AO os.length cO]) (HKS.out _ HBF.out) (fun hS => ?_)
                  clear hK
                  try simp only [Act.put, List.setIfInBounds_toArray, List.set_cons_zero, List.set_cons_succ]
                  refine wpAnyH_done (by kernel_rfl) ?_ _
                  refine ⟨rfl, g2, g6, g11, AG, cG, AO, cO, ?_, HBF, Lib.hid (puts3 T11.out _ _ _), HG11, Lib.hid (own_setsT O5.out (fun q hq e => by subst e; obtain ⟨c1, e1⟩ := own_type O5.out g11 hq; rw [T11.out] at e1; cases e1) _ _), Lib.hid (own_setsT O9.out (fun q hq e => by subst e; obtain ⟨c1, e1⟩ := own_type O9.out g11 hq; rw [T11.out] at e1; cases e1) _ _)⟩
                  rfl
              · go_simp
                have hbx := (nw1 wx11 (.cells #[.int .i8 0, .slice none 0 0, .slice none 0 0] 33)).2.1
                replace E2 := Lib.hid (owb E2.out hbx)
                replace E6 := Lib.hid (owb E6.out hbx)
                have T11 : Hid ((wx11.alloc (.cells #[.int .i8 0, .slice none 0 0, .slice none 0 0] 33)).heap[wx11.heap.size]? = some (.cells #[.int .i8 0, .slice none 0 0, .slice none 0 0] 33 (0, 0))) := Lib.hid (heap_alloc_new wx11 _)
                have HG11 : Hid (w4.heap.size ≤ wx11.heap.size) := Lib.hid HB.out.size
                replace HB := Lib.hid (HB.out.trans (hbx.mono HB.out.size))
                obtain ⟨g11, hg11⟩ : ∃ g11, g11 = wx11.heap.size := ⟨_, rfl⟩
                rw [← hg11] at T11 HG11 ⊢
                refine hK.out _ (wx11.alloc (.cells #[.int .i8 0, .slice none 0 0, .slice none 0 0] 33)) (HKS.out _ HB.out) (fun hS => ?_)
                clear hK hbx hg11
                generalize wx11.alloc (.cells #[.int .i8 0, .slice none 0 0, .slice none 0 0] 33) = wx17 at hS HB E2 E6 T11 ⊢
                try simp only [Act.put, List.setIfInBounds_toArray, List.set_cons_zero, List.set_cons_succ]
                refine wpAnyH_ready (rs := [5]) (by kernel_rfl) (by simp) ?_
                refine AllReadyH.cons rfl (fun K hK => ?_) AllReadyH.nil
                simp only [List.getElem_toArray, List.getElem_cons_zero, List.getElem_cons_succ]
                refine wp_append_ls _ _ 31 rfl w4.heap.size 88 j0 (.agg #[.int .i8 0, .int .i16 0, .int .i16 0]) 3 6 Tryd.underlying31 JI.out JZ0.out JZ1.out JZ2.out rfl (by decide) _ 0 _ rfl E2.out (some ⟨b, off, none⟩) gs.length c (gcs gs) rfl (HG.out.below (HB3.out.trans (HB.out.mono HB3.out.size))).1 (by rw [gcs_len]) (gcs_one gs) (by unfold maxLen; omega) (by omega) HB.out.size ?_
                intro s' wx18 hown hgrow
                replace hown : wx18.ownsRow w4.heap.size 88 3 s' gs.length (gcs gs) := by simpa using hown
                replace E6 := Lib.hid (own_grown E6.out hgrow (fun q hq e => by obtain ⟨c1, e1⟩ := own_type E6.out q hq; obtain ⟨c2, e2⟩ := own_type E2.out q e; rw [e1] at e2; cases e2))
                replace T11 := Lib.hid ((hgrow.block g11 (Array.getElem?_eq_some_iff.1 T11.out).1 (fun e => by obtain ⟨c2, e2⟩ := own_type E2.out g11 e.symm; rw [T11.out] at e2; cases e2)).trans T11.out)
                replace HB := Lib.hid (HB.out.grown hgrow HB.out.size (fun q hq => (own_block E2.out q hq).1))
                obtain ⟨AG, cG, rfl, _, _⟩ := own_formu hown
                have O5 := Lib.hid hown
                refine hK.out _ wx18 (HKS.out _ HB.out) (fun hS => ?_)
                clear hK hown hgrow E2
                try simp only [Act.put, List.setIfInBounds_toArray, List.set_cons_zero, List.set_cons_succ]
                refine wpAnyH_ready (rs := [9]) (by kernel_rfl) (by simp) ?_
                refine AllReadyH.cons rfl (fun K hK => ?_) AllReadyH.nil
                simp only [List.getElem_toArray, List.getElem_cons_zero, List.getElem_cons_succ]
                refine wp_append_ls _ _ 24 rfl w4.heap.size 86 i0 (.int .i16 0) 1 2 Tryd.underlying24 HI.out HZ0.out HZ1.out HZ2.out rfl (by decide) _ 0 _ rfl E6.out A2 os.length c2 (i16s os) rfl (HO.out.below (HB3.out.trans (HB.out.mono HB3.out.size))).1 (by simp) (i16s_oneC os) (by unfold maxLen; omega) (by omega) HB.out.size ?_
                intro s' wx19 hown hgrow
                replace hown : wx19.ownsRow w4.heap.size 86 1 s' os.length (i16s os) := by simpa using hown
                replace O5 := Lib.hid (own_grown O5.out hgrow (fun q hq e => by obtain ⟨c1, e1⟩ := own_type O5.out q hq; obtain ⟨c2, e2⟩ := own_type E6.out q e; rw [e1] at e2; cases e2))
                replace T11 := Lib.hid ((hgrow.block g11 (Array.getElem?_eq_some_iff.1 T11.out).1 (fun e => by obtain ⟨c2, e2⟩ := own_type E6.out g11 e.symm; rw [T11.out] at e2; cases e2)).trans T11.out)
                replace HB := Lib.hid (HB.out.grown hgrow HB.out.size (fun q hq => (own_block E6.out q hq).1))
                obtain ⟨AO, cO, rfl, _, _⟩ := own_formu hown
                have O9 := Lib.hid hown
                refine hK.out _ wx19 (HKS.out _ HB.out) (fun hS => ?_)
                clear hK hown hgrow E6
                try simp only [Act.put, List.setIfInBounds_toArray, List.set_cons_zero, List.set_cons_succ]
                refine takeHd (i := 10) (v := ?v10cglT) rfl rfl (by kernel_rfl) (by kernel_rfl) (by kernel_rfl) (fun _ _ _ h => absurd h.1 (by intro e; cases e)) rfl ?hy10cglT hS ?rs10cglT
                case hy10cglT => (intro wq hq; obtain ⟨hq1, hq2, hq3⟩ := hq; go_simp; try (with_reducible rfl))
                simp only [Act.put, List.setIfInBounds_toArray, List.set_cons_zero, List.set_cons_succ]
                refine wpAnyH_ready (rs := [12]) (by kernel_rfl) (by simp) ?_
                refine AllReadyH.cons rfl (fun K hK => ?_) AllReadyH.nil
                simp only [List.getElem_toArray, List.getElem_cons_zero, List.getElem_cons_succ]
                refine wp_store_mid 33 _ _ rfl g11 0 #[.int .i8 n, .slice AG gs.length cG, .slice AO os.length cO] rfl rfl (show BX wx19 g11 (.int .i8 0) (.slice none 0 0) (.slice none 0 0) from ⟨_, T11.out⟩).there (by kernel_rfl) (three_one rfl rfl rfl) ?_
                have HBF := Lib.hid (bsets HG11.out [.int .i8 n, .slice AG gs.length cG, .slice AO os.length cO] 0 wx19 HB.out)
                refine hK.out _ (wx19.setCells g11 0 [.int .i8 n, .slice AG gs.length cG, .slice AO os.length cO]) (HKS.out _ HBF.out) (fun hS => ?_)
                clear hK
                try simp only [Act.put, List.setIfInBounds_toArray, List.set_cons_zero, List.set_cons_succ]
                refine wpAnyH_done (by kernel_rfl) ?_ _
                refine ⟨rfl, g2, g6, g11, AG, cG, AO, cO, ?_, HBF, Lib.hid (puts3 T11.out _ _ _), HG11, Lib.hid (own_setsT O5.out (fun q hq e => by subst e; obtain ⟨c1, e1⟩ := own_type O5.out g11 hq; rw [T11.out] at e1; cases e1) _ _), Lib.hid (own_setsT O9.out (fun q hq e => by subst e; obtain ⟨c1, e1⟩ := own_type O9.out g11 hq; rw [T11.out] at e1; cases e1) _ _)⟩
                rfl
            · go_simp
              have hbx := (nw1 wx1 (.cells #[.int .i8 0, .slice none 0 0, .slice none 0 0] 33)).2.1
              replace E2 := Lib.hid (owb E2.out hbx)
              have T11 : Hid ((wx1.alloc (.cells #[.int .i8 0, .slice none 0 0, .slice none 0 0] 33)).heap[wx1.heap.size]? = some (.cells #[.int .i8 0, .slice none 0 0, .slice none 0 0] 33 (0, 0))) := Lib.hid (heap_alloc_new wx1 _)
              have HG11 : Hid (w4.heap.size ≤ wx1.heap.size) := Lib.hid HB.out.size
              replace HB := Lib.hid (HB.out.trans (hbx.mono HB.out.size))
              obtain ⟨g11, hg11⟩ : ∃ g11, g11 = wx1.heap.size := ⟨_, rfl⟩
              rw [← hg11] at T11 HG11 ⊢
              refine hK.out _ (wx1.alloc (.cells #[.int .i8 0, .slice none 0 0, .slice none 0 0] 33)) (HKS.out _ HB.out) (fun hS => ?_)
              clear hK hbx hg11
              generalize wx1.alloc (.cells #[.int .i8 0, .slice none 0 0, .slice none 0 0] 33) = wx20 at hS HB E2 T11 ⊢
              try simp only [Act.put, List.setIfInBounds_toArray, List.set_cons_zero, List.set_cons_succ]
              refine wpAnyH_ready (rs := [5, 6]) (by kernel_rfl) (by simp) ?_
              refine AllReadyH.cons rfl (fun K hK => ?_) (AllReadyH.cons rfl (fun K hK => ?_) AllReadyH.nil)
              · simp only [List.getElem_toArray, List.getElem_cons_zero, List.getElem_cons_succ]
                refine wp_append_ls _ _ 31 rfl w4.heap.size 88 j0 (.agg #[.int .i8 0, .int .i16 0, .int .i16 0]) 3 6 Tryd.underlying31 JI.out JZ0.out JZ1.out JZ2.out rfl (by decide) _ 0 _ rfl E2.out (some ⟨b, off, none⟩) gs.length c (gcs gs) rfl (HG.out.below (HB3.out.trans (HB.out.mono HB3.out.size))).1 (by rw [gcs_len]) (gcs_one gs) (by unfold maxLen; omega) (by omega) HB.out.size ?_
                intro s' wx21 hown hgrow
                replace hown : wx21.ownsRow w4.heap.size 88 3 s' gs.length (gcs gs) := by simpa using hown
                replace T11 := Lib.hid ((hgrow.block g11 (Array.getElem?_eq_some_iff.1 T11.out).1 (fun e => by obtain ⟨c2, e2⟩ := own_type E2.out g11 e.symm; rw [T11.out] at e2; cases e2)).trans T11.out)
                replace HB := Lib.hid (HB.out.grown hgrow HB.out.size (fun q hq => (own_block E2.out q hq).1))
                obtain ⟨AG, cG, rfl, _, _⟩ := own_formu hown
                have O5 := Lib.hid hown
                refine hK.out _ wx21 (HKS.out _ HB.out) (fun hS => ?_)
                clear hK hown hgrow E2
                try simp only [Act.put, List.setIfInBounds_toArray, List.set_cons_zero, List.set_cons_succ]
                refine wpAnyH_ready (rs := [6]) (by kernel_rfl) (by simp) ?_
                refine AllReadyH.cons rfl (fun K hK => ?_) AllReadyH.nil
                go_simp
                have hbx := (nw1 wx21 (.cells #[] 86)).2.1
                replace O5 := Lib.hid (owb O5.out hbx)
                replace T11 := Lib.hid ((hbx.block g11 (Array.getElem?_eq_some_iff.1 T11.out).1).trans T11.out)
                have E6 : Hid ((wx21.alloc (.cells #[] 86)).ownsRow w4.heap.size 86 1 (.slice (some ⟨wx21.heap.size, 0, none⟩) 0 0) 0 []) := Lib.hid (World.ownsRow_made _ #[] 0 HB.out.size (Nat.zero_le _) rfl)
                replace HB := Lib.hid (HB.out.trans (hbx.mono HB.out.size))
                obtain ⟨g6, hg6⟩ : ∃ g6, g6 = wx21.heap.size := ⟨_, rfl⟩
                rw [← hg6] at E6 ⊢
                refine hK.out _ (wx21.alloc (.cells #[] 86)) (HKS.out _ HB.out) (fun hS => ?_)
                clear hK hbx hg6
                generalize wx21.alloc (.cells #[] 86) = wx22 at hS HB O5 E6 T11 ⊢
                try simp only [Act.put, List.setIfInBounds_toArray, List.set_cons_zero, List.set_cons_succ]
                refine wpAnyH_ready (rs := [9]) (by kernel_rfl) (by simp) ?_
                refine AllReadyH.cons rfl (fun K hK => ?_) AllReadyH.nil
                simp only [List.getElem_toArray, List.getElem_cons_zero, List.getElem_cons_succ]
                refine wp_append_ls _ _ 24 rfl w4.heap.size 86 i0 (.int .i16 0) 1 2 Tryd.underlying24 HI.out HZ0.out HZ1.out HZ2.out rfl (by decide) _ 0 _ rfl E6.out A2 os.length c2 (i16s os) rfl (HO.out.below (HB3.out.trans (HB.out.mono HB3.out.size))).1 (by simp) (i16s_oneC os) (by unfold maxLen; omega) (by omega) HB.out.size ?_
                intro s' wx23 hown hgrow
                replace hown : wx23.ownsRow w4.heap.size 86 1 s' os.length (i16s os) := by simpa using hown
                replace O5 := Lib.hid (own_grown O5.out hgrow (fun q hq e => by obtain ⟨c1, e1⟩ := own_type O5.out q hq; obtain ⟨c2, e2⟩ := own_type E6.out q e; rw [e1] at e2; cases e2))
                replace T11 := Lib.hid ((hgrow.block g11 (Array.getElem?_eq_some_iff.1 T11.out).1 (fun e => by obtain ⟨c2, e2⟩ := own_type E6.out g11 e.symm; rw [T11.out] at e2; cases e2)).trans T11.out)
                replace HB := Lib.hid (HB.out.grown hgrow HB.out.size (fun q hq => (own_block E6.out q hq).1))
                obtain ⟨AO, cO, rfl, _, _⟩ := own_formu hown
                have O9 := Lib.hid hown
                refine hK.out _ wx23 (HKS.out _ HB.out) (fun hS => ?_)
                clear hK hown hgrow E6
                try simp only [Act.put, List.setIfInBounds_toArray, List.set_cons_zero, List.set_cons_succ]
                refine takeHd (i := 10) (v := ?v10clfT) rfl rfl (by kernel_rfl) (by kernel_rfl) (by kernel_rfl) (fun _ _ _ h => absurd h.1 (by intro e; cases e)) rfl ?hy10clfT hS ?rs10clfT
                case hy10clfT => (intro wq hq; obtain ⟨hq1, hq2, hq3⟩ := hq; go_simp; try (with_reducible rfl))
                simp only [Act.put, List.setIfInBounds_toArray, List.set_cons_zero, List.set_cons_succ]
                refine wpAnyH_ready (rs := [12]) (by kernel_rfl) (by simp) ?_
                refine AllReadyH.cons rfl (fun K hK => ?_) AllReadyH.nil
                simp only [List.getElem_toArray, List.getElem_cons_zero, List.getElem_cons_succ]
                refine wp_store_mid 33 _ _ rfl g11 0 #[.int .i8 n, .slice AG gs.length cG, .slice AO os.length cO] rfl rfl (show BX wx23 g11 (.int .i8 0) (.slice none 0 0) (.slice none 0 0) from ⟨_, T11.out⟩).there (by kernel_rfl) (three_one rfl rfl rfl) ?_
                have HBF := Lib.hid (bsets HG11.out [.int .i8 n, .slice AG gs.length cG, .slice AO os.length cO] 0 wx23 HB.out)
                refine hK.out _ (wx23.setCells g11 0 [.int .i8 n, .slice AG gs.length cG, .slice AO os.length cO]) (HKS.out _ HBF.out) (fun hS => ?_)
                clear hK
                try simp only [Act.put, List.setIfInBounds_toArray, List.set_cons_zero, List.set_cons_succ]
                refine wpAnyH_done (by kernel_rfl) ?_ _
                refine ⟨rfl, g2, g6, g11, AG, cG, AO, cO, ?_, HBF, Lib.hid (puts3 T11.out _ _ _), HG11, Lib.hid (own_setsT O5.out (fun q hq e => by subst e; obtain ⟨c1, e1⟩ := own_type O5.out g11 hq; rw [T11.out] at e1; cases e1) _ _), Lib.hid (own_setsT O9.out (fun q hq e => by subst e; obtain ⟨c1, e1⟩ := own_type O9.out g11 hq; rw [T11.out] at e1; cases e1) _ _)⟩
                rfl
              · go_simp
                have hbx := (nw1 wx20 (.cells #[] 86)).2.1
                replace E2 := Lib.hid (owb E2.out hbx)
                replace T11 := Lib.hid ((hbx.block g11 (Array.getElem?_eq_some_iff.1 T11.out).1).trans T11.out)
                have E6 : Hid ((wx20.alloc (.cells #[] 86)).ownsRow w4.heap.size 86 1 (.slice (some ⟨wx20.heap.size, 0, none⟩) 0 0) 0 []) := Lib.hid (World.ownsRow_made _ #[] 0 HB.out.size (Nat.zero_le _) rfl)
                replace HB := Lib.hid (HB.out.trans (hbx.mono HB.out.size))
                obtain ⟨g6, hg6⟩ : ∃ g6, g6 = wx20.heap.size := ⟨_, rfl⟩
                rw [← hg6] at E6 ⊢
                refine hK.out _ (wx20.alloc (.cells #[] 86)) (HKS.out _ HB.out) (fun hS => ?_)
                clear hK hbx hg6
                generalize wx20.alloc (.cells #[] 86) = wx24 at hS HB E2 E6 T11 ⊢
                try simp only [Act.put, List.setIfInBounds_toArray, List.set_cons_zero, List.set_cons_succ]
                refine wpAnyH_ready (rs := [5]) (by kernel_rfl) (by simp) ?_
                refine AllReadyH.cons rfl (fun K hK => ?_) AllReadyH.nil
                simp only [List.getElem_toArray, List.getElem_cons_zero, List.getElem_cons_succ]
                refine wp_append_ls _ _ 31 rfl w4.heap.size 88 j0 (.agg #[.int .i8 0, .int .i16 0, .int .i16 0]) 3 6 Tryd.underlying31 JI.out JZ0.out JZ1.out JZ2.out rfl (by decide) _ 0 _ rfl E2.out (some ⟨b, off, none⟩) gs.length c (gcs gs) rfl (HG.out.below (HB3.out.trans (HB.out.mono HB3.out.size))).1 (by rw [gcs_len]) (gcs_one gs) (by unfold maxLen; omega) (by omega) HB.out.size ?_
                intro s' wx25 hown hgrow
                replace hown : wx25.ownsRow w4.heap.size 88 3 s' gs.length (gcs gs) := by simpa using hown
                replace E6 := Lib.hid (own_grown E6.out hgrow (fun q hq e => by obtain ⟨c1, e1⟩ := own_type E6.out q hq; obtain ⟨c2, e2⟩ := own_type E2.out q e; rw [e1] at e2; cases e2))
                replace T11 := Lib.hid ((hgrow.block g11 (Array.getElem?_eq_some_iff.1 T11.out).1 (fun e => by obtain ⟨c2, e2⟩ := own_type E2.out g11 e.symm; rw [T11.out] at e2; cases e2)).trans T11.out)
                replace HB := Lib.hid (HB.out.grown hgrow HB.out.size (fun q hq => (own_block E2.out q hq).1))
                obtain ⟨AG, cG, rfl, _, _⟩ := own_formu hown
                have O5 := Lib.hid hown
                refine hK.out _ wx25 (HKS.out _ HB.out) (fun hS => ?_)
                clear hK hown hgrow E2
                try simp only [Act.put, List.setIfInBounds_toArray, List.set_cons_zero, List.set_cons_succ]
                refine wpAnyH_ready (rs := [9]) (by kernel_rfl) (by simp) ?_
                refine AllReadyH.cons rfl (fun K hK => ?_) AllReadyH.nil
                simp only [List.getElem_toArray, List.getElem_cons_zero, List.getElem_cons_succ]
                refine wp_append_ls _ _ 24 rfl w4.heap.size 86 i0 (.int .i16 0) 1 2 Tryd.underlying24 HI.out HZ0.out HZ1.out HZ2.out rfl (by decide) _ 0 _ rfl E6.out A2 os.length c2 (i16s os) rfl (HO.out.below (HB3.out.trans (HB.out.mono HB3.out.size))).1 (by simp) (i16s_oneC os) (by unfold maxLen; omega) (by omega) HB.out.size ?_
                intro s' wx26 hown hgrow
                replace hown : wx26.ownsRow w4.heap.size 86 1 s' os.length (i16s os) := by simpa using hown
                replace O5 := Lib.hid (own_grown O5.out hgrow (fun q hq e => by obtain ⟨c1, e1⟩ := own_type O5.out q hq; obtain ⟨c2, e2⟩ := own_type E6.out q e; rw [e1] at e2; cases e2))
                replace T11 := Lib.hid ((hgrow.block g11 (Array.getElem?_eq_some_iff.1 T11.out).1 (fun e => by obtain ⟨c2, e2⟩ := own_type E6.out g11 e.symm; rw [T11.out] at e2; cases e2)).trans T11.out)
                replace HB := Lib.hid (HB.out.grown hgrow HB.out.size (fun q hq => (own_block E6.out q hq).1))
                obtain ⟨AO, cO, rfl, _, _⟩ := own_formu hown
                have O9 := Lib.hid hown
                refine hK.out _ wx26 (HKS.out _ HB.out) (fun hS => ?_)
                clear hK hown hgrow E6
                try simp only [Act.put, List.setIfInBounds_toArray, List.set_cons_zero, List.set_cons_succ]
                refine takeHd (i := 10) (v := ?v10clgT) rfl rfl (by kernel_rfl) (by kernel_rfl) (by kernel_rfl) (fun _ _ _ h => absurd h.1 (by intro e; cases e)) rfl ?hy10clgT hS ?rs10clgT
                case hy10clgT => (intro wq hq; obtain ⟨hq1, hq2, hq3⟩ := hq; go_simp; try (with_reducible rfl))
                simp only [Act.put, List.setIfInBounds_toArray, List.set_cons_zero, List.set_cons_succ]
                refine wpAnyH_ready (rs := [12]) (by kernel_rfl) (by simp) ?_
                refine AllReadyH.cons rfl (fun K hK => ?_) AllReadyH.nil
                simp only [List.getElem_toArray, List.getElem_cons_zero, List.getElem_cons_succ]
                refine wp_store_mid 33 _ _ rfl g11 0 #[.int .i8 n, .slice AG gs.length cG, .slice AO os.length cO] rfl rfl (show BX wx26 g11 (.int .i8 0) (.slice none 0 0) (.slice none 0 0) from ⟨_, T11.out⟩).there (by kernel_rfl) (three_one rfl rfl rfl) ?_
                have HBF := Lib.hid (bsets HG11.out [.int .i8 n, .slice AG gs.length cG, .slice AO os.length cO] 0 wx26 HB.out)
                refine hK.out _ (wx26.setCells g11 0 [.int .i8 n, .slice AG gs.length cG, .slice AO os.length cO]) (HKS.out _ HBF.out) (fun hS => ?_)
                clear hK
                try simp only [Act.put, List.setIfInBounds_toArray, List.set_cons_zero, List.set_cons_succ]
                refine wpAnyH_done (by kernel_rfl) ?_ _
                refine ⟨rfl, g2, g6, g11, AG, cG, AO, cO, ?_, HBF, Lib.hid (puts3 T11.out _ _ _), HG11, Lib.hid (own_setsT O5.out (fun q hq e => by subst e; obtain ⟨c1, e1⟩ := own_type O5.out g11 hq; rw [T11.out] at e1; cases e1) _ _), Lib.hid (own_setsT O9.out (fun q hq e => by subst e; obtain ⟨c1, e1⟩ := own_type O9.out g11 hq; rw [T11.out] at e1; cases e1) _ _)⟩
                rfl
          · go_simp
            have hbx := (nw1 wd (.cells #[] 86)).2.1
            have E6 : Hid ((wd.alloc (.cells #[] 86)).ownsRow w4.heap.size 86 1 (.slice (some ⟨wd.heap.size, 0, none⟩) 0 0) 0 []) := Lib.hid (World.ownsRow_made _ #[] 0 HB.out.size (Nat.zero_le _) rfl)
            replace HB := Lib.hid (HB.out.trans (hbx.mono HB.out.size))
            obtain ⟨g6, hg6⟩ : ∃ g6, g6 = wd.heap.size := ⟨_, rfl⟩
            rw [← hg6] at E6 ⊢
            refine hK.out _ (wd.alloc (.cells #[] 86)) (HKS.out _ HB.out) (fun hS => ?_)
            clear hK hbx hg6
            generalize wd.alloc (.cells #[] 86) = wx27 at hS HB E6 ⊢
            try simp only [Act.put, List.setIfInBounds_toArray, List.set_cons_zero, List.set_cons_succ]
            refine wpAnyH_ready (rs := [2, 11]) (by kernel_rfl) (by simp) ?_
            refine AllReadyH.cons rfl (fun K hK => ?_) (AllReadyH.cons rfl (fun K hK => ?_) AllReadyH.nil)
            · go_simp
              have hbx := (nw1 wx27 (.cells #[] 88)).2.1
              replace E6 := Lib.hid (owb E6.out hbx)
              have E2 : Hid ((wx27.alloc (.cells #[] 88)).ownsRow w4.heap.size 88 3 (.slice (some ⟨wx27.heap.size, 0, none⟩) 0 0) 0 []) := Lib.hid (World.ownsRow_made _ #[] 0 HB.out.size (Nat.zero_le _) rfl)
              replace HB := Lib.hid (HB.out.trans (hbx.mono HB.out.size))
              obtain ⟨g2, hg2⟩ : ∃ g2, g2 = wx27.heap.size := ⟨_, rfl⟩
              rw [← hg2] at E2 ⊢
              refine hK.out _ (wx27.alloc (.cells #[] 88)) (HKS.out _ HB.out) (fun hS => ?_)
              clear hK hbx hg2
              generalize wx27.alloc (.cells #[] 88) = wx28 at hS HB E6 E2 ⊢
              try simp only [Act.put, List.setIfInBounds_toArray, List.set_cons_zero, List.set_cons_succ]
              refine wpAnyH_ready (rs := [5, 11]) (by kernel_rfl) (by simp) ?_
              refine AllReadyH.cons rfl (fun K hK => ?_) (AllReadyH.cons rfl (fun K hK => ?_) AllReadyH.nil)
              · simp only [List.getElem_toArray, List.getElem_cons_zero, List.getElem_cons_succ]
                refine wp_append_ls _ _ 31 rfl w4.heap.size 88 j0 (.agg #[.int .i8 0, .int .i16 0, .int .i16 0]) 3 6 Tryd.underlying31 JI.out JZ0.out JZ1.out JZ2.out rfl (by decide) _ 0 _ rfl E2.out (some ⟨b, off, none⟩) gs.length c (gcs gs) rfl (HG.out.below (HB3.out.trans (HB.out.mono HB3.out.size))).1 (by rw [gcs_len]) (gcs_one gs) (by unfold maxLen; omega) (by omega) HB.out.size ?_
                intro s' wx29 hown hgrow
                replace hown : wx29.ownsRow w4.heap.size 88 3 s' gs.length (gcs gs) := by simpa using hown
                replace E6 := Lib.hid (own_grown E6.out hgrow (fun q hq e => by obtain ⟨c1, e1⟩ := own_type E6.out q hq; obtain ⟨c2, e2⟩ := own_type E2.out q e; rw [e1] at e2; cases e2))
                replace HB := Lib.hid (HB.out.grown hgrow HB.out.size (fun q hq => (own_block E2.out q hq).1))
                obtain ⟨AG, cG, rfl, _, _⟩ := own_formu hown
                have O5 := Lib.hid hown
                refine hK.out _ wx29 (HKS.out _ HB.out) (fun hS => ?_)
                clear hK hown hgrow E2
                try simp only [Act.put, List.setIfInBounds_toArray, List.set_cons_zero, List.set_cons_succ]
                refine wpAnyH_ready (rs := [9, 11]) (by kernel_rfl) (by simp) ?_
                refine AllReadyH.cons rfl (fun K hK => ?_) (AllReadyH.cons rfl (fun K hK => ?_) AllReadyH.nil)
                · simp only [List.getElem_toArray, List.getElem_cons_zero, List.getElem_cons_succ]
                  refine wp_append_ls _ _ 24 rfl w4.heap.size 86 i0 (.int .i16 0) 1 2 Tryd.underlying24 HI.out HZ0.out HZ1.out HZ2.out rfl (by decide) _ 0 _ rfl E6.out A2 os.length c2 (i16s os) rfl (HO.out.below (HB3.out.trans (HB.out.mono HB3.out.size))).1 (by simp) (i16s_oneC os) (by unfold maxLen; omega) (by omega) HB.out.size ?_
                  intro s' wx30 hown hgrow
                  replace hown : wx30.ownsRow w4.heap.size 86 1 s' os.length (i16s os) := by simpa using hown
                  replace O5 := Lib.hid (own_grown O5.out hgrow (fun q hq e => by obtain ⟨c1, e1⟩ := own_type O5.out q hq; obtain ⟨c2, e2⟩ := own_type E6.out q e; rw [e1] at e2; cases e2))
                  replace HB := Lib.hid (HB.out.grown hgrow HB.out.size (fun q hq => (own_block E6.out q hq).1))
                  obtain ⟨AO, cO, rfl, _, _⟩ := own_formu hown
                  have O9 := Lib.hid hown
                  refine hK.out _ wx30 (HKS.out _ HB.out) (fun hS => ?_)
                  clear hK hown hgrow E6
                  try simp only [Act.put, List.setIfInBounds_toArray, List.set_cons_zero, List.set_cons_succ]
                  refine takeHd (i := 10) (v := ?v10gcfjT) rfl rfl (by kernel_rfl) (by kernel_rfl) (by kernel_rfl) (fun _ _ _ h => absurd h.1 (by intro e; cases e)) rfl ?hy10gcfjT hS ?rs10gcfjT
                  case hy10gcfjT => (intro wq hq; obtain ⟨hq1, hq2, hq3⟩ := hq; go_simp; try (with_reducible rfl))
                  simp only [Act.put, List.setIfInBounds_toArray, List.set_cons_zero, List.set_cons_succ]
                  refine wpAnyH_ready (rs := [11]) (by kernel_rfl) (by simp) ?_
                  refine AllReadyH.cons rfl (fun K hK => ?_) AllReadyH.nil
                  go_simp
                  have hbx := (nw1 wx30 (.cells #[.int .i8 0, .slice none 0 0, .slice none 0 0] 33)).2.1
                  replace O5 := Lib.hid (owb O5.out hbx)
                  replace O9 := Lib.hid (owb O9.out hbx)
                  have T11 : Hid ((wx30.alloc (.cells #[.int .i8 0, .slice none 0 0, .slice none 0 0] 33)).heap[wx30.heap.size]? = some (.cells #[.int .i8 0, .slice none 0 0, .slice none 0 0] 33 (0, 0))) := Lib.hid (heap_alloc_new wx30 _)
                  have HG11 : Hid (w4.heap.size ≤ wx30.heap.size) := Lib.hid HB.out.size
                  replace HB := Lib.hid (HB.out.trans (hbx.mono HB.out.size))
                  obtain ⟨g11, hg11⟩ : ∃ g11, g11 = wx30.heap.size := ⟨_, rfl⟩
                  rw [← hg11] at T11 HG11 ⊢
                  refine hK.out _ (wx30.alloc (.cells #[.int .i8 0, .slice none 0 0, .slice none 0 0] 33)) (HKS.out _ HB.out) (fun hS => ?_)
                  clear hK hbx hg11
                  generalize wx30.alloc (.cells #[.int .i8 0, .slice none 0 0, .slice none 0 0] 33) = wx31 at hS HB O5 O9 T11 ⊢
                  try simp only [Act.put, List.setIfInBounds_toArray, List.set_cons_zero, List.set_cons_succ]
                  refine wpAnyH_ready (rs := [12]) (by kernel_rfl) (by simp) ?_
                  refine AllReadyH.cons rfl (fun K hK => ?_) AllReadyH.nil
                  simp only [List.getElem_toArray, List.getElem_cons_zero, List.getElem_cons_succ]
                  refine wp_store_mid 33 _ _ rfl g11 0 #[.int .i8 n, .slice AG gs.length cG, .slice AO os.length cO] rfl rfl (show BX wx31 g11 (.int .i8 0) (.slice none 0 0) (.slice none 0 0) from ⟨_, T11.out⟩).there (by kernel_rfl) (three_one rfl rfl rfl) ?_
                  have HBF := Lib.hid (bsets HG11.out [.int .i8 n, .slice AG gs.length cG, .slice AO os.length cO] 0 wx31 HB.out)
                  refine hK.out _ (wx31.setCells g11 0 [.int .i8 n, .slice AG gs.length cG, .slice AO os.length cO]) (HKS.out _ HBF.out) (fun hS => ?_)
                  clear hK
                  try simp only [Act.put, List.setIfInBounds_toArray, List.set_cons_zero, List.set_cons_succ]
                  refine wpAnyH_done (by kernel_rfl) ?_ _
                  refine ⟨rfl, g2, g6, g11, AG, cG, AO, cO, ?_, HBF, Lib.hid (puts3 T11.out _ _ _), HG11, Lib.hid (own_setsT O5.out (fun q hq e => by subst e; obtain ⟨c1, e1⟩ := own_type O5.out g11 hq; rw [T11.out] at e1; cases e1) _ _), Lib.hid (own_setsT O9.out (fun q hq e => by subst e; obtain ⟨c1, e1⟩ := own_type O9.out g11 hq; rw [T11.out] at e1; cases e1) _ _)⟩
                  rfl
                · go_simp
                  have hbx := (nw1 wx29 (.cells #[.int .i8 0, .slice none 0 0, .slice none 0 0] 33)).2.1
                  replace O5 := Lib.hid (owb O5.out hbx)
                  replace E6 := Lib.hid (owb E6.out hbx)
                  have T11 : Hid ((wx29.alloc (.cells #[.int .i8 0, .slice none 0 0, .slice none 0 0] 33)).heap[wx29.heap.size]? = some (.cells #[.int .i8 0, .slice none 0 0, .slice none 0 0] 33 (0, 0))) := Lib.hid (heap_alloc_new wx29 _)
                  have HG11 : Hid (w4.heap.size ≤ wx29.heap.size) := Lib.hid HB.out.size
                  replace HB := Lib.hid (HB.out.trans (hbx.mono HB.out.size))
                  obtain ⟨g11, hg11⟩ : ∃ g11, g11 = wx29.heap.size := ⟨_, rfl⟩
                  rw [← hg11] at T11 HG11 ⊢
                  refine hK.out _ (wx29.alloc (.cells #[.int .i8 0, .slice none 0 0, .slice none 0 0] 33)) (HKS.out _ HB.out) (fun hS => ?_)
                  clear hK hbx hg11
                  generalize wx29.alloc (.cells #[.int .i8 0, .slice none 0 0, .slice none 0 0] 33) = wx32 at hS HB O5 E6 T11 ⊢
                  try simp only [Act.put, List.setIfInBounds_toArray, List.set_cons_zero, List.set_cons_succ]
                  refine wpAnyH_ready (rs := [9]) (by kernel_rfl) (by simp) ?_
                  refine AllReadyH.cons rfl (fun K hK => ?_) AllReadyH.nil
                  simp only [List.getElem_toArray, List.getElem_cons_zero, List.getElem_cons_succ]
                  refine wp_append_ls _ _ 24 rfl w4.heap.size 86 i0 (.int .i16 0) 1 2 Tryd.underlying24 HI.out HZ0.out HZ1.out HZ2.out rfl (by decide) _ 0 _ rfl E6.out A2 os.length c2 (i16s os) rfl (HO.out.below (HB3.out.trans (HB.out.mono HB3.out.size))).1 (by simp) (i16s_oneC os) (by unfold maxLen; omega) (by omega) HB.out.size ?_
                  intro s' wx33 hown hgrow
                  replace hown : wx33.ownsRow w4.heap.size 86 1 s' os.length (i16s os) := by simpa using hown
                  replace O5 := Lib.hid (own_grown O5.out hgrow (fun q hq e => by obtain ⟨c1, e1⟩ := own_type O5.out q hq; obtain ⟨c2, e2⟩ := own_type E6.out q e; rw [e1] at e2; cases e2))
                  replace T11 := Lib.hid ((hgrow.block g11 (Array.getElem?_eq_some_iff.1 T11.out).1 (fun e => by obtain ⟨c2, e2⟩ := own_type E6.out g11 e.symm; rw [T11.out] at e2; cases e2)).trans T11.out)
                  replace HB := Lib.hid (HB.out.grown hgrow HB.out.size (fun q hq => (own_block E6.out q hq).1))
                  obtain ⟨AO, cO, rfl, _, _⟩ := own_formu hown
                  have O9 := Lib.hid hown
                  refine hK.out _ wx33 (HKS.out _ HB.out) (fun hS => ?_)
                  clear hK hown hgrow E6
                  try simp only [Act.put, List.setIfInBounds_toArray, List.set_cons_zero, List.set_cons_succ]
                  refine takeHd (i := 10) (v := ?v10gcflT) rfl rfl (by kernel_rfl) (by kernel_rfl) (by kernel_rfl) (fun _ _ _ h => absurd h.1 (by intro e; cases e)) rfl ?hy10gcflT hS ?rs10gcflT
                  case hy10gcflT => (intro wq hq; obtain ⟨hq1, hq2, hq3⟩ := hq; go_simp; try (with_reducible rfl))
                  simp only [Act.put, List.setIfInBounds_toArray, List.set_cons_zero, List.set_cons_succ]
                  refine wpAnyH_ready (rs := [12]) (by kernel_rfl) (by simp) ?_
                  refine AllReadyH.cons rfl (fun K hK => ?_) AllReadyH.nil
                  simp only [List.getElem_toArray, List.getElem_cons_zero, List.getElem_cons_succ]
                  refine wp_store_mid 33 _ _ rfl g11 0 #[.int .i8 n, .slice AG gs.length cG, .slice AO os.length cO] rfl rfl (show BX wx33 g11 (.int .i8 0) (.slice none 0 0) (.slice none 0 0) from ⟨_, T11.out⟩).there (by kernel_rfl) (three_one rfl rfl rfl) ?_
                  have HBF := Lib.hid (bsets HG11.out [.int .i8 n, .slice AG gs.length cG, .slice AO os.length cO] 0 wx33 HB.out)
                  refine hK.out _ (wx33.setCells g11 0 [.int .i8 n, .slice AG gs.length cG, .slice AO os.length cO]) (HKS.out _ HBF.out) (fun hS => ?_)
                  clear hK
                  try simp only [Act.put, List.setIfInBounds_toArray, List.set_cons_zero, List.set_cons_succ]
                  refine wpAnyH_done (by kernel_rfl) ?_ _
                  refine ⟨rfl, g2, g6, g11, AG, cG, AO, cO, ?_, HBF, Lib.hid (puts3 T11.out _ _ _), HG11, Lib.hid (own_setsT O5.out (fun q hq e => by subst e; obtain ⟨c1, e1⟩ := own_type O5.out g11 hq; rw [T11.out] at e1; cases e1) _ _), Lib.hid (own_setsT O9.out (fun q hq e => by subst e; obtain ⟨c1, e1⟩ := own_type O9.out g11 hq; rw [T11.out] at e1; cases e1) _ _)⟩
                  rfl
              · go_simp
                have hbx := (nw1 wx28 (.cells #[.int .i8 0, .slice none 0 0, .slice none 0 0] 33)).2.1
                replace E2 := Lib.hid (owb E2.out hbx)
                replace E6 := Lib.hid (owb E6.out hbx)
                have T11 : Hid ((wx28.alloc (.cells #[.int .i8 0, .slice none 0 0, .slice none 0 0] 33)).heap[wx28.heap.size]? = some (.cells #[.int .i8 0, .slice none 0 0, .slice none 0 0] 33 (0, 0))) := Lib.hid (heap_alloc_new wx28 _)
                have HG11 : Hid (w4.heap.size ≤ wx28.heap.size) := Lib.hid HB.out.size
                replace HB := Lib.hid (HB.out.trans (hbx.mono HB.out.size))
                obtain ⟨g11, hg11⟩ : ∃ g11, g11 = wx28.heap.size := ⟨_, rfl⟩
                rw [← hg11] at T11 HG11 ⊢
                refine hK.out _ (wx28.alloc (.cells #[.int .i8 0, .slice none 0 0, .slice none 0 0] 33)) (HKS.out _ HB.out) (fun hS => ?_)
                clear hK hbx hg11
                generalize wx28.alloc (.cells #[.int .i8 0, .slice none 0 0, .slice none 0 0] 33) = wx34 at hS HB E2 E6 T11 ⊢
                try simp only [Act.put, List.setIfInBounds_toArray, List.set_cons_zero, List.set_cons_succ]
                refine wpAnyH_ready (rs := [5]) (by kernel_rfl) (by simp) ?_
                refine AllReadyH.cons rfl (fun K hK => ?_) AllReadyH.nil
                simp only [List.getElem_toArray, List.getElem_cons_zero, List.getElem_cons_succ]
                refine wp_append_ls _ _ 31 rfl w4.heap.size 88 j0 (.agg #[.int .i8 0, .int .i16 0, .int .i16 0]) 3 6 Tryd.underlying31 JI.out JZ0.out JZ1.out JZ2.out rfl (by decide) _ 0 _ rfl E2.out (some ⟨b, off, none⟩) gs.length c (gcs gs) rfl (HG.out.below (HB3.out.trans (HB.out.mono HB3.out.size))).1 (by rw [gcs_len]) (gcs_one gs) (by unfold maxLen; omega) (by omega) HB.out.size ?_
                intro s' wx35 hown hgrow
                replace hown : wx35.ownsRow w4.heap.size 88 3 s' gs.length (gcs gs) := by simpa using hown
                replace E6 := Lib.hid (own_grown E6.out hgrow (fun q hq e => by obtain ⟨c1, e1⟩ := own_type E6.out q hq; obtain ⟨c2, e2⟩ := own_type E2.out q e; rw [e1] at e2; cases e2))
                replace T11 := Lib.hid ((hgrow.block g11 (Array.getElem?_eq_some_iff.1 T11.out).1 (fun e => by obtain ⟨c2, e2⟩ := own_type E2.out g11 e.symm; rw [T11.out] at e2; cases e2)).trans T11.out)
                replace HB := Lib.hid (HB.out.grown hgrow HB.out.size (fun q hq => (own_block E2.out q hq).1))
                obtain ⟨AG, cG, rfl, _, _⟩ := own_formu hown
                have O5 := Lib.hid hown
                refine hK.out _ wx35 (HKS.out _ HB.out) (fun hS => ?_)
                clear hK hown hgrow E2
                try simp only [Act.put, List.setIfInBounds_toArray, List.set_cons_zero, List.set_cons_succ]
                refine wpAnyH_ready (rs := [9]) (by kernel_rfl) (by simp) ?_
                refine AllReadyH.cons rfl (fun K hK => ?_) AllReadyH.nil
                simp only [List.getElem_toArray, List.getElem_cons_zero, List.getElem_cons_succ]
                refine wp_append_ls _ _ 24 rfl w4.heap.size 86 i0 (.int .i16 0) 1 2 Tryd.underlying24 HI.out HZ0.out HZ1.out HZ2.out rfl (by decide) _ 0 _ rfl E6.out A2 os.length c2 (i16s os) rfl (HO.out.below (HB3.out.trans (HB.out.mono HB3.out.size))).1 (by simp) (i16s_oneC os) (by unfold maxLen; omega) (by omega) HB.out.size ?_
                intro s' wx36 hown hgrow
                replace hown : wx36.ownsRow w4.heap.size 86 1 s' os.length (i16s os) := by simpa using hown
                replace O5 := Lib.hid (own_grown O5.out hgrow (fun q hq e => by obtain ⟨c1, e1⟩ := own_type O5.out q hq; obtain ⟨c2, e2⟩ := own_type E6.out q e; rw [e1] at e2; cases e2))
                replace T11 := Lib.hid ((hgrow.block g11 (Array.getElem?_eq_some_iff.1 T11.out).1 (fun e => by obtain ⟨c2, e2⟩ := own_type E6.out g11 e.symm; rw [T11.out] at e2; cases e2)).trans T11.out)
                replace HB := Lib.hid (HB.out.grown hgrow HB.out.size (fun q hq => (own_block E6.out q hq).1))
                obtain ⟨AO, cO, rfl, _, _⟩ := own_formu hown
                have O9 := Lib.hid hown
                refine hK.out _ wx36 (HKS.out _ HB.out) (fun hS => ?_)
                clear hK hown hgrow E6
                try simp only [Act.put, List.setIfInBounds_toArray, List.set_cons_zero, List.set_cons_succ]
                refine takeHd (i := 10) (v := ?v10gclT) rfl rfl (by kernel_rfl) (by kernel_rfl) (by kernel_rfl) (fun _ _ _ h => absurd h.1 (by intro e; cases e)) rfl ?hy10gclT hS ?rs10gclT
                case hy10gclT => (intro wq hq; obtain ⟨hq1, hq2, hq3⟩ := hq; go_simp; try (with_reducible rfl))
                simp only [Act.put, List.setIfInBounds_toArray, List.set_cons_zero, List.set_cons_succ]
                refine wpAnyH_ready (rs := [12]) (by kernel_rfl) (by simp) ?_
                refine AllReadyH.cons rfl (fun K hK => ?_) AllReadyH.nil
                simp only [List.getElem_toArray, List.getElem_cons_zero, List.getElem_cons_succ]
                refine wp_store_mid 33 _ _ rfl g11 0 #[.int .i8 n, .slice AG gs.length cG, .slice AO os.length cO] rfl rfl (show BX wx36 g11 (.int .i8 0) (.slice none 0 0) (.slice none 0 0) from ⟨_, T11.out⟩).there (by kernel_rfl) (three_one rfl rfl rfl) ?_
                have HBF := Lib.hid (bsets HG11.out [.int .i8 n, .slice AG gs.length cG, .slice AO os.length cO] 0 wx36 HB.out)
                refine hK.out _ (wx36.setCells g11 0 [.int .i8 n, .slice AG gs.length cG, .slice AO os.length cO]) (HKS.out _ HBF.out) (fun hS => ?_)
                clear hK
                try simp only [Act.put, List.setIfInBounds_toArray, List.set_cons_zero, List.set_cons_succ]
                refine wpAnyH_done (by kernel_rfl) ?_ _
                refine ⟨rfl, g2, g6, g11, AG, cG, AO, cO, ?_, HBF, Lib.hid (puts3 T11.out _ _ _), HG11, Lib.hid (own_setsT O5.out (fun q hq e => by subst e; obtain ⟨c1, e1⟩ := own_type O5.out g11 hq; rw [T11.out] at e1; cases e1) _ _), Lib.hid (own_setsT O9.out (fun q hq e => by subst e; obtain ⟨c1, e1⟩ := own_type O9.out g11 hq; rw [T11.out] at e1; cases e1) _ _)⟩
                rfl
            · go_simp
              have hbx := (nw1 wx27 (.cells #[.int .i8 0, .slice none 0 0, .slice none 0 0] 33)).2.1
              replace E6 := Lib.hid (owb E6.out hbx)
              have T11 : Hid ((wx27.alloc (.cells #[.int .i8 0, .slice none 0 0, .slice none 0 0] 33)).heap[wx27.heap.size]? = some (.cells #[.int .i8 0, .slice none 0 0, .slice none 0 0] 33 (0, 0))) := Lib.hid (heap_alloc_new wx27 _)
              have HG11 : Hid (w4.heap.size ≤ wx27.heap.size) := Lib.hid HB.out.size
              replace HB := Lib.hid (HB.out.trans (hbx.mono HB.out.size))
              obtain ⟨g11, hg11⟩ : ∃ g11, g11 = wx27.heap.size := ⟨_, rfl⟩
              rw [← hg11] at T11 HG11 ⊢
              refine hK.out _ (wx27.alloc (.cells #[.int .i8 0, .slice none 0 0, .slice none 0 0] 33)) (HKS.out _ HB.out) (fun hS => ?_)
              clear hK hbx hg11
              generalize wx27.alloc (.cells #[.int .i8 0, .slice none 0 0, .slice none 0 0] 33) = wx37 at hS HB E6 T11 ⊢
              try simp only [Act.put, List.setIfInBounds_toArray, List.set_cons_zero, List.set_cons_succ]
              refine wpAnyH_ready (rs := [2]) (by kernel_rfl) (by simp) ?_
              refine AllReadyH.cons rfl (fun K hK => ?_) AllReadyH.nil
              go_simp
              have hbx := (nw1 wx37 (.cells #[] 88)).2.1
              replace E6 := Lib.hid (owb E6.out hbx)
              replace T11 := Lib.hid ((hbx.block g11 (Array.getElem?_eq_some_iff.1 T11.out).1).trans T11.out)
              have E2 : Hid ((wx37.alloc (.cells #[] 88)).ownsRow w4.heap.size 88 3 (.slice (some ⟨wx37.heap.size, 0, none⟩) 0 0) 0 []) := Lib.hid (World.ownsRow_made _ #[] 0 HB.out.size (Nat.zero_le _) rfl)
              replace HB := Lib.hid (HB.out.trans (hbx.mono HB.out.size))
              obtain ⟨g2, hg2⟩ : ∃ g2, g2 = wx37.heap.size := ⟨_, rfl⟩
              rw [← hg2] at E2 ⊢
              refine hK.out _ (wx37.alloc (.cells #[] 88)) (HKS.out _ HB.out) (fun hS => ?_)
              clear hK hbx hg2
              generalize wx37.alloc (.cells #[] 88) = wx38 at hS HB E6 E2 T11 ⊢
              try simp only [Act.put, List.setIfInBounds_toArray, List.set_cons_zero, List.set_cons_succ]
              refine wpAnyH_ready (rs := [5]) (by kernel_rfl) (by simp) ?_
              refine AllReadyH.cons rfl (fun K hK => ?_) AllReadyH.nil
              simp only [List.getElem_toArray, List.getElem_cons_zero, List.getElem_cons_succ]
              refine wp_append_ls _ _ 31 rfl w4.heap.size 88 j0 (.agg #[.int .i8 0, .int .i16 0, .int .i16 0]) 3 6 Tryd.underlying31 JI.out JZ0.out JZ1.out JZ2.out rfl (by decide) _ 0 _ rfl E2.out (some ⟨b, off, none⟩) gs.length c (gcs gs) rfl (HG.out.below (HB3.out.trans (HB.out.mono HB3.out.size))).1 (by rw [gcs_len]) (gcs_one gs) (by unfold maxLen; omega) (by omega) HB.out.size ?_
              intro s' wx39 hown hgrow
              replace hown : wx39.ownsRow w4.heap.size 88 3 s' gs.length (gcs gs) := by simpa using hown
              replace E6 := Lib.hid (own_grown E6.out hgrow (fun q hq e => by obtain ⟨c1, e1⟩ := own_type E6.out q hq; obtain ⟨c2, e2⟩ := own_type E2.out q e; rw [e1] at e2; cases e2))
              replace T11 := Lib.hid ((hgrow.block g11 (Array.getElem?_eq_some_iff.1 T11.out).1 (fun e => by obtain ⟨c2, e2⟩ := own_type E2.out g11 e.symm; rw [T11.out] at e2; cases e2)).trans T11.out)
              replace HB := Lib.hid (HB.out.grown hgrow HB.out.size (fun q hq => (own_block E2.out q hq).1))
              obtain ⟨AG, cG, rfl, _, _⟩ := own_formu hown
              have O5 := Lib.hid hown
              refine hK.out _ wx39 (HKS.out _ HB.out) (fun hS => ?_)
              clear hK hown hgrow E2
              try simp only [Act.put, List.setIfInBounds_toArray, List.set_cons_zero, List.set_cons_succ]
              refine wpAnyH_ready (rs := [9]) (by kernel_rfl) (by simp) ?_
              refine AllReadyH.cons rfl (fun K hK => ?_) AllReadyH.nil
              simp only [List.getElem_toArray, List.getElem_cons_zero, List.getElem_cons_succ]
              refine wp_append_ls _ _ 24 rfl w4.heap.size 86 i0 (.int .i16 0) 1 2 Tryd.underlying24 HI.out HZ0.out HZ1.out HZ2.out rfl (by decide) _ 0 _ rfl E6.out A2 os.length c2 (i16s os) rfl (HO.out.below (HB3.out.trans (HB.out.mono HB3.out.size))).1 (by simp) (i16s_oneC os) (by unfold maxLen; omega) (by omega) HB.out.size ?_
              intro s' wx40 hown hgrow
              replace hown : wx40.ownsRow w4.heap.size 86 1 s' os.length (i16s os) := by simpa using hown
              replace O5 := Lib.hid (own_grown O5.out hgrow (fun q hq e => by obtain ⟨c1, e1⟩ := own_type O5.out q hq; obtain ⟨c2, e2⟩ := own_type E6.out q e; rw [e1] at e2; cases e2))
              replace T11 := Lib.hid ((hgrow.block g11 (Array.getElem?_eq_some_iff.1 T11.out).1 (fun e => by obtain ⟨c2, e2⟩ := own_type E6.out g11 e.symm; rw [T11.out] at e2; cases e2)).trans T11.out)
              replace HB := Lib.hid (HB.out.grown hgrow HB.out.size (fun q hq => (own_block E6.out q hq).1))
              obtain ⟨AO, cO, rfl, _, _⟩ := own_formu hown
              have O9 := Lib.hid hown
              refine hK.out _ wx40 (HKS.out _ HB.out) (fun hS => ?_)
              clear hK hown hgrow E6
              try simp only [Act.put, List.setIfInBounds_toArray, List.set_cons_zero, List.set_cons_succ]
              refine takeHd (i := 10) (v := ?v10glT) rfl rfl (by kernel_rfl) (by kernel_rfl) (by kernel_rfl) (fun _ _ _ h => absurd h.1 (by intro e; cases e)) rfl ?hy10glT hS ?rs10glT
              case hy10glT => (intro wq hq; obtain ⟨hq1, hq2, hq3⟩ := hq; go_simp; try (with_reducible rfl))
              simp only [Act.put, List.setIfInBounds_toArray, List.set_cons_zero, List.set_cons_succ]
              refine wpAnyH_ready (rs := [12]) (by kernel_rfl) (by simp) ?_
              refine AllReadyH.cons rfl (fun K hK => ?_) AllReadyH.nil
              simp only [List.getElem_toArray, List.getElem_cons_zero, List.getElem_cons_succ]
              refine wp_store_mid 33 _ _ rfl g11 0 #[.int .i8 n, .slice AG gs.length cG, .slice AO os.length cO] rfl rfl (show BX wx40 g11 (.int .i8 0) (.slice none 0 0) (.slice none 0 0) from ⟨_, T11.out⟩).there (by kernel_rfl) (three_one rfl rfl rfl) ?_
              have HBF := Lib.hid (bsets HG11.out [.int .i8 n, .slice AG gs.length cG, .slice AO os.length cO] 0 wx40 HB.out)
              refine hK.out _ (wx40.setCells g11 0 [.int .i8 n, .slice AG gs.length cG, .slice AO os.length cO]) (HKS.out _ HBF.out) (fun hS => ?_)
              clear hK
              try simp only [Act.put, List.setIfInBounds_toArray, List.set_cons_zero, List.set_cons_succ]
              refine wpAnyH_done (by kernel_rfl) ?_ _
              refine ⟨rfl, g2, g6, g11, AG, cG, AO, cO, ?_, HBF, Lib.hid (puts3 T11.out _ _ _), HG11, Lib.hid (own_setsT O5.out (fun q hq e => by subst e; obtain ⟨c1, e1⟩ := own_type O5.out g11 hq; rw [T11.out] at e1; cases e1) _ _), Lib.hid (own_setsT O9.out (fun q hq e => by subst e; obtain ⟨c1, e1⟩ := own_type O9.out g11 hq; rw [T11.out] at e1; cases e1) _ _)⟩
              rfl
          · go_simp
            have hbx := (nw1 wd (.cells #[.int .i8 0, .slice none 0 0, .slice none 0 0] 33)).2.1
            have T11 : Hid ((wd.alloc (.cells #[.int .i8 0, .slice none 0 0, .slice none 0 0] 33)).heap[wd.heap.size]? = some (.cells #[.int .i8 0, .slice none 0 0, .slice none 0 0] 33 (0, 0))) := Lib.hid (heap_alloc_new wd _)
            have HG11 : Hid (w4.heap.size ≤ wd.heap.size) := Lib.hid HB.out.size
            replace HB := Lib.hid (HB.out.trans (hbx.mono HB.out.size))
            obtain ⟨g11, hg11⟩ : ∃ g11, g11 = wd.heap.size := ⟨_, rfl⟩
            rw [← hg11] at T11 HG11 ⊢
            refine hK.out _ (wd.alloc (.cells #[.int .i8 0, .slice none 0 0, .slice none 0 0] 33)) (HKS.out _ HB.out) (fun hS => ?_)
            clear hK hbx hg11
            generalize wd.alloc (.cells #[.int .i8 0, .slice none 0 0, .slice none 0 0] 33) = wx41 at hS HB T11 ⊢
            try simp only [Act.put, List.setIfInBounds_toArray, List.set_cons_zero, List.set_cons_succ]
            refine wpAnyH_ready (rs := [2, 6]) (by kernel_rfl) (by simp) ?_
            refine AllReadyH.cons rfl (fun K hK => ?_) (AllReadyH.cons rfl (fun K hK => ?_) AllReadyH.nil)
            · go_simp
              have hbx := (nw1 wx41 (.cells #[] 88)).2.1
              replace T11 := Lib.hid ((hbx.block g11 (Array.getElem?_eq_some_iff.1 T11.out).1).trans T11.out)
              have E2 : Hid ((wx41.alloc (.cells #[] 88)).ownsRow w4.heap.size 88 3 (.slice (some ⟨wx41.heap.size, 0, none⟩) 0 0) 0 []) := Lib.hid (World.ownsRow_made _ #[] 0 HB.out.size (Nat.zero_le _) rfl)
              replace HB := Lib.hid (HB.out.trans (hbx.mono HB.out.size))
              obtain ⟨g2, hg2⟩ : ∃ g2, g2 = wx41.heap.size := ⟨_, rfl⟩
              rw [← hg2] at E2 ⊢
              refine hK.out _ (wx41.alloc (.cells #[] 88)) (HKS.out _ HB.out) (fun hS => ?_)
              clear hK hbx hg2
              generalize wx41.alloc (.cells #[] 88) = wx42 at hS HB E2 T11 ⊢
              try simp only [Act.put, List.setIfInBounds_toArray, List.set_cons_zero, List.set_cons_succ]
              refine wpAnyH_ready (rs := [5, 6]) (by kernel_rfl) (by simp) ?_
              refine AllReadyH.cons rfl (fun K hK => ?_) (AllReadyH.cons rfl (fun K hK => ?_) AllReadyH.nil)
              · simp only [List.getElem_toArray, List.getElem_cons_zero, List.getElem_cons_succ]
                refine wp_append_ls _ _ 31 rfl w4.heap.size 88 j0 (.agg #[.int .i8 0, .int .i16 0, .int .i16 0]) 3 6 Tryd.underlying31 JI.out JZ0.out JZ1.out JZ2.out rfl (by decide) _ 0 _ rfl E2.out (some ⟨b, off, none⟩) gs.length c (gcs gs) rfl (HG.out.below (HB3.out.trans (HB.out.mono HB3.out.size))).1 (by rw [gcs_len]) (gcs_one gs) (by unfold maxLen; omega) (by omega) HB.out.size ?_
                intro s' wx43 hown hgrow
                replace hown : wx43.ownsRow w4.heap.size 88 3 s' gs.length (gcs gs) := by simpa using hown
                replace T11 := Lib.hid ((hgrow.block g11 (Array.getElem?_eq_some_iff.1 T11.out).1 (fun e => by obtain ⟨c2, e2⟩ := own_type E2.out g11 e.symm; rw [T11.out] at e2; cases e2)).trans T11.out)
                replace HB := Lib.hid (HB.out.grown hgrow HB.out.size (fun q hq => (own_block E2.out q hq).1))
                obtain ⟨AG, cG, rfl, _, _⟩ := own_formu hown
                have O5 := Lib.hid hown
                refine hK.out _ wx43 (HKS.out _ HB.out) (fun hS => ?_)
                clear hK hown hgrow E2
                try simp only [Act.put, List.setIfInBounds_toArray, List.set_cons_zero, List.set_cons_succ]
                refine wpAnyH_ready (rs := [6]) (by kernel_rfl) (by simp) ?_
                refine AllReadyH.cons rfl (fun K hK => ?_) AllReadyH.nil
                go_simp
                have hbx := (nw1 wx43 (.cells #[] 86)).2.1
                replace O5 := Lib.hid (owb O5.out hbx)
                replace T11 := Lib.hid ((hbx.block g11 (Array.getElem?_eq_some_iff.1 T11.out).1).trans T11.out)
                have E6 : Hid ((wx43.alloc (.cells #[] 86)).ownsRow w4.heap.size 86 1 (.slice (some ⟨wx43.heap.size, 0, none⟩) 0 0) 0 []) := Lib.hid (World.ownsRow_made _ #[] 0 HB.out.size (Nat.zero_le _) rfl)
                replace HB := Lib.hid (HB.out.trans (hbx.mono HB.out.size))
                obtain ⟨g6, hg6⟩ : ∃ g6, g6 = wx43.heap.size := ⟨_, rfl⟩
                rw [← hg6] at E6 ⊢
                refine hK.out _ (wx43.alloc (.cells #[] 86)) (HKS.out _ HB.out) (fun hS => ?_)
                clear hK hbx hg6
                generalize wx43.alloc (.cells #[] 86) = wx44 at hS HB O5 E6 T11 ⊢
                try simp only [Act.put, List.setIfInBounds_toArray, List.set_cons_zero, List.set_cons_succ]
                refine wpAnyH_ready (rs := [9]) (by kernel_rfl) (by simp) ?_
                refine AllReadyH.cons rfl (fun K hK => ?_) AllReadyH.nil
                simp only [List.getElem_toArray, List.getElem_cons_zero, List.getElem_cons_succ]
                refine wp_append_ls _ _ 24 rfl w4.heap.size 86 i0 (.int .i16 0) 1 2 Tryd.underlying24 HI.out HZ0.out HZ1.out HZ2.out rfl (by decide) _ 0 _ rfl E6.out A2 os.length c2 (i16s os) rfl (HO.out.below (HB3.out.trans (HB.out.mono HB3.out.size))).1 (by simp) (i16s_oneC os) (by unfold maxLen; omega) (by omega) HB.out.size ?_
                intro s' wx45 hown hgrow
                replace hown : wx45.ownsRow w4.heap.size 86 1 s' os.length (i16s os) := by simpa using hown
                replace O5 := Lib.hid (own_grown O5.out hgrow (fun q hq e => by obtain ⟨c1, e1⟩ := own_type O5.out q hq; obtain ⟨c2, e2⟩ := own_type E6.out q e; rw [e1] at e2; cases e2))
                replace T11 := Lib.hid ((hgrow.block g11 (Array.getElem?_eq_some_iff.1 T11.out).1 (fun e => by obtain ⟨c2, e2⟩ := own_type E6.out g11 e.symm; rw [T11.out] at e2; cases e2)).trans T11.out)
                replace HB := Lib.hid (HB.out.grown hgrow HB.out.size (fun q hq => (own_block E6.out q hq).1))
                obtain ⟨AO, cO, rfl, _, _⟩ := own_formu hown
                have O9 := Lib.hid hown
                refine hK.out _ wx45 (HKS.out _ HB.out) (fun hS => ?_)
                clear hK hown hgrow E6
                try simp only [Act.put, List.setIfInBounds_toArray, List.set_cons_zero, List.set_cons_succ]
                refine takeHd (i := 10) (v := ?v10lcfT) rfl rfl (by kernel_rfl) (by kernel_rfl) (by kernel_rfl) (fun _ _ _ h => absurd h.1 (by intro e; cases e)) rfl ?hy10lcfT hS ?rs10lcfT
                case hy10lcfT => (intro wq hq; obtain ⟨hq1, hq2, hq3⟩ := hq; go_simp; try (with_reducible rfl))
                simp only [Act.put, List.setIfInBounds_toArray, List.set_cons_zero, List.set_cons_succ]
                refine wpAnyH_ready (rs := [12]) (by kernel_rfl) (by simp) ?_
                refine AllReadyH.cons rfl (fun K hK => ?_) AllReadyH.nil
                simp only [List.getElem_toArray, List.getElem_cons_zero, List.getElem_cons_succ]
                refine wp_store_mid 33 _ _ rfl g11 0 #[.int .i8 n, .slice AG gs.length cG, .slice AO os.length cO] rfl rfl (show BX wx45 g11 (.int .i8 0) (.slice none 0 0) (.slice none 0 0) from ⟨_, T11.out⟩).there (by kernel_rfl) (three_one rfl rfl rfl) ?_
                have HBF := Lib.hid (bsets HG11.out [.int .i8 n, .slice AG gs.length cG, .slice AO os.length cO] 0 wx45 HB.out)
                refine hK.out _ (wx45.setCells g11 0 [.int .i8 n, .slice AG gs.length cG, .slice AO os.length cO]) (HKS.out _ HBF.out) (fun hS => ?_)
                clear hK
                try simp only [Act.put, List.setIfInBounds_toArray, List.set_cons_zero, List.set_cons_succ]
                refine wpAnyH_done (by kernel_rfl) ?_ _
                refine ⟨rfl, g2, g6, g11, AG, cG, AO, cO, ?_, HBF, Lib.hid (puts3 T11.out _ _ _), HG11, Lib.hid (own_setsT O5.out (fun q hq e => by subst e; obtain ⟨c1, e1⟩ := own_type O5.out g11 hq; rw [T11.out] at e1; cases e1) _ _), Lib.hid (own_setsT O9.out (fun q hq e => by subst e; obtain ⟨c1, e1⟩ := own_type O9.out g11 hq; rw [T11.out] at e1; cases e1) _ _)⟩
                rfl
              · go_simp
                have hbx := (nw1 wx42 (.cells #[] 86)).2.1
                replace E2 := Lib.hid (owb E2.out hbx)
                replace T11 := Lib.hid ((hbx.block g11 (Array.getElem?_eq_some_iff.1 T11.out).1).trans T11.out)
                have E6 : Hid ((wx42.alloc (.cells #[] 86)).ownsRow w4.heap.size 86 1 (.slice (some ⟨wx42.heap.size, 0, none⟩) 0 0) 0 []) := Lib.hid (World.ownsRow_made _ #[] 0 HB.out.size (Nat.zero_le _) rfl)
                replace HB := Lib.hid (HB.out.trans (hbx.mono HB.out.size))
                obtain ⟨g6, hg6⟩ : ∃ g6, g6 = wx42.heap.size := ⟨_, rfl⟩
                rw [← hg6] at E6 ⊢
                refine hK.out _ (wx42.alloc (.cells #[] 86)) (HKS.out _ HB.out) (fun hS => ?_)
                clear hK hbx hg6
                generalize wx42.alloc (.cells #[] 86) = wx46 at hS HB E2 E6 T11 ⊢
                try simp only [Act.put, List.setIfInBounds_toArray, List.set_cons_zero, List.set_cons_succ]
                refine wpAnyH_ready (rs := [5]) (by kernel_rfl) (by simp) ?_
                refine AllReadyH.cons rfl (fun K hK => ?_) AllReadyH.nil
                simp only [List.getElem_toArray, List.getElem_cons_zero, List.getElem_cons_succ]
                refine wp_append_ls _ _ 31 rfl w4.heap.size 88 j0 (.agg #[.int .i8 0, .int .i16 0, .int .i16 0]) 3 6 Tryd.underlying31 JI.out JZ0.out JZ1.out JZ2.out rfl (by decide) _ 0 _ rfl E2.out (some ⟨b, off, none⟩) gs.length c (gcs gs) rfl (HG.out.below (HB3.out.trans (HB.out.mono HB3.out.size))).1 (by rw [gcs_len]) (gcs_one gs) (by unfold maxLen; omega) (by omega) HB.out.size ?_
                intro s' wx47 hown hgrow
                replace hown : wx47.ownsRow w4.heap.size 88 3 s' gs.length (gcs gs) := by simpa using hown
                replace E6 := Lib.hid (own_grown E6.out hgrow (fun q hq e => by obtain ⟨c1, e1⟩ := own_type E6.out q hq; obtain ⟨c2, e2⟩ := own_type E2.out q e; rw [e1] at e2; cases e2))
                replace T11 := Lib.hid ((hgrow.block g11 (Array.getElem?_eq_some_iff.1 T11.out).1 (fun e => by obtain ⟨c2, e2⟩ := own_type E2.out g11 e.symm; rw [T11.out] at e2; cases e2)).trans T11.out)
                replace HB := Lib.hid (HB.out.grown hgrow HB.out.size (fun q hq => (own_block E2.out q hq).1))
                obtain ⟨AG, cG, rfl, _, _⟩ := own_formu hown
                have O5 := Lib.hid hown
                refine hK.out _ wx47 (HKS.out _ HB.out) (fun hS => ?_)
                clear hK hown hgrow E2
                try simp only [Act.put, List.setIfInBounds_toArray, List.set_cons_zero, List.set_cons_succ]
                refine wpAnyH_ready (rs := [9]) (by kernel_rfl) (by simp) ?_
                refine AllReadyH.cons rfl (fun K hK => ?_) AllReadyH.nil
                simp only [List.getElem_toArray, List.getElem_cons_zero, List.getElem_cons_succ]
                refine wp_append_ls _ _ 24 rfl w4.heap.size 86 i0 (.int .i16 0) 1 2 Tryd.underlying24 HI.out HZ0.out HZ1.out HZ2.out rfl (by decide) _ 0 _ rfl E6.out A2 os.length c2 (i16s os) rfl (HO.out.below (HB3.out.trans (HB.out.mono HB3.out.size))).1 (by simp) (i16s_oneC os) (by unfold maxLen; omega) (by omega) HB.out.size ?_
                intro s' wx48 hown hgrow
                replace hown : wx48.ownsRow w4.heap.size 86 1 s' os.length (i16s os) := by simpa using hown
                replace O5 := Lib.hid (own_grown O5.out hgrow (fun q hq e => by obtain ⟨c1, e1⟩ := own_type O5.out q hq; obtain ⟨c2, e2⟩ := own_type E6.out q e; rw [e1] at e2; cases e2))
                replace T11 := Lib.hid ((hgrow.block g11 (Array.getElem?_eq_some_iff.1 T11.out).1 (fun e => by obtain ⟨c2, e2⟩ := own_type E6.out g11 e.symm; rw [T11.out] at e2; cases e2)).trans T11.out)
                replace HB := Lib.hid (HB.out.grown hgrow HB.out.size (fun q hq => (own_block E6.out q hq).1))
                obtain ⟨AO, cO, rfl, _, _⟩ := own_formu hown
                have O9 := Lib.hid hown
                refine hK.out _ wx48 (HKS.out _ HB.out) (fun hS => ?_)
                clear hK hown hgrow E6
                try simp only [Act.put, List.setIfInBounds_toArray, List.set_cons_zero, List.set_cons_succ]
                refine takeHd (i := 10) (v := ?v10lcgT) rfl rfl (by kernel_rfl) (by kernel_rfl) (by kernel_rfl) (fun _ _ _ h => absurd h.1 (by intro e; cases e)) rfl ?hy10lcgT hS ?rs10lcgT
                case hy10lcgT => (intro wq hq; obtain ⟨hq1, hq2, hq3⟩ := hq; go_simp; try (with_reducible rfl))
                simp only [Act.put, List.setIfInBounds_toArray, List.set_cons_zero, List.set_cons_succ]
                refine wpAnyH_ready (rs := [12]) (by kernel_rfl) (by simp) ?_
                refine AllReadyH.cons rfl (fun K hK => ?_) AllReadyH.nil
                simp only [List.getElem_toArray, List.getElem_cons_zero, List.getElem_cons_succ]
                refine wp_store_mid 33 _ _ rfl g11 0 #[.int .i8 n, .slice AG gs.length cG, .slice AO os.length cO] rfl rfl (show BX wx48 g11 (.int .i8 0) (.slice none 0 0) (.slice none 0 0) from ⟨_, T11.out⟩).there (by kernel_rfl) (three_one rfl rfl rfl) ?_
                have HBF := Lib.hid (bsets HG11.out [.int .i8 n, .slice AG gs.length cG, .slice AO os.length cO] 0 wx48 HB.out)
                refine hK.out _ (wx48.setCells g11 0 [.int .i8 n, .slice AG gs.length cG, .slice AO os.length cO]) (HKS.out _ HBF.out) (fun hS => ?_)
                clear hK
                try simp only [Act.put, List.setIfInBounds_toArray, List.set_cons_zero, List.set_cons_succ]
                refine wpAnyH_done (by kernel_rfl) ?_ _
                refine ⟨rfl, g2, g6, g11, AG, cG, AO, cO, ?_, HBF, Lib.hid (puts3 T11.out _ _ _), HG11, Lib.hid (own_setsT O5.out (fun q hq e => by subst e; obtain ⟨c1, e1⟩ := own_type O5.out g11 hq; rw [T11.out] at e1; cases e1) _ _), Lib.hid (own_setsT O9.out (fun q hq e => by subst e; obtain ⟨c1, e1⟩ := own_type O9.out g11 hq; rw [T11.out] at e1; cases e1) _ _)⟩
                rfl
            · go_simp
              have hbx := (nw1 wx41 (.cells #[] 86)).2.1
              replace T11 := Lib.hid ((hbx.block g11 (Array.getElem?_eq_some_iff.1 T11.out).1).trans T11.out)
              have E6 : Hid ((wx41.alloc (.cells #[] 86)).ownsRow w4.heap.size 86 1 (.slice (some ⟨wx41.heap.size, 0, none⟩) 0 0) 0 []) := Lib.hid (World.ownsRow_made _ #[] 0 HB.out.size (Nat.zero_le _) rfl)
              replace HB := Lib.hid (HB.out.trans (hbx.mono HB.out.size))
              obtain ⟨g6, hg6⟩ : ∃ g6, g6 = wx41.heap.size := ⟨_, rfl⟩
              rw [← hg6] at E6 ⊢
              refine hK.out _ (wx41.alloc (.cells #[] 86)) (HKS.out _ HB.out) (fun hS => ?_)
              clear hK hbx hg6
              generalize wx41.alloc (.cells #[] 86) = wx49 at hS HB E6 T11 ⊢
              try simp only [Act.put, List.setIfInBounds_toArray, List.set_cons_zero, List.set_cons_succ]
              refine wpAnyH_ready (rs := [2]) (by kernel_rfl) (by simp) ?_
              refine AllReadyH.cons rfl (fun K hK => ?_) AllReadyH.nil
              go_simp
              have hbx := (nw1 wx49 (.cells #[] 88)).2.1
              replace E6 := Lib.hid (owb E6.out hbx)
              replace T11 := Lib.hid ((hbx.block g11 (Array.getElem?_eq_some_iff.1 T11.out).1).trans T11.out)
              have E2 : Hid ((wx49.alloc (.cells #[] 88)).ownsRow w4.heap.size 88 3 (.slice (some ⟨wx49.heap.size, 0, none⟩) 0 0) 0 []) := Lib.hid (World.ownsRow_made _ #[] 0 HB.out.size (Nat.zero_le _) rfl)
              replace HB := Lib.hid (HB.out.trans (hbx.mono HB.out.size))
              obtain ⟨g2, hg2⟩ : ∃ g2, g2 = wx49.heap.size := ⟨_, rfl⟩
              rw [← hg2] at E2 ⊢
              refine hK.out _ (wx49.alloc (.cells #[] 88)) (HKS.out _ HB.out) (fun hS => ?_)
              clear hK hbx hg2
              generalize wx49.alloc (.cells #[] 88) = wx50 at hS HB E6 E2 T11 ⊢
              try simp only [Act.put, List.setIfInBounds_toArray, List.set_cons_zero, List.set_cons_succ]
              refine wpAnyH_ready (rs := [5]) (by kernel_rfl) (by simp) ?_
              refine AllReadyH.cons rfl (fun K hK => ?_) AllReadyH.nil
              simp only [List.getElem_toArray, List.getElem_cons_zero, List.getElem_cons_succ]
              refine wp_append_ls _ _ 31 rfl w4.heap.size 88 j0 (.agg #[.int .i8 0, .int .i16 0, .int .i16 0]) 3 6 Tryd.underlying31 JI.out JZ0.out JZ1.out JZ2.out rfl (by decide) _ 0 _ rfl E2.out (some ⟨b, off, none⟩) gs.length c (gcs gs) rfl (HG.out.below (HB3.out.trans (HB.out.mono HB3.out.size))).1 (by rw [gcs_len]) (gcs_one gs) (by unfold maxLen; omega) (by omega) HB.out.size ?_
              intro s' wx51 hown hgrow
              replace hown : wx51.ownsRow w4.heap.size 88 3 s' gs.length (gcs gs) := by simpa using hown
              replace E6 := Lib.hid (own_grown E6.out hgrow (fun q hq e => by obtain ⟨c1, e1⟩ := own_type E6.out q hq; obtain ⟨c2, e2⟩ := own_type E2.out q e; rw [e1] at e2; cases e2))
              replace T11 := Lib.hid ((hgrow.block g11 (Array.getElem?_eq_some_iff.1 T11.out).1 (fun e => by obtain ⟨c2, e2⟩ := own_type E2.out g11 e.symm; rw [T11.out] at e2; cases e2)).trans T11.out)
              replace HB := Lib.hid (HB.out.grown hgrow HB.out.size (fun q hq => (own_block E2.out q hq).1))
              obtain ⟨AG, cG, rfl, _, _⟩ := own_formu hown
              have O5 := Lib.hid hown
              refine hK.out _ wx51 (HKS.out _ HB.out) (fun hS => ?_)
              clear hK hown hgrow E2
              try simp only [Act.put, List.setIfInBounds_toArray, List.set_cons_zero, List.set_cons_succ]
              refine wpAnyH_ready (rs := [9]) (by kernel_rfl) (by simp) ?_
              refine AllReadyH.cons rfl (fun K hK => ?_) AllReadyH.nil
              simp only [List.getElem_toArray, List.getElem_cons_zero, List.getElem_cons_succ]
              refine wp_append_ls _ _ 24 rfl w4.heap.size 86 i0 (.int .i16 0) 1 2 Tryd.underlying24 HI.out HZ0.out HZ1.out HZ2.out rfl (by decide) _ 0 _ rfl E6.out A2 os.length c2 (i16s os) rfl (HO.out.below (HB3.out.trans (HB.out.mono HB3.out.size))).1 (by simp) (i16s_oneC os) (by unfold maxLen; omega) (by omega) HB.out.size ?_
              intro s' wx52 hown hgrow
              replace hown : wx52.ownsRow w4.heap.size 86 1 s' os.length (i16s os) := by simpa using hown
              replace O5 := Lib.hid (own_grown O5.out hgrow (fun q hq e => by obtain ⟨c1, e1⟩ := own_type O5.out q hq; obtain ⟨c2, e2⟩ := own_type E6.out q e; rw [e1] at e2; cases e2))
              replace T11 := Lib.hid ((hgrow.block g11 (Array.getElem?_eq_some_iff.1 T11.out).1 (fun e => by obtain ⟨c2, e2⟩ := own_type E6.out g11 e.symm; rw [T11.out] at e2; cases e2)).trans T11.out)
              replace HB := Lib.hid (HB.out.grown hgrow HB.out.size (fun q hq => (own_block E6.out q hq).1))
              obtain ⟨AO, cO, rfl, _, _⟩ := own_formu hown
              have O9 := Lib.hid hown
              refine hK.out _ wx52 (HKS.out _ HB.out) (fun hS => ?_)
              clear hK hown hgrow E6
              try simp only [Act.put, List.setIfInBounds_toArray, List.set_cons_zero, List.set_cons_succ]
              refine takeHd (i := 10) (v := ?v10lgT) rfl rfl (by kernel_rfl) (by kernel_rfl) (by kernel_rfl) (fun _ _ _ h => absurd h.1 (by intro e; cases e)) rfl ?hy10lgT hS ?rs10lgT
              case hy10lgT => (intro wq hq; obtain ⟨hq1, hq2, hq3⟩ := hq; go_simp; try (with_reducible rfl))
              simp only [Act.put, List.setIfInBounds_toArray, List.set_cons_zero, List.set_cons_succ]
              refine wpAnyH_ready (rs := [12]) (by kernel_rfl) (by simp) ?_
              refine AllReadyH.cons rfl (fun K hK => ?_) AllReadyH.nil
              simp only [List.getElem_toArray, List.getElem_cons_zero, List.getElem_cons_succ]
              refine wp_store_mid 33 _ _ rfl g11 0 #[.int .i8 n, .slice AG gs.length cG, .slice AO os.length cO] rfl rfl (show BX wx52 g11 (.int .i8 0) (.slice none 0 0) (.slice none 0 0) from ⟨_, T11.out⟩).there (by kernel_rfl) (three_one rfl rfl rfl) ?_
              have HBF := Lib.hid (bsets HG11.out [.int .i8 n, .slice AG gs.length cG, .slice AO os.length cO] 0 wx52 HB.out)
              refine hK.out _ (wx52.setCells g11 0 [.int .i8 n, .slice AG gs.length cG, .slice AO os.length cO]) (HKS.out _ HBF.out) (fun hS => ?_)
              clear hK
              try simp only [Act.put, List.setIfInBounds_toArray, List.set_cons_zero, List.set_cons_succ]
              refine wpAnyH_done (by kernel_rfl) ?_ _
              refine ⟨rfl, g2, g6, g11, AG, cG, AO, cO, ?_, HBF, Lib.hid (puts3 T11.out _ _ _), HG11, Lib.hid (own_setsT O5.out (fun q hq e => by subst e; obtain ⟨c1, e1⟩ := own_type O5.out g11 hq; rw [T11.out] at e1; cases e1) _ _), Lib.hid (own_setsT O9.out (fun q hq e => by subst e; obtain ⟨c1, e1⟩ := own_type O9.out g11 hq; rw [T11.out] at e1; cases e1) _ _)⟩
              rfl
        · intro g2 g6 g11 AG cG AO cO w8 hr
          obtain ⟨B8, T8, HG11, O5, O9⟩ := hr
          obtain ⟨AG', cG', he, _, hAG⟩ := own_formc O5.out
          cases he
          obtain ⟨g, rfl, hgb, _⟩ := hAG (by omega)
          have HGB := Lib.hid hgb
          have k11 : w8.cell? ⟨g11, 1, none⟩ = some (.slice (some ⟨g, 0, none⟩) gs.length cG) := (show BX w8 g11 _ _ _ from ⟨_, T8.out⟩).c1
          have kc1 := (HKS.out _ B8.out).2.1
          have kk : w8.cell? ⟨b, off + iN * 3, none⟩ = some (.int .i8 kd) := (B8.out.cell (p := ⟨b, off + iN * 3, none⟩) hlb4).trans HKD.out
          clear hAG hgb
          go_upto_region 8 with fail
          refine wp_region_held_drew (S := fun u => u.cell? ⟨g11, 1, none⟩ = some (.slice (some ⟨g, 0, none⟩) gs.length cG) ∧ u.cell? ⟨w.heap.size, 1, none⟩ = some (.slice (some ⟨b, off, none⟩) gs.length c) ∧ u.cell? ⟨b, off + iN * 3, none⟩ = some (.int .i8 kd)) (by kernel_rfl) ?hS0 (fun hS => ?_)
          case hS0 => exact ⟨k11, kc1, kk⟩
          have O5D : Hid (w8.drew.ownsRow w4.heap.size 88 3 (.slice (some ⟨g, 0, none⟩) gs.length cG) gs.length (gcs gs)) := Lib.hid O5.out
          have O9D : Hid (w8.drew.ownsRow w4.heap.size 86 1 (.slice AO os.length cO) os.length (i16s os)) := Lib.hid O9.out
          have B8D : Hid (Below w4.heap.size w4 w8.drew) := Lib.hid (bdr B8.out 1)
          have T8D : Hid (w8.drew.heap[g11]? = some (.cells #[.int .i8 n, .slice (some ⟨g, 0, none⟩) gs.length cG, .slice AO os.length cO] 33 (0, 0))) := Lib.hid T8.out
          clear O5 O9 B8 T8 k11 kc1 kk
          generalize w8.drew = wd at hS O5D O9D B8D T8D ⊢
          refine takeHd (i := 0) (v := ?v0R) rfl rfl (by kernel_rfl) (by kernel_rfl) (by kernel_rfl) (fun _ _ _ h => h) rfl ?hy0R hS ?rs0R
          case hy0R => (intro wq hq; obtain ⟨hq1, hq2, hq3⟩ := hq; go_simp; try (with_reducible rfl))
          simp only [Act.put, List.setIfInBounds_toArray, List.set_cons_zero, List.set_cons_succ]
          refine takeHd (i := 1) (v := ?v1R) rfl rfl (by kernel_rfl) (by kernel_rfl) (by kernel_rfl) (fun _ _ _ h => h) rfl ?hy1R hS ?rs1R
          case hy1R => (intro wq hq; obtain ⟨hq1, hq2, hq3⟩ := hq; go_simp; try (with_reducible rfl))
          simp only [Act.put, List.setIfInBounds_toArray, List.set_cons_zero, List.set_cons_succ]
          refine takeHd (i := 2) (v := ?v2R) rfl rfl (by kernel_rfl) (by kernel_rfl) (by kernel_rfl) (fun _ _ _ h => h) rfl ?hy2R hS ?rs2R
          case hy2R => (intro wq hq; obtain ⟨hq1, hq2, hq3⟩ := hq; go_simp; try (with_reducible rfl))
          simp only [Act.put, List.setIfInBounds_toArray, List.set_cons_zero, List.set_cons_succ]
          refine takeHd (i := 3) (v := ?v3R) rfl rfl (by kernel_rfl) (by kernel_rfl) (by kernel_rfl) (fun _ _ _ h => h) rfl ?hy3R hS ?rs3R
          case hy3R => (intro wq hq; obtain ⟨hq1, hq2, hq3⟩ := hq; go_simp; try (with_reducible rfl))
          simp only [Act.put, List.setIfInBounds_toArray, List.set_cons_zero, List.set_cons_succ]
          refine takeHd (i := 4) (v := ?v4R) rfl rfl (by kernel_rfl) (by kernel_rfl) (by kernel_rfl) (fun _ _ _ h => h) rfl ?hy4R hS ?rs4R
          case hy4R => (intro wq hq; obtain ⟨hq1, hq2, hq3⟩ := hq; go_simp; try (with_reducible rfl))
          simp only [Act.put, List.setIfInBounds_toArray, List.set_cons_zero, List.set_cons_succ]
          refine takeHd (i := 5) (v := ?v5R) rfl rfl (by kernel_rfl) (by kernel_rfl) (by kernel_rfl) (fun _ _ _ h => h) rfl ?hy5R hS ?rs5R
          case hy5R => (intro wq hq; obtain ⟨hq1, hq2, hq3⟩ := hq; go_simp; try (with_reducible rfl))
          simp only [Act.put, List.setIfInBounds_toArray, List.set_cons_zero, List.set_cons_succ]
          refine takeHd (i := 6) (v := ?v6R) rfl rfl (by kernel_rfl) (by kernel_rfl) (by kernel_rfl) (fun _ _ _ h => h) rfl ?hy6R hS ?rs6R
          case hy6R => (intro wq hq; obtain ⟨hq1, hq2, hq3⟩ := hq; go_simp; try (with_reducible rfl))
          simp only [Act.put, List.setIfInBounds_toArray, List.set_cons_zero, List.set_cons_succ]
          refine takeHd (i := 7) (v := ?v7R) rfl rfl (by kernel_rfl) (by kernel_rfl) (by kernel_rfl) (fun _ _ _ h => h) rfl ?hy7R hS ?rs7R
          case hy7R => (intro wq hq; obtain ⟨hq1, hq2, hq3⟩ := hq; go_simp; try (with_reducible rfl))
          simp only [Act.put, List.setIfInBounds_toArray, List.set_cons_zero, List.set_cons_succ]
          refine takeHd (i := 8) (v := ?v8R) rfl rfl (by kernel_rfl) (by kernel_rfl) (by kernel_rfl) (fun _ _ _ h => h) rfl ?hy8R hS ?rs8R
          case hy8R => (intro wq hq; obtain ⟨hq1, hq2, hq3⟩ := hq; go_simp; try (with_reducible rfl))
          simp only [Act.put, List.setIfInBounds_toArray, List.set_cons_zero, List.set_cons_succ]
          refine takeHd (i := 9) (v := ?v9R) rfl rfl (by kernel_rfl) (by kernel_rfl) (by kernel_rfl) (fun _ _ _ h => h) rfl ?hy9R hS ?rs9R
          case hy9R => (intro wq hq; obtain ⟨hq1, hq2, hq3⟩ := hq; go_simp; try (with_reducible rfl))
          simp only [Act.put, List.setIfInBounds_toArray, List.set_cons_zero, List.set_cons_succ]
          refine takeHd (i := 10) (v := ?v10R) rfl rfl (by kernel_rfl) (by kernel_rfl) (by kernel_rfl) (fun _ _ _ h => h) rfl ?hy10R hS ?rs10R
          case hy10R => (intro wq hq; obtain ⟨hq1, hq2, hq3⟩ := hq; go_simp; try (with_reducible rfl))
          simp only [Act.put, List.setIfInBounds_toArray, List.set_cons_zero, List.set_cons_succ]
          refine takeHd (i := 11) (v := ?v11R) rfl rfl (by kernel_rfl) (by kernel_rfl) (by kernel_rfl) (fun _ _ _ h => h) rfl ?hy11R hS ?rs11R
          case hy11R => (intro wq hq; obtain ⟨hq1, hq2, hq3⟩ := hq; go_simp; try (with_reducible rfl))
          simp only [Act.put, List.setIfInBounds_toArray, List.set_cons_zero, List.set_cons_succ]
          refine wpAnyH_ready (rs := [12]) (by kernel_rfl) (by simp) ?_
          refine AllReadyH.cons rfl (fun K hK => ?_) AllReadyH.nil
          obtain ⟨y0, hy0⟩ : ∃ y, (gcs gs)[iN * 3]? = some y := ⟨_, List.getElem?_eq_getElem (by rw [gcs_len]; omega)⟩
          have q2 : wd.cell? ⟨g, iN * 3, none⟩ = some y0 := (O5D.out.cellAt (iN * 3) (by omega)).trans hy0
          have q3 : wd.frozen? ⟨g, iN * 3, none⟩ = false := O5D.out.frozenAt _
          go_simp
          have h4 := (O5D.out.stored (iN * 3) (.int .i8 (5 - kd))).1
          rw [kind_set gs iN hlt (5 - kd), ← HXX.out] at h4
          have O5E := Lib.hid h4
          have O9E := Lib.hid (own_grown O9D.out (grown_putd wd g (iN * 3) (.int .i8 (5 - kd))) (fun q hq e => by cases e; obtain ⟨c1, e1⟩ := own_type O9D.out g hq; obtain ⟨c2, e2⟩ := own_type O5D.out g rfl; rw [e1] at e2; cases e2))
          have B8E := Lib.hid (B8D.out.setCell (p := ⟨g, iN * 3, none⟩) HGB.out (.int .i8 (5 - kd)))
          have HNG : Hid (g11 ≠ g) := Lib.hid (fun e => by subst e; obtain ⟨c2, e2⟩ := own_type O5D.out g11 rfl; rw [T8D.out] at e2; cases e2)
          have T8E : Hid ((wd.setCell ⟨g, iN * 3, none⟩ (.int .i8 (5 - kd))).heap[g11]? = some (.cells #[.int .i8 n, .slice (some ⟨g, 0, none⟩) gs.length cG, .slice AO os.length cO] 33 (0, 0))) := Lib.hid ((heap_setCell_other _ _ _ _ (fun e => HNG.out e)).trans T8D.out)
          refine hK.out _ (wd.setCell ⟨g, iN * 3, none⟩ (.int .i8 (5 - kd))) ⟨(cell_far HNG.out _).trans hS.1, (cell_far (by have := HGB.out; have := HW3.out; omega) _).trans hS.2.1, (cell_far (by have := HGB.out; omega) _).trans hS.2.2⟩ (fun hS => ?_)
          clear hK h4 hy0 q2 q3 O5D O9D B8D T8D
          generalize wd.setCell ⟨g, iN * 3, none⟩ (.int .i8 (5 - kd)) = w9 at hS O5E O9E B8E T8E ⊢
          try simp only [Act.put, List.setIfInBounds_toArray, List.set_cons_zero, List.set_cons_succ]
          refine wpAnyH_done (by kernel_rfl) ?_ _
          clear hS
          have x9 : BX w9 g11 (.int .i8 n) (.slice (some ⟨g, 0, none⟩) gs.length cG) (.slice AO os.length cO) := ⟨_, T8E.out⟩
          have c0 := x9.c0; have c1 := x9.c1; have c2' := x9.c2
          have M7 := Lib.hid (M3.out.below B8E.out)
          have r7 := M7.out.there
          have B7 := Lib.hid (HB3.out.trans (B8E.out.mono HB3.out.size))
          have W5 : Hid (w.heap.size + 1 < w4.heap.size) := Lib.hid (by have := HW3.out; omega)
          have TYP := Lib.hid (show ∀ k, (Value.slice (some ⟨g, 0, none⟩) gs.length cG).ownBlock = some k → (Value.slice AO os.length cO).ownBlock ≠ some k from fun k hk hk2 => by
            obtain ⟨c1, h1⟩ := own_type O5E.out k hk
            obtain ⟨c2, h2⟩ := own_type O9E.out k hk2
            rw [h1] at h2; cases h2)
          clear x9 hw
          go_wp2_with (guard_target =~ wpList _ _ _ (⟨_, Op.store 33 _ _, _, _, _, _⟩ :: _) _ _; refine wpList_store_mid rfl 33 _ _ rfl (w.heap.size + 1) 0 #[.int .i8 n, .slice (some ⟨g, 0, none⟩) gs.length cG, .slice AO os.length cO] rfl rfl r7 (by kernel_rfl) (three_one rfl rfl rfl) ?_)
          obtain ⟨t8, h8⟩ := M7.out.puts (.int .i8 n) (.slice (some ⟨g, 0, none⟩) gs.length cG) (.slice AO os.length cO)
          have HLS := Lib.hid (show (gs.set iN (5 - kd, a, bb)).length = gs.length from List.length_set)
          rw [show flpG (gs.getD iN gz) = (5 - kd, a, bb) from by rw [← HXX.out]; rfl] at HGW
          refine bodyPost_ret (v := .tuple #[.agg #[.int .i8 n, .slice (some ⟨g, 0, none⟩) gs.length cG, .slice AO os.length cO], .int .i64 0]) ?_ rfl ⟨_, rfl, bsets (by omega) _ 0 w9 B7.out, ?_⟩
          · exact results_cell_tmp rfl _ _ (w.heap.size + 1) _ _ (0, 0) _ _ rfl rfl h8 Tryd.underlying33 rfl (by kernel_rfl)
          rw [show fg = gs.set iN (5 - kd, a, bb) from by rw [HFG.out, ← HXX.out]; rfl]
          refine ⟨_, _, rfl, hn, HGW.out, HO.out.2, ?_, ?_, ?_, ?_, ?_⟩
          · rw [HLS.out]; exact own_low (own_sets O5E.out W5.out _ 0) (by have := W5.out; omega)
          · exact own_low (own_sets O9E.out W5.out _ 0) (by have := W5.out; omega)
          · intro k hk; exact (own_block (own_sets O5E.out W5.out _ 0) k hk).2
          · intro k hk; exact (own_block (own_sets O9E.out W5.out _ 0) k hk).2
          · exact TYP.out

end Go.Proofs.YtngaelifkhelbaaDoor
