/-
  FlipGate of the program.
-/
import Derived.Test.YtngaelifkhelbaaDoorDo
namespace Go.Proofs.YtngaelifkhelbaaDoor
set_option linter.unusedVariables false
set_option linter.unusedSimpArgs false
open Go.ChangeShapes Go.WideShapes Go.ChangeAt Go.RowKit Go.Deep

theorem region_post4 {α β γ δ : Type} {P : Program} {c : Code} {a : Act} {w : World} {Q : Exit → Act → World → Prop} {A : α → β → γ → δ → Act} (R : α → β → γ → δ → World → Prop)
    (h1 : c.wp P (fun x a' w' => x = .normal ∧ ∃ p q r s, a' = A p q r s ∧ R p q r s w') a w) (h2 : ∀ p q r s w', R p q r s w' → Q .normal (A p q r s) w') : c.wp P Q a w :=
  Code.wp_mono (fun x a' w' ⟨hx, p, q, r, s, ha, hr⟩ => by subst hx; subst ha; exact h2 p q r s w' hr) h1
/-- what FlipGate answers -/
def fgB (n : Int) (gs : List G3) (os : List Int) (i : Int) : Bool := circB n gs os && (decide (0 ≤ i ∧ i < (gs.length : Int)) && joinB (gs.getD i.toNat gz))
def fgN (n : Int) (gs : List G3) (os : List Int) (i : Int) : Int := if fgB n gs os i then n else 0
def fgG (n : Int) (gs : List G3) (os : List Int) (i : Int) : List G3 := if fgB n gs os i then gs.set i.toNat (flpG (gs.getD i.toNat gz)) else []
def fgO (n : Int) (gs : List G3) (os : List Int) (i : Int) : List Int := if fgB n gs os i then os else []
def fgK (n : Int) (gs : List G3) (os : List Int) (i : Int) : Int := if circB n gs os then (if decide (0 ≤ i ∧ i < (gs.length : Int)) then (if joinB (gs.getD i.toNat gz) then 0 else 4) else 2) else 1
theorem fg_len (n : Int) (gs : List G3) (os : List Int) (i : Int) : (fgG n gs os i).length + (fgO n gs os i).length ≤ 1048576 := by
  unfold fgG fgO
  by_cases hb : fgB n gs os i = true
  · rw [if_pos hb, if_pos hb, List.length_set]
    have hc : circB n gs os = true := by unfold fgB at hb; exact (Bool.and_eq_true _ _ ▸ hb).1
    have := head_of hc
    omega
  · rw [if_neg hb, if_neg hb]; simp
theorem flip_w {gs : List G3} (h : ∀ g ∈ gs, GW g) (k : Nat) (hj : joinB (gs.getD k gz) = true) : ∀ g ∈ gs.set k (flpG (gs.getD k gz)), GW g := by
  intro g hg
  rcases List.mem_or_eq_of_mem_set hg with h1 | rfl
  · exact h g h1
  · have hx := gw_getD h k
    have hk : (gs.getD k gz).1 = 2 ∨ (gs.getD k gz).1 = 3 := by
      unfold joinB at hj
      rcases Bool.or_eq_true _ _ ▸ hj with e | e
      · exact .inl (of_decide_eq_true e)
      · exact .inr (of_decide_eq_true e)
    refine ⟨?_, hx.2⟩
    show -128 ≤ 5 - (gs.getD k gz).1 ∧ 5 - (gs.getD k gz).1 < 128
    omega
theorem mid_set {lo hi b o : Nat} {a w : World} (h1 : lo ≤ b) (h2 : b < hi) (v : Value) (h : Mid lo hi a w) : Mid lo hi a (w.setCell ⟨b, o, none⟩ v) :=
  ⟨h.1.setCell (p := ⟨b, o, none⟩) h1 v, fun k hk hs => (heap_setCell_other _ _ _ _ (fun e => by have e2 : k = b := e; omega)).trans (h.2 k hk hs)⟩
theorem own_setsT {base n s : Nat} {e : TypeId} {v : Value} {cs : List Value} {k : Nat} : ∀ {w : World} (h : w.ownsRow base e s v n cs) (hd : ∀ q, v.ownBlock = some q → k ≠ q) (vs : List Value) (o : Nat), (w.setCells k o vs).ownsRow base e s v n cs
  | _, h, _, [], _ => h
  | w, h, hd, u :: r, o => by
    rw [World.setCells]
    exact own_setsT (own_grown h (grown_putd w k o u) (fun q hq e => hd q hq (by cases e; rfl))) hd r (o + 1)

set_option maxHeartbeats 8000000 in
set_option maxRecDepth 100000 in
theorem impl_FlipGate (v : Value) (n : Int) (gs : List G3) (os : List Int) (i : Int) (hbi : -9223372036854775808 ≤ i ∧ i ≤ 9223372036854775807) (w : World) (h : CI w v n gs os) (hE : ET w) :
    Calls Tryd.prog 37 #[v, .int .i64 i] w fun e w' => ∃ u, e = .returned (.tuple #[u, .int .i64 (fgK n gs os i)]) ∧ Below w.heap.size w w' ∧ CO w.heap.size w'.heap.size w' u (fgN n gs os i) (fgG n gs os i) (fgO n gs os i) := by
  have HE := Lib.hid hE
  clear hE hbi
  have H := Lib.hid h
  obtain ⟨G, O, rfl, hn, hg, ho⟩ := h
  have HG := Lib.hid hg; have HO := Lib.hid ho
  obtain ⟨A, c, rfl⟩ := hg.form
  obtain ⟨A2, c2, rfl⟩ := ho.form
  clear hg ho
  cases hc : circB n gs os with
  | false =>
    have hB : fgB n gs os i = false := by unfold fgB; rw [hc]; rfl
    have hK : fgK n gs os i = 1 := by unfold fgK; rw [hc]; rfl
    have eN : fgN n gs os i = 0 := by unfold fgN; rw [hB]; rfl
    have eG : fgG n gs os i = [] := by unfold fgG; rw [hB]; rfl
    have eO : fgO n gs os i = [] := by unfold fgO; rw [hB]; rfl
    rw [eN, eG, eO, hK]
    clear eN eG eO hK hB
    have HCF := Lib.hid hc
    clear hc
    obtain ⟨a1, a2, hb1, s1⟩ := nw2 w (.cells #[.int .i8 n, .slice A gs.length c, .slice A2 os.length c2] 33) (.cells #[.int .i8 0, .slice none 0 0, .slice none 0 0] 33)
    go_enter Tryd.func37, Tryd.ntmps37
    go_wp2_with fail
    generalize World.alloc (World.alloc w _) _ = w1 at a1 a2 hb1 s1 ⊢
    refine (openCircuit_any n _ _ gs os w1 (H.out.below hb1)).mono ?_
    rintro e w2 ⟨rfl, hb⟩
    have M2 : Hid (BX w2 (w.heap.size + 1) (.int .i8 0) (.slice none 0 0) (.slice none 0 0)) := Lib.hid (BX.below ⟨_, a2⟩ hb)
    have HB2 := Lib.hid (hb1.trans (hb.mono hb1.size))
    have HWS : Hid (w.heap.size + 2 ≤ w2.heap.size) := Lib.hid (by have := hb.size; omega)
    clear hb hb1 a1 a2 s1
    simp only [opW, HCF.out, Bool.false_eq_true, if_false]
    have HB4 := Lib.hid (nw1 w2 (.cells #[.slice none 0 0, .int .i8 0, .slice none 0 0] 74)).2.1
    have HB24 := Lib.hid (HB2.out.trans (HB4.out.mono HB2.out.size))
    have M4 := Lib.hid (M2.out.below HB4.out)
    go_wp2_with fail
    refine (reasonOf_bad 1 _ (HE.out.below HB24.out)).mono ?_
    rintro e w9 ⟨rfl, hb9⟩
    have m9 := M4.out.below hb9
    have HB9 := Lib.hid (HB24.out.trans (hb9.mono HB24.out.size))
    have r9 := m9.there
    have M9 := Lib.hid m9
    clear m9 hb9
    go_wp2_with (guard_target =~ wpList _ _ _ (⟨_, Op.store 33 _ _, _, _, _, _⟩ :: _) _ _; refine wpList_store_mid rfl 33 _ _ rfl (w.heap.size + 1) 0 #[.int .i8 0, .slice none 0 0, .slice none 0 0] rfl rfl r9 (by kernel_rfl) (three_one rfl rfl rfl) ?_)
    obtain ⟨t8, h8⟩ := M9.out.puts (.int .i8 0) (.slice none 0 0) (.slice none 0 0)
    refine bodyPost_ret (v := .tuple #[.agg #[.int .i8 0, .slice none 0 0, .slice none 0 0], .int .i64 1]) ?_ rfl ⟨_, rfl, bsets (by omega) _ 0 w9 HB9.out, ⟨.slice none 0 0, .slice none 0 0, rfl, by omega, by simp, by simp, World.ownsRow_nil _ _ _ _, World.ownsRow_nil _ _ _ _, by simp [Value.ownBlock], by simp [Value.ownBlock], by simp [Value.ownBlock]⟩⟩
    exact results_cell_tmp rfl _ _ (w.heap.size + 1) _ _ (0, 0) _ _ rfl rfl h8 Tryd.underlying33 rfl (by kernel_rfl)
  | true =>
    have HC := Lib.hid hc
    have hlen : gs.length ≤ 600 := (head_of hc).2.2.1
    have hol : os.length ≤ 16 := (head_of hc).2.2.2
    cases hr : decide (0 ≤ i ∧ i < (gs.length : Int)) with
    | false =>
      have hB : fgB n gs os i = false := by unfold fgB; rw [hr]; simp
      have hK : fgK n gs os i = 2 := by unfold fgK; rw [hc, hr]; rfl
      have eN : fgN n gs os i = 0 := by unfold fgN; rw [hB]; rfl
      have eG : fgG n gs os i = [] := by unfold fgG; rw [hB]; rfl
      have eO : fgO n gs os i = [] := by unfold fgO; rw [hB]; rfl
      rw [eN, eG, eO, hK]
      clear eN eG eO hK hB
      have hr2 : i < 0 ∨ (gs.length : Int) ≤ i := by have := of_decide_eq_false hr; omega
      clear hc hr
      rcases hr2 with hi | hi
      · have T1 : decide (i < 0) = true := by simpa using hi
        obtain ⟨a1, a2, hb1, s1⟩ := nw2 w (.cells #[.int .i8 n, .slice A gs.length c, .slice A2 os.length c2] 33) (.cells #[.int .i8 0, .slice none 0 0, .slice none 0 0] 33)
        go_enter Tryd.func37, Tryd.ntmps37
        go_wp2_with fail
        generalize World.alloc (World.alloc w _) _ = w1 at a1 a2 hb1 s1 ⊢
        refine (openCircuit_any n _ _ gs os w1 (H.out.below hb1)).mono ?_
        rintro e w2 ⟨rfl, hb⟩
        have M2 : Hid (BX w2 (w.heap.size + 1) (.int .i8 0) (.slice none 0 0) (.slice none 0 0)) := Lib.hid (BX.below ⟨_, a2⟩ hb)
        have HB2 := Lib.hid (hb1.trans (hb.mono hb1.size))
        have HWS : Hid (w.heap.size + 2 ≤ w2.heap.size) := Lib.hid (by have := hb.size; omega)
        clear hb hb1 a1 a2 s1
        simp only [opW, HC.out, if_true]
        obtain ⟨z1, z2, z3⟩ := nw1 w2 (.cells #[.slice A gs.length c, .int .i8 n, .slice A2 os.length c2] 74)
        go_upto_region 4 with fail
        generalize World.alloc w2 _ = w3 at z1 z2 z3 ⊢
        obtain ⟨tb, htb⟩ : ∃ tb, tb = w2.heap.size := ⟨_, rfl⟩
        rw [← htb] at z1 ⊢
        have x3 : BX w3 tb (.slice A gs.length c) (.int .i8 n) (.slice A2 os.length c2) := ⟨_, z1⟩
        have M3 := Lib.hid (M2.out.below z2)
        have HB3 := Lib.hid (HB2.out.trans (z2.mono HB2.out.size))
        have HTB : Hid (w.heap.size + 2 ≤ tb) := Lib.hid (by have := HWS.out; omega)
        have X3 := Lib.hid x3
        have c0 := x3.c0
        clear z1 z2 z3 htb x3
        have r3 := M3.out.there
        go_wp2_with (guard_target =~ wpList _ _ _ (⟨_, Op.store 33 _ _, _, _, _, _⟩ :: _) _ _; refine wpList_store_mid rfl 33 _ _ rfl (w.heap.size + 1) 0 #[.int .i8 0, .slice none 0 0, .slice none 0 0] rfl rfl r3 (by kernel_rfl) (three_one rfl rfl rfl) ?_)
        obtain ⟨t8, h8⟩ := M3.out.puts (.int .i8 0) (.slice none 0 0) (.slice none 0 0)
        refine bodyPost_ret (v := .tuple #[.agg #[.int .i8 0, .slice none 0 0, .slice none 0 0], .int .i64 2]) ?_ rfl ⟨_, rfl, bsets (by omega) _ 0 w3 HB3.out, ⟨.slice none 0 0, .slice none 0 0, rfl, by omega, by simp, by simp, World.ownsRow_nil _ _ _ _, World.ownsRow_nil _ _ _ _, by simp [Value.ownBlock], by simp [Value.ownBlock], by simp [Value.ownBlock]⟩⟩
        exact results_cell_tmp rfl _ _ (w.heap.size + 1) _ _ (0, 0) _ _ rfl rfl h8 Tryd.underlying33 rfl (by kernel_rfl)
      · have T1 : decide (i < 0) = false := by simp; omega
        have T2 : decide ((gs.length : Int) ≤ i) = true := by simpa using hi
        obtain ⟨a1, a2, hb1, s1⟩ := nw2 w (.cells #[.int .i8 n, .slice A gs.length c, .slice A2 os.length c2] 33) (.cells #[.int .i8 0, .slice none 0 0, .slice none 0 0] 33)
        go_enter Tryd.func37, Tryd.ntmps37
        go_wp2_with fail
        generalize World.alloc (World.alloc w _) _ = w1 at a1 a2 hb1 s1 ⊢
        refine (openCircuit_any n _ _ gs os w1 (H.out.below hb1)).mono ?_
        rintro e w2 ⟨rfl, hb⟩
        have M2 : Hid (BX w2 (w.heap.size + 1) (.int .i8 0) (.slice none 0 0) (.slice none 0 0)) := Lib.hid (BX.below ⟨_, a2⟩ hb)
        have HB2 := Lib.hid (hb1.trans (hb.mono hb1.size))
        have HWS : Hid (w.heap.size + 2 ≤ w2.heap.size) := Lib.hid (by have := hb.size; omega)
        clear hb hb1 a1 a2 s1
        simp only [opW, HC.out, if_true]
        obtain ⟨z1, z2, z3⟩ := nw1 w2 (.cells #[.slice A gs.length c, .int .i8 n, .slice A2 os.length c2] 74)
        go_upto_region 4 with fail
        generalize World.alloc w2 _ = w3 at z1 z2 z3 ⊢
        obtain ⟨tb, htb⟩ : ∃ tb, tb = w2.heap.size := ⟨_, rfl⟩
        rw [← htb] at z1 ⊢
        have x3 : BX w3 tb (.slice A gs.length c) (.int .i8 n) (.slice A2 os.length c2) := ⟨_, z1⟩
        have M3 := Lib.hid (M2.out.below z2)
        have HB3 := Lib.hid (HB2.out.trans (z2.mono HB2.out.size))
        have HTB : Hid (w.heap.size + 2 ≤ tb) := Lib.hid (by have := HWS.out; omega)
        have X3 := Lib.hid x3
        have c0 := x3.c0
        clear z1 z2 z3 htb x3
        have r3 := M3.out.there
        go_wp2_with (guard_target =~ wpList _ _ _ (⟨_, Op.store 33 _ _, _, _, _, _⟩ :: _) _ _; refine wpList_store_mid rfl 33 _ _ rfl (w.heap.size + 1) 0 #[.int .i8 0, .slice none 0 0, .slice none 0 0] rfl rfl r3 (by kernel_rfl) (three_one rfl rfl rfl) ?_)
        obtain ⟨t8, h8⟩ := M3.out.puts (.int .i8 0) (.slice none 0 0) (.slice none 0 0)
        refine bodyPost_ret (v := .tuple #[.agg #[.int .i8 0, .slice none 0 0, .slice none 0 0], .int .i64 2]) ?_ rfl ⟨_, rfl, bsets (by omega) _ 0 w3 HB3.out, ⟨.slice none 0 0, .slice none 0 0, rfl, by omega, by simp, by simp, World.ownsRow_nil _ _ _ _, World.ownsRow_nil _ _ _ _, by simp [Value.ownBlock], by simp [Value.ownBlock], by simp [Value.ownBlock]⟩⟩
        exact results_cell_tmp rfl _ _ (w.heap.size + 1) _ _ (0, 0) _ _ rfl rfl h8 Tryd.underlying33 rfl (by kernel_rfl)
    | true =>
      have hr2 := of_decide_eq_true hr
      obtain ⟨iN, rfl⟩ : ∃ iN : Nat, i = (iN : Int) := ⟨i.toNat, by omega⟩
      have T1 : decide ((iN : Int) < 0) = false := by simp
      have T2 : decide ((gs.length : Int) ≤ (iN : Int)) = false := by simp; omega
      have hlt : iN < gs.length := by omega
      have i1 : (iN : Int) < (gs.length : Int) := by omega
      cases hj : joinB (gs.getD ((iN : Int)).toNat gz) with
      | false =>
        have hB : fgB n gs os (iN : Int) = false := by unfold fgB; rw [hj]; simp
        have hK : fgK n gs os (iN : Int) = 4 := by unfold fgK; rw [hc, hr, hj]; rfl
        have eN : fgN n gs os (iN : Int) = 0 := by unfold fgN; rw [hB]; rfl
        have eG : fgG n gs os (iN : Int) = [] := by unfold fgG; rw [hB]; rfl
        have eO : fgO n gs os (iN : Int) = [] := by unfold fgO; rw [hB]; rfl
        rw [eN, eG, eO, hK]
        clear eN eG eO hK hB
        have HX := Lib.hid (show flpV (gs.getD iN gz) = .tuple #[gv gz, .iface 121 (.agg #[.int .i64 4])] from by unfold flpV; rw [show joinB (gs.getD iN gz) = false from hj]; rfl)
        clear hc hr hr2 hj
        obtain ⟨a1, a2, hb1, s1⟩ := nw2 w (.cells #[.int .i8 n, .slice A gs.length c, .slice A2 os.length c2] 33) (.cells #[.int .i8 0, .slice none 0 0, .slice none 0 0] 33)
        go_enter Tryd.func37, Tryd.ntmps37
        go_wp2_with fail
        generalize World.alloc (World.alloc w _) _ = w1 at a1 a2 hb1 s1 ⊢
        refine (openCircuit_any n _ _ gs os w1 (H.out.below hb1)).mono ?_
        rintro e w2 ⟨rfl, hb⟩
        have M2 : Hid (BX w2 (w.heap.size + 1) (.int .i8 0) (.slice none 0 0) (.slice none 0 0)) := Lib.hid (BX.below ⟨_, a2⟩ hb)
        have HB2 := Lib.hid (hb1.trans (hb.mono hb1.size))
        have HWS : Hid (w.heap.size + 2 ≤ w2.heap.size) := Lib.hid (by have := hb.size; omega)
        clear hb hb1 a1 a2 s1
        simp only [opW, HC.out, if_true]
        obtain ⟨z1, z2, z3⟩ := nw1 w2 (.cells #[.slice A gs.length c, .int .i8 n, .slice A2 os.length c2] 74)
        go_upto_region 4 with fail
        generalize World.alloc w2 _ = w3 at z1 z2 z3 ⊢
        obtain ⟨tb, htb⟩ : ∃ tb, tb = w2.heap.size := ⟨_, rfl⟩
        rw [← htb] at z1 ⊢
        have x3 : BX w3 tb (.slice A gs.length c) (.int .i8 n) (.slice A2 os.length c2) := ⟨_, z1⟩
        have M3 := Lib.hid (M2.out.below z2)
        have HB3 := Lib.hid (HB2.out.trans (z2.mono HB2.out.size))
        have HTB : Hid (w.heap.size + 2 ≤ tb) := Lib.hid (by have := HWS.out; omega)
        have X3 := Lib.hid x3
        have c0 := x3.c0
        clear z1 z2 z3 htb x3
        obtain ⟨b, off, c', e, hlb, hgw, d0, d1, d2⟩ := (HG.out.below HB3.out).at iN hlt
        cases e
        obtain ⟨x, hx⟩ : ∃ x, x = gs.getD iN gz := ⟨_, rfl⟩
        rw [← hx] at d0 d1 d2 HX
        obtain ⟨kd, a, bb⟩ := x
        simp only at d0 d1 d2
        clear hx hgw
        go_wp2_with fail
        refine (flipped_any (kd, a, bb) w3).mono ?_
        rintro e w4 ⟨rfl, hb4⟩
        rw [HX.out]
        have HB4 := Lib.hid (HB3.out.trans (hb4.mono HB3.out.size))
        have y2 := (nw1 w4 (.cells #[.int .i8 0, .int .i16 0, .int .i16 0] 88)).2.1
        have M5 := Lib.hid ((M3.out.below hb4).below y2)
        have HB5 := Lib.hid (HB4.out.trans (y2.mono HB4.out.size))
        clear hb4 y2 d0 d1 d2 c0
        go_wp2_with fail
        refine (reasonOf_bad 4 _ (HE.out.below HB5.out)).mono ?_
        rintro e w9 ⟨rfl, hb9⟩
        have m9 := M5.out.below hb9
        have HB9 := Lib.hid (HB5.out.trans (hb9.mono HB5.out.size))
        have r9 := m9.there
        have M9 := Lib.hid m9
        clear m9 hb9
        go_wp2_with (guard_target =~ wpList _ _ _ (⟨_, Op.store 33 _ _, _, _, _, _⟩ :: _) _ _; refine wpList_store_mid rfl 33 _ _ rfl (w.heap.size + 1) 0 #[.int .i8 0, .slice none 0 0, .slice none 0 0] rfl rfl r9 (by kernel_rfl) (three_one rfl rfl rfl) ?_)
        obtain ⟨t8, h8⟩ := M9.out.puts (.int .i8 0) (.slice none 0 0) (.slice none 0 0)
        refine bodyPost_ret (v := .tuple #[.agg #[.int .i8 0, .slice none 0 0, .slice none 0 0], .int .i64 4]) ?_ rfl ⟨_, rfl, bsets (by omega) _ 0 w9 HB9.out, ⟨.slice none 0 0, .slice none 0 0, rfl, by omega, by simp, by simp, World.ownsRow_nil _ _ _ _, World.ownsRow_nil _ _ _ _, by simp [Value.ownBlock], by simp [Value.ownBlock], by simp [Value.ownBlock]⟩⟩
        exact results_cell_tmp rfl _ _ (w.heap.size + 1) _ _ (0, 0) _ _ rfl rfl h8 Tryd.underlying33 rfl (by kernel_rfl)
      | true =>
        have hB : fgB n gs os (iN : Int) = true := by unfold fgB; rw [hc, hr, hj]; rfl
        have hK : fgK n gs os (iN : Int) = 0 := by unfold fgK; rw [hc, hr, hj]; rfl
        have eN : fgN n gs os (iN : Int) = n := by unfold fgN; rw [hB]; rfl
        have eG : fgG n gs os (iN : Int) = gs.set iN (flpG (gs.getD iN gz)) := by unfold fgG; rw [hB]; rfl
        have eO : fgO n gs os (iN : Int) = os := by unfold fgO; rw [hB]; rfl
        rw [eN, eG, eO, hK]
        have HX := Lib.hid (show flpV (gs.getD iN gz) = .tuple #[gv (flpG (gs.getD iN gz)), .nilIface] from by unfold flpV; rw [show joinB (gs.getD iN gz) = true from hj]; rfl)
        have HGW := Lib.hid (flip_w HG.out.2 iN hj)
        clear eN eG eO hK hB hc hr hr2 hj
        obtain ⟨a1, a2, hb1, s1⟩ := nw2 w (.cells #[.int .i8 n, .slice A gs.length c, .slice A2 os.length c2] 33) (.cells #[.int .i8 0, .slice none 0 0, .slice none 0 0] 33)
        go_enter Tryd.func37, Tryd.ntmps37
        go_wp2_with fail
        generalize World.alloc (World.alloc w _) _ = w1 at a1 a2 hb1 s1 ⊢
        refine (openCircuit_any n _ _ gs os w1 (H.out.below hb1)).mono ?_
        rintro e w2 ⟨rfl, hb⟩
        have M2 : Hid (BX w2 (w.heap.size + 1) (.int .i8 0) (.slice none 0 0) (.slice none 0 0)) := Lib.hid (BX.below ⟨_, a2⟩ hb)
        have HB2 := Lib.hid (hb1.trans (hb.mono hb1.size))
        have HWS : Hid (w.heap.size + 2 ≤ w2.heap.size) := Lib.hid (by have := hb.size; omega)
        clear hb hb1 a1 a2 s1
        simp only [opW, HC.out, if_true]
        obtain ⟨z1, z2, z3⟩ := nw1 w2 (.cells #[.slice A gs.length c, .int .i8 n, .slice A2 os.length c2] 74)
        go_upto_region 4 with fail
        generalize World.alloc w2 _ = w3 at z1 z2 z3 ⊢
        obtain ⟨tb, htb⟩ : ∃ tb, tb = w2.heap.size := ⟨_, rfl⟩
        rw [← htb] at z1 ⊢
        have x3 : BX w3 tb (.slice A gs.length c) (.int .i8 n) (.slice A2 os.length c2) := ⟨_, z1⟩
        have M3 := Lib.hid (M2.out.below z2)
        have HB3 := Lib.hid (HB2.out.trans (z2.mono HB2.out.size))
        have HTB : Hid (w.heap.size + 2 ≤ tb) := Lib.hid (by have := HWS.out; omega)
        have X3 := Lib.hid x3
        have c0 := x3.c0
        clear z1 z2 z3 htb x3
        obtain ⟨b, off, c', e, hlb, hgw, d0, d1, d2⟩ := (HG.out.below HB3.out).at iN hlt
        cases e
        obtain ⟨x, hx⟩ : ∃ x, x = gs.getD iN gz := ⟨_, rfl⟩
        rw [← hx] at d0 d1 d2 HX
        obtain ⟨kd, a, bb⟩ := x
        simp only at d0 d1 d2
        have HXX := Lib.hid hx
        clear hx hgw
        go_wp2_with fail
        refine (flipped_any (kd, a, bb) w3).mono ?_
        rintro e w4 ⟨rfl, hb4⟩
        rw [HX.out]
        have HB4 := Lib.hid (HB3.out.trans (hb4.mono HB3.out.size))
        have X4 := Lib.hid (X3.out.below hb4); have M4 := Lib.hid (M3.out.below hb4)
        clear hb4 d0 d1 d2 c0
        simp only [flpG]
        go_upto_region 9 with fail
        obtain ⟨y1, y2, y3⟩ := nw1 w4 (.cells #[.int .i8 (5 - kd), .int .i16 a, .int .i16 bb] 88)
        generalize World.alloc w4 _ = w5 at y1 y2 y3 ⊢
        obtain ⟨fb, hfb⟩ : ∃ fb, fb = w4.heap.size := ⟨_, rfl⟩
        rw [← hfb] at y1 ⊢
        have F5 : Hid (BX w5 fb (.int .i8 (5 - kd)) (.int .i16 a) (.int .i16 bb)) := Lib.hid ⟨_, y1⟩
        have X5 := Lib.hid (X4.out.below y2); have M5 := Lib.hid (M4.out.below y2)
        have HB0 := Lib.hid (HB4.out.trans (y2.mono HB4.out.size))
        have TBF : Hid (tb < fb) := Lib.hid (by have := X4.out.lt; omega)
        have TB5 : Hid (tb < w5.heap.size) := Lib.hid (by have := X5.out.lt; exact this)
        clear y1 y2 y3 hfb
        refine region_post4 (A := ?A9) (fun AG cG AO cO u => Hid (Mid tb (tb + 1) w5 u) ∧ Hid (BX u tb (.slice AG gs.length cG) (.int .i8 n) (.slice AO os.length cO)) ∧ Hid (u.ownsRow w5.heap.size 88 3 (.slice AG gs.length cG) gs.length (gcs gs)) ∧ Hid (u.ownsRow w5.heap.size 86 1 (.slice AO os.length cO) os.length (i16s os))) ?_ ?_
        rotate_left
        · refine wp_region_held_drew (S := fun _ => True) (by kernel_rfl) ?hS0 (fun hS => ?_)
          case hS0 => trivial
          have X : Hid (BX w5.drew tb (.slice (some ⟨b, off, none⟩) gs.length c) (.int .i8 n) (.slice A2 os.length c2)) := Lib.hid X5.out
          have HB := Lib.hid (bdrew1 w5)
          generalize w5.drew = wd at hS X HB ⊢
          refine takeHd (i := 0) (v := ?v0) rfl rfl (by kernel_rfl) (by kernel_rfl) (by kernel_rfl) (fun _ _ _ h => absurd h.1 (by intro e; cases e)) rfl ?hy0 hS ?rs0
          case hy0 => (intro wq hq; go_simp; try (with_reducible rfl))
          simp only [Act.put, List.setIfInBounds_toArray, List.set_cons_zero, List.set_cons_succ]
          refine takeHd (i := 3) (v := ?v3) rfl rfl (by kernel_rfl) (by kernel_rfl) (by kernel_rfl) (fun _ _ _ h => absurd h.1 (by intro e; cases e)) rfl ?hy3 hS ?rs3
          case hy3 => (intro wq hq; go_simp; try (with_reducible rfl))
          simp only [Act.put, List.setIfInBounds_toArray, List.set_cons_zero, List.set_cons_succ]
          refine wpAnyH_ready (rs := [1, 4]) (by kernel_rfl) (by simp) ?_
          refine AllReadyH.cons rfl (fun K hK => ?_) (AllReadyH.cons rfl (fun K hK => ?_) AllReadyH.nil)
          · have q1 := X.out.c0
            go_simp
            refine hK.out _ wd trivial (fun hS => ?_)
            clear hK q1
            try simp only [Act.put, List.setIfInBounds_toArray, List.set_cons_zero, List.set_cons_succ]
            refine wpAnyH_ready (rs := [2, 4]) (by kernel_rfl) (by simp) ?_
            refine AllReadyH.cons rfl (fun K hK => ?_) (AllReadyH.cons rfl (fun K hK => ?_) AllReadyH.nil)
            · go_simp
              refine (cloneG_any _ c gs (by omega) wd (HG.out.below (HB0.out.trans (HB.out.mono HB0.out.size))).1).mono ?_
              rintro e wg ⟨rv, rfl, ho, hb⟩
              obtain ⟨AG, cG, rfl, _, _⟩ := own_formu ho
              have O5 := Lib.hid (own_low ho HB.out.size)
              replace X := Lib.hid (X.out.below hb)
              replace HB := Lib.hid (HB.out.trans (hb.mono HB.out.size))
              clear ho hb
              refine hK.out _ wg trivial (fun hS => ?_)
              clear hK
              try simp only [Act.put, List.setIfInBounds_toArray, List.set_cons_zero, List.set_cons_succ]
              refine wpAnyH_ready (rs := [4]) (by kernel_rfl) (by simp) ?_
              refine AllReadyH.cons rfl (fun K hK => ?_) AllReadyH.nil
              have q1 := X.out.c2
              go_simp
              refine hK.out _ wg trivial (fun hS => ?_)
              clear hK q1
              try simp only [Act.put, List.setIfInBounds_toArray, List.set_cons_zero, List.set_cons_succ]
              refine takeHd (i := 6) (v := ?v6bc) rfl rfl (by kernel_rfl) (by kernel_rfl) (by kernel_rfl) (fun _ _ _ h => absurd h.1 (by intro e; cases e)) rfl ?hy6bc hS ?rs6bc
              case hy6bc => (intro wq hq; go_simp; try (with_reducible rfl))
              simp only [Act.put, List.setIfInBounds_toArray, List.set_cons_zero, List.set_cons_succ]
              refine wpAnyH_ready (rs := [5]) (by kernel_rfl) (by simp) ?_
              refine AllReadyH.cons rfl (fun K hK => ?_) AllReadyH.nil
              go_simp
              refine (cloneI_any A2 c2 os (by omega) wg (HO.out.below (HB0.out.trans (HB.out.mono HB0.out.size))).1).mono ?_
              rintro e wh ⟨rv, rfl, ho, hb⟩
              obtain ⟨AO, cO, rfl, _, _⟩ := own_formu ho
              have O8 := Lib.hid (own_low ho HB.out.size)
              replace O5 := Lib.hid (owb O5.out hb)
              replace X := Lib.hid (X.out.below hb)
              replace HB := Lib.hid (HB.out.trans (hb.mono HB.out.size))
              clear ho hb
              refine hK.out _ wh trivial (fun hS => ?_)
              clear hK
              try simp only [Act.put, List.setIfInBounds_toArray, List.set_cons_zero, List.set_cons_succ]
              refine wpAnyH_ready (rs := [7]) (by kernel_rfl) (by simp) ?_
              refine AllReadyH.cons rfl (fun K hK => ?_) AllReadyH.nil
              have q2 := X.out.c0; have q3 := X.out.free 0
              go_simp
              replace O5 := Lib.hid (ownsRow_setCell_below O5.out (a := ⟨tb, 0, none⟩) TB5.out (.slice AG gs.length cG)); replace O8 := Lib.hid (ownsRow_setCell_below O8.out (a := ⟨tb, 0, none⟩) TB5.out (.slice AG gs.length cG))
              replace X := Lib.hid (X.out.put0 (.slice AG gs.length cG))
              have MI := Lib.hid (mid_set (o := 0) (Nat.le_refl tb) (Nat.lt_succ_self tb) (.slice AG gs.length cG) (Mid.of_below HB.out (Nat.le_of_lt TB5.out)))
              refine hK.out _ (wh.setCell ⟨tb, 0, none⟩ (.slice AG gs.length cG)) trivial (fun hS => ?_)
              clear hK q2 q3
              generalize wh.setCell ⟨tb, 0, none⟩ (.slice AG gs.length cG) = wy at hS O5 O8 X MI ⊢
              try simp only [Act.put, List.setIfInBounds_toArray, List.set_cons_zero, List.set_cons_succ]
              refine takeHd (i := 8) (v := ?v8bc) rfl rfl (by kernel_rfl) (by kernel_rfl) (by kernel_rfl) (fun _ _ _ h => absurd h.1 (by intro e; cases e)) rfl ?hy8bc hS ?rs8bc
              case hy8bc => (intro wq hq; go_simp; try (with_reducible rfl))
              simp only [Act.put, List.setIfInBounds_toArray, List.set_cons_zero, List.set_cons_succ]
              refine wpAnyH_ready (rs := [9]) (by kernel_rfl) (by simp) ?_
              refine AllReadyH.cons rfl (fun K hK => ?_) AllReadyH.nil
              have q2 := X.out.c2; have q3 := X.out.free 2
              go_simp
              replace O5 := Lib.hid (ownsRow_setCell_below O5.out (a := ⟨tb, 2, none⟩) TB5.out (.slice AO os.length cO)); replace O8 := Lib.hid (ownsRow_setCell_below O8.out (a := ⟨tb, 2, none⟩) TB5.out (.slice AO os.length cO))
              replace X := Lib.hid (X.out.put2 (.slice AO os.length cO))
              replace MI := Lib.hid (mid_set (o := 2) (Nat.le_refl tb) (Nat.lt_succ_self tb) (.slice AO os.length cO) MI.out)
              refine hK.out _ (wy.setCell ⟨tb, 2, none⟩ (.slice AO os.length cO)) trivial (fun hS => ?_)
              clear hK q2 q3
              generalize wy.setCell ⟨tb, 2, none⟩ (.slice AO os.length cO) = wz at hS O5 O8 X MI ⊢
              try simp only [Act.put, List.setIfInBounds_toArray, List.set_cons_zero, List.set_cons_succ]
              refine wpAnyH_done (by kernel_rfl) ?_ _
              refine ⟨rfl, AG, cG, AO, cO, ?_, MI, X, O5, O8⟩
              rfl
            · have q1 := X.out.c2
              go_simp
              refine hK.out _ wd trivial (fun hS => ?_)
              clear hK q1
              try simp only [Act.put, List.setIfInBounds_toArray, List.set_cons_zero, List.set_cons_succ]
              refine wpAnyH_ready (rs := [2]) (by kernel_rfl) (by simp) ?_
              refine AllReadyH.cons rfl (fun K hK => ?_) AllReadyH.nil
              go_simp
              refine (cloneG_any _ c gs (by omega) wd (HG.out.below (HB0.out.trans (HB.out.mono HB0.out.size))).1).mono ?_
              rintro e wg ⟨rv, rfl, ho, hb⟩
              obtain ⟨AG, cG, rfl, _, _⟩ := own_formu ho
              have O5 := Lib.hid (own_low ho HB.out.size)
              replace X := Lib.hid (X.out.below hb)
              replace HB := Lib.hid (HB.out.trans (hb.mono HB.out.size))
              clear ho hb
              refine hK.out _ wg trivial (fun hS => ?_)
              clear hK
              try simp only [Act.put, List.setIfInBounds_toArray, List.set_cons_zero, List.set_cons_succ]
              refine takeHd (i := 6) (v := ?v6be) rfl rfl (by kernel_rfl) (by kernel_rfl) (by kernel_rfl) (fun _ _ _ h => absurd h.1 (by intro e; cases e)) rfl ?hy6be hS ?rs6be
              case hy6be => (intro wq hq; go_simp; try (with_reducible rfl))
              simp only [Act.put, List.setIfInBounds_toArray, List.set_cons_zero, List.set_cons_succ]
              refine wpAnyH_ready (rs := [5]) (by kernel_rfl) (by simp) ?_
              refine AllReadyH.cons rfl (fun K hK => ?_) AllReadyH.nil
              go_simp
              refine (cloneI_any A2 c2 os (by omega) wg (HO.out.below (HB0.out.trans (HB.out.mono HB0.out.size))).1).mono ?_
              rintro e wh ⟨rv, rfl, ho, hb⟩
              obtain ⟨AO, cO, rfl, _, _⟩ := own_formu ho
              have O8 := Lib.hid (own_low ho HB.out.size)
              replace O5 := Lib.hid (owb O5.out hb)
              replace X := Lib.hid (X.out.below hb)
              replace HB := Lib.hid (HB.out.trans (hb.mono HB.out.size))
              clear ho hb
              refine hK.out _ wh trivial (fun hS => ?_)
              clear hK
              try simp only [Act.put, List.setIfInBounds_toArray, List.set_cons_zero, List.set_cons_succ]
              refine wpAnyH_ready (rs := [7]) (by kernel_rfl) (by simp) ?_
              refine AllReadyH.cons rfl (fun K hK => ?_) AllReadyH.nil
              have q2 := X.out.c0; have q3 := X.out.free 0
              go_simp
              replace O5 := Lib.hid (ownsRow_setCell_below O5.out (a := ⟨tb, 0, none⟩) TB5.out (.slice AG gs.length cG)); replace O8 := Lib.hid (ownsRow_setCell_below O8.out (a := ⟨tb, 0, none⟩) TB5.out (.slice AG gs.length cG))
              replace X := Lib.hid (X.out.put0 (.slice AG gs.length cG))
              have MI := Lib.hid (mid_set (o := 0) (Nat.le_refl tb) (Nat.lt_succ_self tb) (.slice AG gs.length cG) (Mid.of_below HB.out (Nat.le_of_lt TB5.out)))
              refine hK.out _ (wh.setCell ⟨tb, 0, none⟩ (.slice AG gs.length cG)) trivial (fun hS => ?_)
              clear hK q2 q3
              generalize wh.setCell ⟨tb, 0, none⟩ (.slice AG gs.length cG) = wy at hS O5 O8 X MI ⊢
              try simp only [Act.put, List.setIfInBounds_toArray, List.set_cons_zero, List.set_cons_succ]
              refine takeHd (i := 8) (v := ?v8be) rfl rfl (by kernel_rfl) (by kernel_rfl) (by kernel_rfl) (fun _ _ _ h => absurd h.1 (by intro e; cases e)) rfl ?hy8be hS ?rs8be
              case hy8be => (intro wq hq; go_simp; try (with_reducible rfl))
              simp only [Act.put, List.setIfInBounds_toArray, List.set_cons_zero, List.set_cons_succ]
              refine wpAnyH_ready (rs := [9]) (by kernel_rfl) (by simp) ?_
              refine AllReadyH.cons rfl (fun K hK => ?_) AllReadyH.nil
              have q2 := X.out.c2; have q3 := X.out.free 2
              go_simp
              replace O5 := Lib.hid (ownsRow_setCell_below O5.out (a := ⟨tb, 2, none⟩) TB5.out (.slice AO os.length cO)); replace O8 := Lib.hid (ownsRow_setCell_below O8.out (a := ⟨tb, 2, none⟩) TB5.out (.slice AO os.length cO))
              replace X := Lib.hid (X.out.put2 (.slice AO os.length cO))
              replace MI := Lib.hid (mid_set (o := 2) (Nat.le_refl tb) (Nat.lt_succ_self tb) (.slice AO os.length cO) MI.out)
              refine hK.out _ (wy.setCell ⟨tb, 2, none⟩ (.slice AO os.length cO)) trivial (fun hS => ?_)
              clear hK q2 q3
              generalize wy.setCell ⟨tb, 2, none⟩ (.slice AO os.length cO) = wz at hS O5 O8 X MI ⊢
              try simp only [Act.put, List.setIfInBounds_toArray, List.set_cons_zero, List.set_cons_succ]
              refine wpAnyH_done (by kernel_rfl) ?_ _
              refine ⟨rfl, AG, cG, AO, cO, ?_, MI, X, O5, O8⟩
              rfl
          · have q1 := X.out.c2
            go_simp
            refine hK.out _ wd trivial (fun hS => ?_)
            clear hK q1
            try simp only [Act.put, List.setIfInBounds_toArray, List.set_cons_zero, List.set_cons_succ]
            refine wpAnyH_ready (rs := [1]) (by kernel_rfl) (by simp) ?_
            refine AllReadyH.cons rfl (fun K hK => ?_) AllReadyH.nil
            have q1 := X.out.c0
            go_simp
            refine hK.out _ wd trivial (fun hS => ?_)
            clear hK q1
            try simp only [Act.put, List.setIfInBounds_toArray, List.set_cons_zero, List.set_cons_succ]
            refine wpAnyH_ready (rs := [2]) (by kernel_rfl) (by simp) ?_
            refine AllReadyH.cons rfl (fun K hK => ?_) AllReadyH.nil
            go_simp
            refine (cloneG_any _ c gs (by omega) wd (HG.out.below (HB0.out.trans (HB.out.mono HB0.out.size))).1).mono ?_
            rintro e wg ⟨rv, rfl, ho, hb⟩
            obtain ⟨AG, cG, rfl, _, _⟩ := own_formu ho
            have O5 := Lib.hid (own_low ho HB.out.size)
            replace X := Lib.hid (X.out.below hb)
            replace HB := Lib.hid (HB.out.trans (hb.mono HB.out.size))
            clear ho hb
            refine hK.out _ wg trivial (fun hS => ?_)
            clear hK
            try simp only [Act.put, List.setIfInBounds_toArray, List.set_cons_zero, List.set_cons_succ]
            refine takeHd (i := 6) (v := ?v6e) rfl rfl (by kernel_rfl) (by kernel_rfl) (by kernel_rfl) (fun _ _ _ h => absurd h.1 (by intro e; cases e)) rfl ?hy6e hS ?rs6e
            case hy6e => (intro wq hq; go_simp; try (with_reducible rfl))
            simp only [Act.put, List.setIfInBounds_toArray, List.set_cons_zero, List.set_cons_succ]
            refine wpAnyH_ready (rs := [5]) (by kernel_rfl) (by simp) ?_
            refine AllReadyH.cons rfl (fun K hK => ?_) AllReadyH.nil
            go_simp
            refine (cloneI_any A2 c2 os (by omega) wg (HO.out.below (HB0.out.trans (HB.out.mono HB0.out.size))).1).mono ?_
            rintro e wh ⟨rv, rfl, ho, hb⟩
            obtain ⟨AO, cO, rfl, _, _⟩ := own_formu ho
            have O8 := Lib.hid (own_low ho HB.out.size)
            replace O5 := Lib.hid (owb O5.out hb)
            replace X := Lib.hid (X.out.below hb)
            replace HB := Lib.hid (HB.out.trans (hb.mono HB.out.size))
            clear ho hb
            refine hK.out _ wh trivial (fun hS => ?_)
            clear hK
            try simp only [Act.put, List.setIfInBounds_toArray, List.set_cons_zero, List.set_cons_succ]
            refine wpAnyH_ready (rs := [7]) (by kernel_rfl) (by simp) ?_
            refine AllReadyH.cons rfl (fun K hK => ?_) AllReadyH.nil
            have q2 := X.out.c0; have q3 := X.out.free 0
            go_simp
            replace O5 := Lib.hid (ownsRow_setCell_below O5.out (a := ⟨tb, 0, none⟩) TB5.out (.slice AG gs.length cG)); replace O8 := Lib.hid (ownsRow_setCell_below O8.out (a := ⟨tb, 0, none⟩) TB5.out (.slice AG gs.length cG))
            replace X := Lib.hid (X.out.put0 (.slice AG gs.length cG))
            have MI := Lib.hid (mid_set (o := 0) (Nat.le_refl tb) (Nat.lt_succ_self tb) (.slice AG gs.length cG) (Mid.of_below HB.out (Nat.le_of_lt TB5.out)))
            refine hK.out _ (wh.setCell ⟨tb, 0, none⟩ (.slice AG gs.length cG)) trivial (fun hS => ?_)
            clear hK q2 q3
            generalize wh.setCell ⟨tb, 0, none⟩ (.slice AG gs.length cG) = wy at hS O5 O8 X MI ⊢
            try simp only [Act.put, List.setIfInBounds_toArray, List.set_cons_zero, List.set_cons_succ]
            refine takeHd (i := 8) (v := ?v8e) rfl rfl (by kernel_rfl) (by kernel_rfl) (by kernel_rfl) (fun _ _ _ h => absurd h.1 (by intro e; cases e)) rfl ?hy8e hS ?rs8e
            case hy8e => (intro wq hq; go_simp; try (with_reducible rfl))
            simp only [Act.put, List.setIfInBounds_toArray, List.set_cons_zero, List.set_cons_succ]
            refine wpAnyH_ready (rs := [9]) (by kernel_rfl) (by simp) ?_
            refine AllReadyH.cons rfl (fun K hK => ?_) AllReadyH.nil
            have q2 := X.out.c2; have q3 := X.out.free 2
            go_simp
            replace O5 := Lib.hid (ownsRow_setCell_below O5.out (a := ⟨tb, 2, none⟩) TB5.out (.slice AO os.length cO)); replace O8 := Lib.hid (ownsRow_setCell_below O8.out (a := ⟨tb, 2, none⟩) TB5.out (.slice AO os.length cO))
            replace X := Lib.hid (X.out.put2 (.slice AO os.length cO))
            replace MI := Lib.hid (mid_set (o := 2) (Nat.le_refl tb) (Nat.lt_succ_self tb) (.slice AO os.length cO) MI.out)
            refine hK.out _ (wy.setCell ⟨tb, 2, none⟩ (.slice AO os.length cO)) trivial (fun hS => ?_)
            clear hK q2 q3
            generalize wy.setCell ⟨tb, 2, none⟩ (.slice AO os.length cO) = wz at hS O5 O8 X MI ⊢
            try simp only [Act.put, List.setIfInBounds_toArray, List.set_cons_zero, List.set_cons_succ]
            refine wpAnyH_done (by kernel_rfl) ?_ _
            refine ⟨rfl, AG, cG, AO, cO, ?_, MI, X, O5, O8⟩
            rfl
        · intro AG cG AO cO w8 hr
          obtain ⟨MI, X8, O5, O8⟩ := hr
          obtain ⟨AG', cG', he, _, hAG⟩ := own_formc O5.out
          cases he
          obtain ⟨g, rfl, hgb, _⟩ := hAG (by omega)
          have F8 := Lib.hid (F5.out.mid MI.out (.inr (by have := TBF.out; omega)))
          have M8 := Lib.hid (M5.out.mid MI.out (.inl (by have := HTB.out; omega)))
          have B8 := Lib.hid (HB0.out.trans (MI.out.1.mono (by have := HTB.out; omega)))
          have c0 := X8.out.c0
          have f0 := F8.out.c0; have f1 := F8.out.c1; have f2 := F8.out.c2
          have r3 := own_there O5.out (iN * 3) 3 (by omega)
          have HGB := Lib.hid hgb
          clear hAG hgb
          go_upto_region 11 with (guard_target =~ wpList _ _ _ (⟨_, Op.store 88 _ _, _, _, _, _⟩ :: _) _ _; refine wpList_store_mid rfl 88 _ _ rfl g (iN * 3) #[.int .i8 (5 - kd), .int .i16 a, .int .i16 bb] rfl rfl r3 (by kernel_rfl) (three_one rfl rfl rfl) ?_)
          have o5 : (w8.setCells g (iN * 3) [.int .i8 (5 - kd), .int .i16 a, .int .i16 bb]).ownsRow w5.heap.size 88 3 (.slice (some ⟨g, 0, none⟩) gs.length cG) gs.length (gcs (gs.set iN (5 - kd, a, bb))) := own_gate O5.out iN hlt (5 - kd, a, bb)
          have hTG : tb < g := by have := HGB.out; have := TB5.out; omega
          have x9 : BX (w8.setCells g (iN * 3) [.int .i8 (5 - kd), .int .i16 a, .int .i16 bb]) tb (.slice (some ⟨g, 0, none⟩) gs.length cG) (.int .i8 n) (.slice AO os.length cO) := (((X8.out.other (k := g) (o := iN * 3) (by omega) _).other (k := g) (o := iN * 3 + 1) (by omega) _).other (k := g) (o := iN * 3 + 1 + 1) (by omega) _)
          have m9 : BX (w8.setCells g (iN * 3) [.int .i8 (5 - kd), .int .i16 a, .int .i16 bb]) (w.heap.size + 1) (.int .i8 0) (.slice none 0 0) (.slice none 0 0) := (((M8.out.other (k := g) (o := iN * 3) (by have := HTB.out; omega) _).other (k := g) (o := iN * 3 + 1) (by have := HTB.out; omega) _).other (k := g) (o := iN * 3 + 1 + 1) (by have := HTB.out; omega) _)
          have o8 : (w8.setCells g (iN * 3) [.int .i8 (5 - kd), .int .i16 a, .int .i16 bb]).ownsRow w5.heap.size 86 1 (.slice AO os.length cO) os.length (i16s os) := own_setsT O8.out (fun q hq e => by
            subst e
            obtain ⟨c1, e1⟩ := own_type O8.out g hq
            obtain ⟨c2, e2⟩ := own_type O5.out g rfl
            rw [e1] at e2; cases e2) _ _
          have B9 := Lib.hid (bsets (show w.heap.size ≤ g by have := HTB.out; omega) [.int .i8 (5 - kd), .int .i16 a, .int .i16 bb] (iN * 3) w8 B8.out)
          have O9 := Lib.hid o5; have P9 := Lib.hid o8; have M9 := Lib.hid m9
          have c0 := x9.c0; have c1 := x9.c1; have c2' := x9.c2
          have W5 : Hid (w.heap.size + 1 < w5.heap.size) := Lib.hid (by have := HTB.out; have := TB5.out; omega)
          clear o5 o8 m9 x9 f0 f1 f2 r3
          generalize hw9 : w8.setCells g (iN * 3) [.int .i8 (5 - kd), .int .i16 a, .int .i16 bb] = w9 at c0 c1 c2' O9 P9 M9 B9
          try rw [hw9]
          try clear hw9
          go_wp2_with fail
          refine (circuit_any _ _ _ _ _ _ _ _ _ rfl rfl w9).mono ?_
          rintro e w10 ⟨rfl, hb10⟩
          have m7 := M9.out.below hb10
          have r7 := m7.there
          have M7 := Lib.hid m7
          have B7 := Lib.hid (B9.out.trans (hb10.mono B9.out.size))
          have O7 := Lib.hid (owb O9.out hb10); have P7 := Lib.hid (owb P9.out hb10)
          have TYP := Lib.hid (show ∀ k, (Value.slice (some ⟨g, 0, none⟩) gs.length cG).ownBlock = some k → (Value.slice AO os.length cO).ownBlock ≠ some k from fun k hk hk2 => by
            obtain ⟨c1, h1⟩ := own_type O7.out k hk
            obtain ⟨c2, h2⟩ := own_type P7.out k hk2
            rw [h1] at h2; cases h2)
          clear m7 hb10 c0 c1 c2'
          go_wp2_with (guard_target =~ wpList _ _ _ (⟨_, Op.store 33 _ _, _, _, _, _⟩ :: _) _ _; refine wpList_store_mid rfl 33 _ _ rfl (w.heap.size + 1) 0 #[.int .i8 n, .slice (some ⟨g, 0, none⟩) gs.length cG, .slice AO os.length cO] rfl rfl r7 (by kernel_rfl) (three_one rfl rfl rfl) ?_)
          obtain ⟨t8, h8⟩ := M7.out.puts (.int .i8 n) (.slice (some ⟨g, 0, none⟩) gs.length cG) (.slice AO os.length cO)
          have HLS := Lib.hid (show (gs.set iN (5 - kd, a, bb)).length = gs.length from List.length_set)
          rw [show flpG (gs.getD iN gz) = (5 - kd, a, bb) from by rw [← HXX.out]; rfl] at HGW
          refine bodyPost_ret (v := .tuple #[.agg #[.int .i8 n, .slice (some ⟨g, 0, none⟩) gs.length cG, .slice AO os.length cO], .int .i64 0]) ?_ rfl ⟨_, rfl, bsets (by omega) _ 0 w10 B7.out, ?_⟩
          · exact results_cell_tmp rfl _ _ (w.heap.size + 1) _ _ (0, 0) _ _ rfl rfl h8 Tryd.underlying33 rfl (by kernel_rfl)
          rw [show flpG (gs.getD iN gz) = (5 - kd, a, bb) from by rw [← HXX.out]; rfl]
          refine ⟨_, _, rfl, hn, HGW.out, HO.out.2, ?_, ?_, ?_, ?_, ?_⟩
          · rw [HLS.out]; exact own_low (own_sets O7.out W5.out _ 0) (by have := W5.out; omega)
          · exact own_low (own_sets P7.out W5.out _ 0) (by have := W5.out; omega)
          · intro k hk; exact (own_block (own_sets O7.out W5.out _ 0) k hk).2
          · intro k hk; exact (own_block (own_sets P7.out W5.out _ 0) k hk).2
          · exact TYP.out

end Go.Proofs.YtngaelifkhelbaaDoor
