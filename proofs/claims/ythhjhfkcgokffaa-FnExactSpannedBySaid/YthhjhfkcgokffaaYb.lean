/-
  Lists of words put together; the checks that come first where there is a list of words: of the program (openList) and of the model.
-/
import Derived.Test.YthhjhfkcgokffaaYa
import Derived.Test.YthhjhfkcgokffaaWh
import Derived.Test.YthhjhfkcgokffaaWd
import Derived.Lib.AppendZerosOnto
import Derived.BigQuiet
namespace Go.Proofs.Ythhjhfkcgokffaa
set_option linter.unusedVariables false
set_option linter.unusedSimpArgs false
open Go.ChangeShapes Go.WideShapes Go.ChangeAt Go.RowKit

/-- a slice of values of one cell -/
def VS (w : World) (v : Value) (vs : List Value) : Prop :=
  ∃ A c, v = .slice A vs.length c ∧ (0 < vs.length → ∃ b off, A = some ⟨b, off, none⟩ ∧ b < w.heap.size ∧ ∀ i u, vs[i]? = some u → w.cell? ⟨b, off + i, none⟩ = some u) ∧ ∀ u ∈ vs, u.oneCell' = true
theorem VS.below {w w' : World} {v : Value} {vs : List Value} (h : VS w v vs) (hb : Below w.heap.size w w') : VS w' v vs := by
  obtain ⟨A, c, e, hc, h1⟩ := h
  refine ⟨A, c, e, fun hn => ?_, h1⟩
  obtain ⟨b, off, hA, hlt, hcell⟩ := hc hn
  exact ⟨b, off, hA, Nat.lt_of_lt_of_le hlt hb.size, fun i u hu => (hb.cell (p := ⟨b, off + i, none⟩) hlt).trans (hcell i u hu)⟩
theorem VS.form {w : World} {v : Value} {vs : List Value} (h : VS w v vs) : ∃ A c, v = .slice A vs.length c := by
  obtain ⟨A, c, e, _⟩ := h
  exact ⟨A, c, e⟩
/-- the values are words -/
def VW (w : World) (vs : List Value) (gs : List (List Int)) : Prop := vs.length = gs.length ∧ ∀ i, i < gs.length → ∃ u, vs[i]? = some u ∧ NS w u (gs.getD i [])
theorem VW.below {w w' : World} {vs : List Value} {gs : List (List Int)} (h : VW w vs gs) (hb : Below w.heap.size w w') : VW w' vs gs :=
  ⟨h.1, fun i hi => by obtain ⟨u, h1, h2⟩ := h.2 i hi; exact ⟨u, h1, h2.below hb⟩⟩
theorem VW.append {w : World} {vs us : List Value} {gs os : List (List Int)} (h : VW w vs gs) (h' : VW w us os) : VW w (vs ++ us) (gs ++ os) := by
  refine ⟨by rw [List.length_append, List.length_append, h.1, h'.1], fun i hi => ?_⟩
  by_cases e : i < gs.length
  · obtain ⟨u, h1, h2⟩ := h.2 i e
    refine ⟨u, by rw [List.getElem?_append_left (by rw [h.1]; exact e)]; exact h1, ?_⟩
    have e2 : (gs ++ os).getD i [] = gs.getD i [] := by simp [List.getD, List.getElem?_append_left e]
    rw [e2]; exact h2
  · rw [List.length_append] at hi
    obtain ⟨u, h1, h2⟩ := h'.2 (i - gs.length) (by omega)
    refine ⟨u, by rw [List.getElem?_append_right (by rw [h.1]; omega), h.1]; exact h1, ?_⟩
    have e2 : (gs ++ os).getD i [] = os.getD (i - gs.length) [] := by simp [List.getD, List.getElem?_append_right (Nat.not_lt.1 e)]
    rw [e2]; exact h2
theorem WS.form {w : World} {v : Value} {gs : List (List Int)} (h : WS w v gs) : ∃ A c, v = .slice A gs.length c := by
  obtain ⟨A, c, e, _⟩ := h
  exact ⟨A, c, e⟩
theorem WS.vs {w : World} {v : Value} {gs : List (List Int)} (h : WS w v gs) : ∃ vs, VS w v vs ∧ VW w vs gs := by
  obtain ⟨A, c, us, rfl, hc, hu⟩ := h.open
  have hl : ((List.range gs.length).map us).length = gs.length := by simp
  have hat : ∀ i, i < gs.length → ((List.range gs.length).map us)[i]? = some (us i) := fun i hi => by simp [hi]
  refine ⟨(List.range gs.length).map us, ⟨A, c, by rw [hl], fun hn => ?_, fun u hu' => ?_⟩, hl, fun i hi => ⟨us i, hat i hi, hu i hi⟩⟩
  · obtain ⟨b, off, hA, hlt, hcell⟩ := hc (by rw [hl] at hn; exact hn)
    refine ⟨b, off, hA, hlt, fun i u hi => ?_⟩
    have hi2 : i < gs.length := by
      have := (List.getElem?_eq_some_iff.1 hi).1
      rwa [hl] at this
    rw [hat i hi2] at hi
    cases hi
    exact hcell i hi2
  · obtain ⟨i, hi, rfl⟩ := List.mem_map.1 hu'
    obtain ⟨A', c', e⟩ := (hu i (List.mem_range.1 hi)).form
    rw [e]; rfl
theorem VW.ws {w : World} {B n : Nat} {v : Value} {vs : List Value} {gs : List (List Int)} (h : VW w vs gs) (ho : w.ownsRow B 25 1 v n vs) (hn : n = gs.length) : WS w v gs := by
  subst hn
  rcases ho.2 with ⟨e, h0⟩ | ⟨g, cap, cur, e, hb, hg, h1, h2, h3, h4⟩
  · subst e
    have h0' : gs.length = 0 := by first | exact h0 | omega
    exact ⟨none, 0, by rw [h0'], fun hn => by omega⟩
  · subst e
    refine ⟨some ⟨g, 0, none⟩, cap, rfl, fun hn => ⟨g, 0, rfl, (Array.getElem?_eq_some_iff.1 hg).1, fun i hi => ?_⟩⟩
    obtain ⟨u, q1, q2⟩ := h.2 i hi
    exact ⟨u, by rw [Nat.zero_add, ho.cellAt i (by omega)]; exact q1, q2⟩
section
variable {P : Program} {w : World}
theorem wpList_append_vs {ops : Array Oper} {rest : List Oper} {o : Oper} {a : Act} {Q : Exit → Act → World → Prop} (hgd : o.guard = none) (s x : Operand) (t : TypeId)
    (ho : o.op = .call { callee := .builtin .append, args := #[s, x], argTypes := #[t, t] })
    (base : Nat) (e : TypeId) (i : TypeInfo) (z : Value) (ht : P.underlying t = some (.slice e)) (hi : P.info? e = some i) (hz : i.zero = some z)
    (hsize : i.size = 1) (hby : i.bytes = 24) (hzs : z.cells.size = 1)
    (v : Value) (n : Nat) (xs : List Value) (hs : a.eval s = v) (hown : w.ownsRow base e 1 v n xs)
    (vx : Value) (us : List Value) (hx : a.eval x = vx) (hN : VS w vx us) (hn : n + us.length ≤ 16777216) (hbase : base ≤ w.heap.size)
    (h : ∀ v' w', w'.ownsRow base e 1 v' (n + us.length) (xs ++ us) → w.grownBy w' v.ownBlock → (v' = .slice none 0 0 ↔ v = .slice none 0 0 ∧ us.length = 0) → wpList P ops Q rest (a.put o.dst v') w') :
    wpList P ops Q (o :: rest) a w := by
  refine wpList_plain hgd fun K hK => ?_
  obtain ⟨A, c, rfl, hc, h1⟩ := hN
  have main : ∃ v' w', (Builtin.append_ #[t, t] o.type #[v, .slice A us.length c]).run P w = .ok v' w' ∧ w'.ownsRow base e 1 v' (n + us.length) (xs ++ us) ∧ w.grownBy w' v.ownBlock ∧ (v' = .slice none 0 0 ↔ v = .slice none 0 0 ∧ us.length = 0) := by
    cases A with
    | none =>
      have hl0 : us.length = 0 := by
        rcases Nat.eq_zero_or_pos us.length with e | e
        · exact e
        · obtain ⟨b, off, e2, _⟩ := hc e
          cases e2
      have e0 : us = [] := List.length_eq_zero_iff.1 hl0
      subst e0
      have hrun : (Builtin.append_ #[t, t] o.type #[v, .slice none 0 c]).run P w = .ok v w := by
        rcases hown.2 with ⟨rfl, rfl⟩ | ⟨g, cap, cur, rfl, _, _, hnc, _⟩
        · simp [Builtin.append_, run_underlying ht, sizeOf, typeInfo, hi, Builtin.lenOf, Builtin.firstCells]
        · simp [Builtin.append_, run_underlying ht, sizeOf, typeInfo, hi, Builtin.lenOf, Builtin.firstCells, hnc, storeCells]
      exact ⟨v, w, hrun, by simpa using hown, ⟨rfl, rfl, rfl, Nat.le_refl _, fun _ _ _ => rfl⟩, by simp⟩
    | some ad =>
      refine run_append_own (P := P) w base t o.type e i z 1 24 ht hi hz hsize hby hzs (by decide) v n xs hown ad us.length c us (by simp) ?_ h1 (by unfold maxLen; omega) (by omega) hbase
      intro j y hj
      obtain ⟨b, off, e2, _, hcell⟩ := hc (by have := (List.getElem?_eq_some_iff.1 hj).1; omega)
      cases e2
      rw [Addr.add_lit]
      exact hcell j y hj
  obtain ⟨v', w', hr, h2, h3, h4⟩ := main
  unfold Oper.wp execOp
  simp only [ho, resolve, invoke, builtin, Sem.run_bind, Sem.run_pure, Result.andThen_ok, List.map_toArray, List.map_cons, List.map_nil, hs, hx, hr]
  exact hK _ _ (h v' w' h2 h3 h4)
end
set_option maxHeartbeats 2000000 in
set_option maxRecDepth 100000 in
theorem growWs_any (n : Nat) (hn : n ≤ 4194304) (w : World) :
    Calls Try.prog 159 #[.slice none 0 0, .int .i64 (n : Int)] w fun e w' => ∃ A c, e = .returned (.slice A 0 c) ∧ w'.ownsRow w.heap.size 25 1 (.slice A 0 c) 0 [] ∧ Below w.heap.size w w' := by
  by_cases h1 : n = 0
  · subst h1
    go_enter Try.func159, Try.ntmps159
    go_wp2_with fail
    go_ret
    exact ⟨none, 0, rfl, ⟨by simp, .inl ⟨rfl, rfl⟩⟩, Below.refl _ _⟩
  obtain ⟨i0, hi, hz0, hz1, hz2⟩ := info_parts infoWord
  have T1 : decide ((n : Int) < 0) = false := by simp
  have T2 : decide ((0 : Int) < (n : Int)) = true := by simp; omega
  have hold : (Builtin.firstCells i0.size 0 (.slice none 0 0)).run Try.prog w.drew = .ok (([] : List Value).toArray) w.drew := by
    exact run_firstCells_none w.drew i0.size 0 0 0
  have hfit : (0 + n) * i0.bytes ≤ 140737488355328 := by rw [hz2]; omega
  have hrz : ∀ ty, (Builtin.append_ #[44, 3] ty #[.slice none 0 0, .int .i64 (n : Int)]).run Try.prog w =
      .ok (.slice (some ⟨w.heap.size, 0, none⟩) (0 + n) (grownCap w (0 + n) 0 25)) (w.drew.alloc (.cells (([] : List Value).toArray ++ Builtin.zeroCells (Value.slice none 0 0).cells n ++ Builtin.zeroCells (Value.slice none 0 0).cells (grownCap w (0 + n) 0 25 - (0 + n))) 25)) := fun ty => by
    have h := Lib.run_append_grow_zeros w 44 3 ty 25 i0 (.slice none 0 0) .i64 .i64 Try.underlying44 (by kernel_rfl) hi hz0 none 0 0 [] hold n (by omega) (by rw [hz1]; omega) (by omega) (by omega)
      (by rw [hz2]; omega)
      (growslice_fits (by omega) hfit)
    exact h
  have hGn : 0 + n ≤ grownCap w (0 + n) 0 25 := grownCap_ge w _ _ _
  have hG63 : grownCap w (0 + n) 0 25 ≤ maxLen := grownCap_le_maxLen w (0 + n) 0 25 (by unfold maxLen; omega)
  obtain ⟨G, hG⟩ : ∃ G, G = grownCap w (0 + n) 0 25 := ⟨_, rfl⟩
  rw [← hG] at hrz hGn hG63
  clear hold hfit hG
  have hGb : G ≤ 9223372036854775807 := by unfold maxLen at hG63; omega
  rw [Nat.zero_add] at hrz hGn
  go_enter Try.func159, Try.ntmps159
  go_wp2_with (at_builtin; refine Lib.wpList_append_run _ rfl _ _ _ _ rfl _ _ rfl rfl _ _ (hrz _) ?_)
  all_goals
    go_ret
    refine ⟨_, G, rfl, ⟨by simp, .inr ⟨w.heap.size, G, _, rfl, Nat.le_refl _, heap_alloc_new w _, Nat.zero_le _, hG63, ?_, by simp⟩⟩, drew_b ((Below.refl _ w).alloc (Nat.le_refl _) _)⟩
    simp [size_zeroCells]
    omega
set_option maxHeartbeats 4000000 in
set_option maxRecDepth 100000 in
theorem concatWs_any (v u : Value) (xs ys : List Value) (g : Nat) (hn : xs.length ≤ 1048576) (hn2 : ys.length ≤ 1048576) (w : World) (hg : g < w.heap.size) (c0 : w.cell? ⟨g, 0, none⟩ = some v) (c1 : w.cell? ⟨g, 1, none⟩ = some u) (h : VS w v xs) (h' : VS w u ys) :
    Calls Try.prog 139 #[.slice (some ⟨g, 0, none⟩) 2 2] w fun e w' => ∃ r, e = .returned r ∧ w'.ownsRow w.heap.size 25 1 r (xs ++ ys).length (xs ++ ys) ∧ Below w.heap.size w w' := by
  obtain ⟨i0, hi, hz0, hz1, hz2⟩ := info_parts infoWord
  have HN := Lib.hid h
  have HN' := Lib.hid h'
  obtain ⟨A, c, rfl⟩ := h.form
  obtain ⟨A', c', rfl⟩ := h'.form
  have HC0 := Lib.hid c0
  have HC1 := Lib.hid c1
  have HGL := Lib.hid hg
  obtain ⟨a, ha⟩ : ∃ a, a = xs.length := ⟨_, rfl⟩
  obtain ⟨b, hb⟩ : ∃ b, b = ys.length := ⟨_, rfl⟩
  rw [← ha] at hn HN c0 HC0
  rw [← hb] at hn2 HN' c1 HC1
  have HA := Lib.hid ha
  have HB := Lib.hid hb
  obtain ⟨s2, hs2⟩ : ∃ s2 : Nat, s2 = a + b := ⟨_, rfl⟩
  have e2 : (a : Int) + (b : Int) = (s2 : Int) := by omega
  have hs2b : s2 ≤ 2097152 := by omega
  have HS2 := Lib.hid hs2
  clear h h' ha hb hg hs2
  go_enter Try.func139, Try.ntmps139
  go_wp2_with fail
  go_loop [11, 3] (fun y s => (y = .int .i64 0 ∧ s = .int .i64 0) ∨ (y = .int .i64 1 ∧ s = .int .i64 (a : Int)) ∨ (y = .int .i64 2 ∧ s = .int .i64 (s2 : Int))) (fun y _ => 2 - (intOf y).toNat)
  case atStart => exact .inl ⟨rfl, rfl⟩
  case round =>
    rcases hrel with ⟨rfl, rfl⟩ | ⟨rfl, rfl⟩ | ⟨rfl, rfl⟩
    · have T1 : decide ((a : Int) < 0) = false := by simp
      go_wp2_with fail
      exact ⟨.inr (.inl ⟨rfl, rfl⟩), by decide⟩
    · have T1 : decide ((s2 : Int) < 0) = false := by simp
      go_wp2_with fail
      exact ⟨.inr (.inr ⟨rfl, rfl⟩), by decide⟩
    · clear c0 c1 e2
      go_wp2_with fail
      refine (growWs_any s2 (by omega) _).mono ?_
      rintro e w1 ⟨AG, cg, rfl, ho, hb⟩
      have HO := Lib.hid ho
      have HB1 := Lib.hid hb
      have HOB : Hid (∀ k, (Value.slice AG 0 cg).ownBlock = some k → w.heap.size ≤ k) := Lib.hid (fun k hk => by
        obtain ⟨e, _⟩ | ⟨g', cap, cur, e, q1, _⟩ := ho.2
        · rw [e] at hk; simp [Value.ownBlock] at hk
        · rw [e] at hk
          have : g' = k := by simpa [Value.ownBlock] using hk
          omega)
      have k0 := (hb.cell (p := ⟨g, 0, none⟩) HGL.out).trans HC0.out
      have k1 := (hb.cell (p := ⟨g, 1, none⟩) HGL.out).trans HC1.out
      have HK0 := Lib.hid k0
      have HK1 := Lib.hid k1
      clear ho hb k0 k1
      obtain ⟨B, hB⟩ : ∃ B, B = w.heap.size := ⟨_, rfl⟩
      rw [← hB] at HO HB1 HOB
      have HBB := Lib.hid hB
      clear hB
      go_wp2_with fail
      go_loopw [27, 6] (fun y s wr => (y = .int .i64 0 ∧ s = .slice AG 0 cg ∧ w1 = wr) ∨ (y = .int .i64 1 ∧ Hid (wr.ownsRow B 25 1 s a xs) ∧ Hid (Below B w wr)) ∨ (y = .int .i64 2 ∧ Hid (wr.ownsRow B 25 1 s s2 (xs ++ ys)) ∧ Hid (Below B w wr))) (fun y _ _ => 2 - (intOf y).toNat)
      case atStart => exact .inl ⟨rfl, rfl, rfl⟩
      case round =>
        rcases hrel with ⟨rfl, rfl, rfl⟩ | ⟨rfl, HR, HBW⟩ | ⟨rfl, HR, HBW⟩
        · have HN1 := Lib.hid (HN.out.below (HBB.out ▸ HB1.out))
          have k0 := HK0.out
          go_wp2_with (at_builtin; refine wpList_append_vs rfl _ _ 44 rfl B 25 i0 (.slice none 0 0) Try.underlying44 hi hz0 hz1 hz2 rfl _ 0 _ rfl HO.out _ xs rfl HN1.out (by have := HA.out; omega) (by have := HB1.out.size; have := HBB.out; omega) ?_)
          intro s' wy hown hgrow _
          have hbl : Below B w wy := HB1.out.grown hgrow (by have := HB1.out.size; have := HBB.out; omega) HOB.out
          have ho2 : wy.ownsRow B 25 1 s' a xs := by
            rw [HA.out]; simpa using hown
          have HO2 := Lib.hid ho2
          have HBL := Lib.hid hbl
          clear hown hgrow ho2 hbl k0
          go_wp2_with fail
          exact ⟨.inr (.inl ⟨rfl, HO2, HBL⟩), by decide⟩
        · obtain ⟨A3, c3, rfl, _, _⟩ := own_form HR.out
          have hbw : Below w.heap.size w wr := HBB.out ▸ HBW.out
          have HN1 := Lib.hid (HN'.out.below hbw)
          have k1 := (hbw.cell (p := ⟨g, 1, none⟩) HGL.out).trans HC1.out
          clear hbw
          go_wp2_with (at_builtin; refine wpList_append_vs rfl _ _ 44 rfl B 25 i0 (.slice none 0 0) Try.underlying44 hi hz0 hz1 hz2 rfl _ a _ rfl HR.out _ ys rfl HN1.out (by have := HB.out; have := HS2.out; omega) (by have := HBW.out.size; have := HBB.out; omega) ?_)
          intro s' wy hown hgrow _
          have hbl : Below B w wy := HBW.out.grown hgrow (by have := HBW.out.size; have := HBB.out; omega) (fun k hk => by
            obtain ⟨e, _⟩ | ⟨g', cap, cur, e, q1, _⟩ := HR.out.2
            · rw [e] at hk; simp [Value.ownBlock] at hk
            · rw [e] at hk
              have : g' = k := by simpa [Value.ownBlock] using hk
              omega)
          have ho2 : wy.ownsRow B 25 1 s' s2 (xs ++ ys) := by
            rw [HS2.out, HB.out]; exact hown
          have HO2 := Lib.hid ho2
          have HBL := Lib.hid hbl
          clear hown hgrow ho2 hbl k1
          go_wp2_with fail
          exact ⟨.inr (.inr ⟨rfl, HO2, HBL⟩), by decide⟩
        · obtain ⟨A3, c3, rfl, _, _⟩ := own_form HR.out
          have HP := Lib.hid (show wr.ownsRow B 25 1 (.slice A3 s2 c3) (xs ++ ys).length (xs ++ ys) from by
            rw [List.length_append, ← HA.out, ← HB.out, ← HS2.out]; exact HR.out)
          go_wp2_with fail
          go_ret
          exact ⟨_, rfl, by rw [← HBB.out]; exact HP.out, by rw [← HBB.out]; exact HBW.out⟩
/-- the code of a base, a list of words, and other words -/
def lsC (n : Int) (gs os : List (List Int)) : Int := if opC n (gs ++ os) = 0 then (if gs.length ≤ 300 then 0 else 3) else opC n (gs ++ os)
def lsB (n : Int) (gs os : List (List Int)) : Int := if lsC n gs os = 0 then n else 0
theorem lsC_yes {n : Int} {gs os : List (List Int)} (h : opC n (gs ++ os) = 0) (h2 : gs.length ≤ 300) : lsC n gs os = 0 := by unfold lsC; rw [if_pos h, if_pos h2]
theorem lsC_long {n : Int} {gs os : List (List Int)} (h : opC n (gs ++ os) = 0) (h2 : ¬ gs.length ≤ 300) : lsC n gs os = 3 := by unfold lsC; rw [if_pos h, if_neg h2]
theorem lsC_no {n : Int} {gs os : List (List Int)} (h : ¬ opC n (gs ++ os) = 0) : lsC n gs os = opC n (gs ++ os) := by unfold lsC; rw [if_neg h]
theorem lsC_zero {n : Int} {gs os : List (List Int)} (h : lsC n gs os = 0) : opC n (gs ++ os) = 0 ∧ gs.length ≤ 300 := by
  unfold lsC at h
  split at h
  · rename_i h1
    split at h
    · rename_i h2; exact ⟨h1, h2⟩
    · omega
  · rename_i h1; exact absurd h h1
theorem opC_zero {n : Int} {gs : List (List Int)} (h : opC n gs = 0) : baB n = true ∧ gs.all (wdB n) = true ∧ lnB gs = true := by
  unfold opC at h
  split at h
  · rename_i h1
    split at h
    · rename_i h2
      unfold wsB at h2
      rw [Bool.and_eq_true] at h2
      exact ⟨h1, h2.1, h2.2⟩
    · omega
  · omega
theorem opB_yes {n : Int} {gs : List (List Int)} (h : opC n gs = 0) : opB n gs = n := by unfold opB; rw [if_pos h]
theorem opB_no {n : Int} {gs : List (List Int)} (h : ¬ opC n gs = 0) : opB n gs = 0 := by unfold opB; rw [if_neg h]
set_option maxHeartbeats 4000000 in
theorem openList_any (n : Int) (v u : Value) (gs os : List (List Int)) (hn : gs.length ≤ 1048576) (hn2 : os.length ≤ 1) (hm : ∀ i, i < (gs ++ os).length → ((gs ++ os).getD i []).length ≤ 1048576) (hb : -9223372036854775808 ≤ n ∧ n ≤ 9223372036854775807) (w : World) (h : WS w v gs) (h' : WS w u os) :
    Calls Try.prog 102 #[.int .i64 n, v, u] w fun e w' => e = .returned (.tuple #[.int .i64 (lsB n gs os), .int .i64 (lsC n gs os)]) ∧ Below w.heap.size w w' := by
  obtain ⟨vs, hv1, hv2⟩ := h.vs
  obtain ⟨us, hu1, hu2⟩ := h'.vs
  obtain ⟨A, c, rfl⟩ := h.form
  obtain ⟨A', c', rfl⟩ := h'.form
  have lv := hv2.1
  have lu := hu2.1
  obtain ⟨cb, hcb⟩ : ∃ cb, cb = lsB n gs os := ⟨_, rfl⟩
  obtain ⟨cc, hcc⟩ : ∃ cc, cc = lsC n gs os := ⟨_, rfl⟩
  obtain ⟨ob, hob⟩ : ∃ ob, ob = opB n (gs ++ os) := ⟨_, rfl⟩
  obtain ⟨oc, hoc⟩ : ∃ oc, oc = opC n (gs ++ os) := ⟨_, rfl⟩
  rw [← hcb, ← hcc]
  obtain ⟨w1, hw1⟩ : ∃ w1, w1 = w.alloc (.cells #[.slice A gs.length c, .slice A' os.length c'] 44) := ⟨_, rfl⟩
  have hb1 : Below w.heap.size w w1 := by rw [hw1]; exact (Below.refl _ _).alloc (Nat.le_refl _) _
  have hs1 : w.heap.size < w1.heap.size := by rw [hw1]; simp
  have q0 : w1.cell? ⟨w.heap.size, 0, none⟩ = some (.slice A gs.length c) := by rw [hw1]; exact (cell_of_row _ _ _ _ _ _ (heap_alloc_new w _)).trans rfl
  have q1 : w1.cell? ⟨w.heap.size, 1, none⟩ = some (.slice A' os.length c') := by rw [hw1]; exact (cell_of_row _ _ _ _ _ _ (heap_alloc_new w _)).trans rfl
  have hcc1 := concatWs_any _ _ vs us w.heap.size (by omega) (by omega) w1 hs1 q0 q1 (hv1.below hb1) (hu1.below hb1)
  have HCC := Lib.hid hcc1
  have HW1 := Lib.hid hw1
  have HB1 := Lib.hid hb1
  have HVW := Lib.hid ((hv2.append hu2).below hb1)
  have HM := Lib.hid hm
  have HOB := Lib.hid hob
  have HOC := Lib.hid hoc
  have HLN : Hid ((vs ++ us).length = (gs ++ os).length) := Lib.hid (by rw [List.length_append, List.length_append, lv, lu])
  have HLE : Hid ((gs ++ os).length ≤ 1048577) := Lib.hid (by rw [List.length_append]; omega)
  have hgl : (gs ++ os).length ≤ 1048576 ∨ ¬ (gs ++ os).length ≤ 1048576 := by omega
  by_cases h0 : oc = 0
  · have e0 : opC n (gs ++ os) = 0 := hoc ▸ h0
    have ob1 : ob = n := by rw [hob, opB_yes e0]
    by_cases h3 : gs.length ≤ 300
    · have ec : cc = 0 := by rw [hcc, lsC_yes e0 h3]
      have eb : cb = n := by rw [hcb]; unfold lsB; rw [lsC_yes e0 h3, if_pos rfl]
      have T1 : decide ((300 : Int) < (gs.length : Int)) = false := by simp; omega
      subst h0 ec
      rw [eb]
      clear hcb hcc hob hoc e0 hw1 hb1 q0 q1 hcc1 hv1 hu1 hv2 hu2 h h' hm hgl eb
      go_enter Try.func102, Try.ntmps102
      go_wp2_with fail
      rw [← HW1.out]
      refine HCC.out.mono ?_
      rintro e w2 ⟨r, rfl, ho, hb2⟩
      have HB2 := Lib.hid (bchain HB1.out hb2)
      have HWS := Lib.hid ((HVW.out.below hb2).ws ho HLN.out)
      clear ho hb2
      go_wp2_with fail
      refine (openBase_any n r (gs ++ os) (by have := HLE.out; omega) HM.out _ HWS.out).mono ?_
      rintro e w3 ⟨rfl, hb3⟩
      rw [← HOB.out, ← HOC.out]
      have HB3 := Lib.hid (bchain HB2.out hb3)
      clear hb3
      go_wp2_with fail
      go_ret2
      exact ⟨by first | rfl | rw [ob1], HB3.out⟩
    · have ec : cc = 3 := by rw [hcc, lsC_long e0 h3]
      have eb : cb = 0 := by rw [hcb]; unfold lsB; rw [lsC_long e0 h3, if_neg (by decide)]
      have T1 : decide ((300 : Int) < (gs.length : Int)) = true := by simp; omega
      subst h0 ec eb
      clear hcb hcc hob hoc e0 hw1 hb1 q0 q1 hcc1 hv1 hu1 hv2 hu2 h h' hm hgl
      go_enter Try.func102, Try.ntmps102
      go_wp2_with fail
      rw [← HW1.out]
      refine HCC.out.mono ?_
      rintro e w2 ⟨r, rfl, ho, hb2⟩
      have HB2 := Lib.hid (bchain HB1.out hb2)
      have HWS := Lib.hid ((HVW.out.below hb2).ws ho HLN.out)
      clear ho hb2
      go_wp2_with fail
      refine (openBase_any n r (gs ++ os) (by have := HLE.out; omega) HM.out _ HWS.out).mono ?_
      rintro e w3 ⟨rfl, hb3⟩
      rw [← HOB.out, ← HOC.out]
      have HB3 := Lib.hid (bchain HB2.out hb3)
      clear hb3
      go_wp2_with fail
      go_ret2
      exact ⟨rfl, HB3.out⟩
  · have e0 : ¬ opC n (gs ++ os) = 0 := hoc ▸ h0
    have ob1 : ob = 0 := by rw [hob, opB_no e0]
    have ec : cc = oc := by rw [hcc, lsC_no e0, hoc]
    have eb : cb = 0 := by rw [hcb]; unfold lsB; rw [lsC_no e0, if_neg e0]
    have T1 : (oc == 0) = false := by simpa using h0
    subst ec eb ob1
    clear hcb hcc hob hoc e0 hw1 hb1 q0 q1 hcc1 hv1 hu1 hv2 hu2 h h' hm hgl
    go_enter Try.func102, Try.ntmps102
    go_wp2_with fail
    rw [← HW1.out]
    refine HCC.out.mono ?_
    rintro e w2 ⟨r, rfl, ho, hb2⟩
    have HB2 := Lib.hid (bchain HB1.out hb2)
    have HWS := Lib.hid ((HVW.out.below hb2).ws ho HLN.out)
    clear ho hb2
    go_wp2_with fail
    refine (openBase_any n r (gs ++ os) (by have := HLE.out; omega) HM.out _ HWS.out).mono ?_
    rintro e w3 ⟨rfl, hb3⟩
    rw [← HOB.out, ← HOC.out]
    have HB3 := Lib.hid (bchain HB2.out hb3)
    clear hb3
    go_wp2_with fail
    go_ret2
    exact ⟨rfl, HB3.out⟩
end Go.Proofs.Ythhjhfkcgokffaa
