/-
  GateValues.
-/
import Derived.Test.YtngaelifkhelbaaDoorCu
import Derived.Test.YtngaelifkhelbaaDoorCi
namespace Go.Proofs.YtngaelifkhelbaaDoor
set_option linter.unusedVariables false
set_option linter.unusedSimpArgs false
open Go.ChangeShapes Go.WideShapes Go.ChangeAt Go.RowKit
def gvL (n : Int) (gs : List G3) (os : List Int) (bits : Int) : List Bool := if circB n gs os then onL bits gs else []
theorem gvL_len (n : Int) (gs : List G3) (os : List Int) (bits : Int) : (gvL n gs os bits).length ≤ 1048576 := by
  unfold gvL
  by_cases hc : circB n gs os = true
  · rw [if_pos hc, show (onL bits gs).length = gs.length from bl_len _ _ _ (Nat.le_refl _)]
    unfold circB at hc
    have := (of_decide_eq_true hc).2.2.1
    omega
  · rw [if_neg hc]; simp
theorem OR.empty (w : World) (lo hi : Nat) (e : TypeId) (s : Nat) : OR lo hi w e s (.slice none 0 0) 0 [] := ⟨World.ownsRow_nil _ _ _ _, fun k hk => by simp [Value.ownBlock] at hk⟩
theorem OR.built {w w1 : World} {e : TypeId} (s : Nat) (hh : w1.heap[w.heap.size]? = some (.cells #[] e (0, 0))) (lo : Nat) (hl : lo ≤ w.heap.size) : OR lo w1.heap.size w1 e s (.slice (some ⟨w.heap.size, 0, none⟩) 0 0) 0 [] :=
  ⟨⟨by simp, .inr ⟨w.heap.size, 0, #[], rfl, hl, hh, Nat.le_refl _, Nat.zero_le _, by simp, by simp⟩⟩, fun k hk => by
    have e : w.heap.size = k := by simpa [Value.ownBlock] using hk
    subst e
    exact (Array.getElem?_eq_some_iff.1 hh).1⟩

set_option maxRecDepth 100000 in
set_option maxHeartbeats 4000000 in
theorem spec_GateValues (v : Value) (n : Int) (gs : List G3) (os : List Int) (bits : Int) (hb : 0 ≤ bits ∧ bits < 65536) (w : World) (h : CI w v n gs os) :
    Calls Tryd.prog 20 #[v, .int .u16 bits] w fun e w' => ∃ u, e = .returned (.tuple #[u, .int .i64 (okC n gs os)]) ∧ Below w.heap.size w w' ∧ OR w.heap.size w'.heap.size w' 4 1 u (gvL n gs os bits).length (bols (gvL n gs os bits)) := by
  have H := Lib.hid h
  obtain ⟨G, O, rfl, hn, hg, ho⟩ := h
  have HG := Lib.hid hg; have HO := Lib.hid ho
  obtain ⟨A, c, rfl⟩ := hg.form
  obtain ⟨A2, c2, rfl⟩ := ho.form
  clear hg ho
  go_enter Tryd.func20, Tryd.ntmps20
  go_wp2_with fail
  obtain ⟨a1, hb1, s1⟩ := nw1 w (.cells #[.int .i8 n, .slice A gs.length c, .slice A2 os.length c2] 33)
  generalize World.alloc w _ = w1 at a1 hb1 s1 ⊢
  refine (l07Ok_any w.heap.size n _ _ gs os w1 ⟨_, a1⟩ hn (HG.out.below hb1) (HO.out.below hb1)).mono ?_
  rintro e w2 ⟨rfl, hb⟩
  have m1 : Hid (BX w2 w.heap.size (.int .i8 n) (.slice A gs.length c) (.slice A2 os.length c2)) := Lib.hid (BX.belowB ⟨_, a1⟩ hb (by omega))
  have HB := Lib.hid (bch2 hb1 hb hb1.size)
  clear hb hb1 a1 s1
  cases hc : circB n gs os with
  | false =>
    have HC := Lib.hid hc
    clear hc
    go_wp2_with fail
    obtain ⟨z1, z2, z3⟩ := nw1 w2 (.cells #[] 4)
    have HBz := Lib.hid (HB.out.trans (z2.mono HB.out.size))
    have HOR := Lib.hid (OR.built 1 z1 w.heap.size HB.out.size)
    clear z1 z2 z3
    go_ret2
    refine ⟨_, by unfold okC; rw [HC.out]; rfl, HBz.out, ?_⟩
    have e : gvL n gs os bits = [] := by unfold gvL; rw [HC.out]; rfl
    rw [e]; exact HOR.out
  | true =>
    have HC := Lib.hid hc
    have hlen := (show gs.length ≤ 600 from (by unfold circB at hc; exact (of_decide_eq_true hc).2.2.1))
    have hn2 := (show 0 ≤ n ∧ n ≤ 16 from (by unfold circB at hc; exact ⟨(of_decide_eq_true hc).1, (of_decide_eq_true hc).2.1⟩))
    go_wp2_with fail
    refine (specValues_any n hn2 w.heap.size _ _ _ gs hlen (fun k hk => gate_of hc k hk) bits hb w2 m1.out (HG.out.below HB.out)).mono ?_
    rintro e w3 ⟨u, rfl, hb3, ho3⟩
    have HB3 := Lib.hid (HB.out.trans (hb3.mono HB.out.size))
    have HO3 := Lib.hid (OR.of (own_low ho3 HB.out.size))
    clear hb3 hc ho3
    go_wp2_with fail
    go_ret2
    refine ⟨_, by unfold okC; rw [HC.out]; rfl, HB3.out, ?_⟩
    have e : gvL n gs os bits = onL bits gs := by unfold gvL; rw [HC.out]; rfl
    rw [e, show (onL bits gs).length = gs.length from bl_len _ _ _ (Nat.le_refl _)]; exact HO3.out
set_option maxRecDepth 100000 in
set_option maxHeartbeats 4000000 in
theorem impl_GateValues (v : Value) (n : Int) (gs : List G3) (os : List Int) (bits : Int) (hb : 0 ≤ bits ∧ bits < 65536) (w : World) (h : CI w v n gs os) (hE : ET w) :
    Calls Tryd.prog 21 #[v, .int .u16 bits] w fun e w' => ∃ u, e = .returned (.tuple #[u, .int .i64 (okC n gs os)]) ∧ Below w.heap.size w w' ∧ OR w.heap.size w'.heap.size w' 4 1 u (gvL n gs os bits).length (bols (gvL n gs os bits)) := by
  have HE := Lib.hid hE
  clear hE
  have H := Lib.hid h
  obtain ⟨G, O, rfl, hn, hg, ho⟩ := h
  have HG := Lib.hid hg; have HO := Lib.hid ho
  obtain ⟨A, c, rfl⟩ := hg.form
  obtain ⟨A2, c2, rfl⟩ := ho.form
  clear hg ho
  go_enter Tryd.func21, Tryd.ntmps21
  go_wp2_with fail
  obtain ⟨a1, hb1, s1⟩ := nw1 w (.cells #[.int .i8 n, .slice A gs.length c, .slice A2 os.length c2] 33)
  generalize World.alloc w _ = w1 at a1 hb1 s1 ⊢
  refine (openCircuit_any n _ _ gs os w1 (H.out.below hb1)).mono ?_
  rintro e w2 ⟨rfl, hb⟩
  have HB := Lib.hid (bch2 hb1 hb hb1.size)
  clear hb hb1 a1 s1
  cases hc : circB n gs os with
  | false =>
    have HC := Lib.hid hc
    clear hc
    simp only [opW, Bool.false_eq_true, if_false]
    have HB4 := Lib.hid (HB.out.trans ((nw1 w2 (.cells #[.slice none 0 0, .int .i8 0, .slice none 0 0] 74)).2.1.mono HB.out.size))
    go_wp2_with fail
    refine (reasonOf_bad 1 _ (HE.out.below HB4.out)).mono ?_
    rintro e w3 ⟨rfl, hb3⟩
    have HB3 := Lib.hid (HB4.out.trans (hb3.mono HB4.out.size))
    clear hb3
    go_wp2_with fail
    go_ret2
    refine ⟨_, by unfold okC; rw [HC.out]; rfl, HB3.out, ?_⟩
    have e : gvL n gs os bits = [] := by unfold gvL; rw [HC.out]; rfl
    rw [e]; exact OR.empty _ _ _ _ _
  | true =>
    have HC := Lib.hid hc
    have hlen := (show gs.length ≤ 600 from (by unfold circB at hc; exact (of_decide_eq_true hc).2.2.1))
    have hn2 := (show 0 ≤ n ∧ n ≤ 16 from (by unfold circB at hc; exact ⟨(of_decide_eq_true hc).1, (of_decide_eq_true hc).2.1⟩))
    simp only [opW, if_true]
    have HB4 := Lib.hid (HB.out.trans ((nw1 w2 (.cells #[.slice A gs.length c, .int .i8 n, .slice A2 os.length c2] 74)).2.1.mono HB.out.size))
    go_wp2_with fail
    refine (implValues_any n hn2 _ gs hlen (fun k hk => gate_of hc k hk) bits hb _ (HG.out.below HB4.out)).mono ?_
    rintro e w3 ⟨u, rfl, hb3, ho3⟩
    have HB3 := Lib.hid (HB4.out.trans (hb3.mono HB4.out.size))
    have HO3 := Lib.hid (OR.of (own_low ho3 HB4.out.size))
    clear hb3 hc ho3
    go_wp2_with fail
    go_ret2
    refine ⟨_, by unfold okC; rw [HC.out]; rfl, HB3.out, ?_⟩
    have e : gvL n gs os bits = onL bits gs := by unfold gvL; rw [HC.out]; rfl
    rw [e, show (onL bits gs).length = gs.length from bl_len _ _ _ (Nat.le_refl _)]; exact HO3.out

end Go.Proofs.YtngaelifkhelbaaDoor
