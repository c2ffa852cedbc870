/-
  Lists of words in memory; the first word of which a test holds; are words of one length?
-/
import Derived.Test.YthhjhfkcgokffaaWa
import Derived.Shelf.Abstract
namespace Go.Proofs.Ythhjhfkcgokffaa
set_option linter.unusedVariables false
set_option linter.unusedSimpArgs false
open Go.ChangeShapes Go.WideShapes Go.ChangeAt Go.RowKit

/-- the value v is a slice of words -/
def WS (w : World) (v : Value) (gs : List (List Int)) : Prop :=
  ∃ A c, v = .slice A gs.length c ∧ (0 < gs.length → ∃ b off, A = some ⟨b, off, none⟩ ∧ b < w.heap.size ∧ ∀ i, i < gs.length → ∃ u, w.cell? ⟨b, off + i, none⟩ = some u ∧ NS w u (gs.getD i []))
theorem WS.below {w w' : World} {v : Value} {gs : List (List Int)} (h : WS w v gs) (hb : Below w.heap.size w w') : WS w' v gs := by
  obtain ⟨A, c, hv, hc⟩ := h
  refine ⟨A, c, hv, fun hn => ?_⟩
  obtain ⟨b, off, hA, hlt, hcell⟩ := hc hn
  refine ⟨b, off, hA, Nat.lt_of_lt_of_le hlt hb.size, fun i hi => ?_⟩
  obtain ⟨u, h1, h2⟩ := hcell i hi
  exact ⟨u, (hb.cell (p := ⟨b, off + i, none⟩) hlt).trans h1, h2.below hb⟩
theorem WS.nil (w : World) (A : Option Addr) (c : Nat) : WS w (.slice A 0 c) [] := ⟨A, c, rfl, fun hn => by simp at hn⟩
/-- a row of values that are words, in a block that is known -/
theorem WS.row {w : World} {g : Nat} {vs : List Value} {gs : List (List Int)} {T : TypeId} (hg : w.heap[g]? = some (.cells vs.toArray T (0, 0))) (hl : vs.length = gs.length) (c : Nat) (h : ∀ i, i < gs.length → ∃ u, vs[i]? = some u ∧ NS w u (gs.getD i [])) :
    WS w (.slice (some ⟨g, 0, none⟩) gs.length c) gs := by
  refine ⟨_, c, rfl, fun hn => ⟨g, 0, rfl, (Array.getElem?_eq_some_iff.1 hg).1, fun i hi => ?_⟩⟩
  obtain ⟨u, h1, h2⟩ := h i hi
  refine ⟨u, ?_, h2⟩
  rw [Nat.zero_add]
  have : (vs.toArray)[i]? = some u := by simpa using h1
  rw [← this]
  exact cell_of_row _ _ _ _ _ _ hg
/-- what slices.IndexFunc answers: the first of n places of which p holds -/
def IsFirst (p : Nat → Bool) (n : Nat) (r : Int) : Prop :=
  (r = -1 ∧ ∀ i, i < n → p i = false) ∨ (∃ k : Nat, r = (k : Int) ∧ k < n ∧ p k = true ∧ ∀ i, i < k → p i = false)
def anyN (p : Nat → Bool) (n : Nat) : Bool := (List.range n).any p
theorem anyN_no {p : Nat → Bool} {n : Nat} (h : ∀ i, i < n → p i = false) : anyN p n = false := by
  unfold anyN
  rw [List.any_eq_false]
  intro i hi
  rw [h i (List.mem_range.1 hi)]; decide
theorem anyN_yes {p : Nat → Bool} {n k : Nat} (hk : k < n) (h : p k = true) : anyN p n = true := by
  unfold anyN
  rw [List.any_eq_true]
  exact ⟨k, List.mem_range.2 hk, h⟩
theorem IsFirst.any {p : Nat → Bool} {n : Nat} {r : Int} (h : IsFirst p n r) : decide (0 ≤ r) = anyN p n := by
  rcases h with ⟨rfl, h⟩ | ⟨k, rfl, hk, h, _⟩
  · rw [anyN_no h]; decide
  · rw [anyN_yes hk h]; simp
/-- what is asked of a test that is handed over -/
def TestAt (gf : Nat) (lb : Array Value) (us : Nat → Value) (p : Nat → Bool) (n : Nat) (w : World) : Prop :=
  ∀ (i : Nat) (W : World), i < n → Below w.heap.size w W → Calls Try.prog gf (#[us i] ++ lb) W fun e W' => e = .returned (.bool (p i)) ∧ Below W.heap.size W W'
theorem TestAt.below {gf n : Nat} {lb : Array Value} {us : Nat → Value} {p : Nat → Bool} {w w1 : World} (h : TestAt gf lb us p n w) (hb : Below w.heap.size w w1) : TestAt gf lb us p n w1 :=
  fun i W hi hW => h i W hi (bchain hb hW)
set_option maxHeartbeats 1000000 in
theorem indexFuncW_any (A : Option Addr) (n c : Nat) (hn : n ≤ 2097152) (gf : Nat) (lb : Array Value) (hg : ∀ args w, (callFunc gf args).run Try.prog w = .ok (.enter gf args) w) (us : Nat → Value) (p : Nat → Bool) (w : World)
    (hc : 0 < n → ∃ b off, A = some ⟨b, off, none⟩ ∧ b < w.heap.size ∧ ∀ i, i < n → w.cell? ⟨b, off + i, none⟩ = some (us i)) (hp : TestAt gf lb us p n w) :
    Calls Try.prog 145 #[.slice A n c, .func (.func gf) #[] lb] w fun e w' => ∃ r : Int, e = .returned (.int .i64 r) ∧ IsFirst p n r ∧ Below w.heap.size w w' := by
  have HC := Lib.hid hc; clear hc
  have HP := Lib.hid hp; clear hp
  go_enter Try.func145, Try.ntmps145
  go_wp2_with fail
  go_loopw [8] (fun y wr => ∃ k : Nat, y = .int .i64 (k : Int) ∧ k ≤ n ∧ Hid (∀ i, i < k → p i = false) ∧ Hid (Below w.heap.size w wr)) (fun y _ => n - (intOf y).toNat)
  case atStart => exact ⟨0, rfl, Nat.zero_le _, Lib.hid (fun i hi => absurd hi (by omega)), Lib.hid (Below.refl _ _)⟩
  case round =>
    obtain ⟨k, rfl, hk, HN, HB⟩ := hrel
    by_cases hlt : k < n
    · obtain ⟨b, off, rfl, hlb, hcell⟩ := HC.out (by omega)
      have i1 : (k : Int) < (n : Int) := by omega
      have q1 : wr.cell? ⟨b, off + k, none⟩ = some (us k) := (HB.out.cell (p := ⟨b, off + k, none⟩) hlb).trans (hcell k hlt)
      have hcall := HP.out k wr hlt HB.out
      obtain ⟨u, hu⟩ : ∃ u, u = us k := ⟨_, rfl⟩
      rw [← hu] at q1 hcall
      have HCL := Lib.hid hcell
      clear hcell hu
      cases hq : p k with
      | true =>
        rw [hq] at hcall
        have HQ := Lib.hid hq
        have HCA := Lib.hid hcall
        clear hq hcall
        go_wp2_with (go_at_fn gf; refine HCA.out.mono ?_; rintro e w2 ⟨rfl, hb⟩; have HB2 := Lib.hid (bchain HB.out hb); clear hb)
        go_ret
        exact ⟨_, rfl, .inr ⟨k, rfl, hlt, HQ.out, HN.out⟩, HB2.out⟩
      | false =>
        rw [hq] at hcall
        have HQ := Lib.hid hq
        have HCA := Lib.hid hcall
        clear hq hcall
        go_wp2_with (go_at_fn gf; refine HCA.out.mono ?_; rintro e w2 ⟨rfl, hb⟩; have HB2 := Lib.hid (bchain HB.out hb); clear hb)
        exact ⟨⟨k + 1, by go_num, by omega, Lib.hid (fun i hi => by
          by_cases e : i = k
          · rw [e]; exact HQ.out
          · exact HN.out i (by omega)), HB2⟩, by simp [intOf]; omega⟩
    · obtain rfl : k = n := by omega
      have T1 : decide ((k : Int) < (k : Int)) = false := by simp
      go_wp2_with fail
      go_ret
      exact ⟨_, rfl, .inl ⟨rfl, HN.out⟩, HB.out⟩
set_option maxHeartbeats 1000000 in
theorem containsFuncW_any (A : Option Addr) (n c : Nat) (hn : n ≤ 2097152) (gf : Nat) (lb : Array Value) (hg : ∀ args w, (callFunc gf args).run Try.prog w = .ok (.enter gf args) w) (us : Nat → Value) (p : Nat → Bool) (w : World)
    (hc : 0 < n → ∃ b off, A = some ⟨b, off, none⟩ ∧ b < w.heap.size ∧ ∀ i, i < n → w.cell? ⟨b, off + i, none⟩ = some (us i)) (hp : TestAt gf lb us p n w) :
    Calls Try.prog 130 #[.slice A n c, .func (.func gf) #[] lb] w fun e w' => e = .returned (.bool (anyN p n)) ∧ Below w.heap.size w w' := by
  have HC := Lib.hid hc; clear hc
  have HP := Lib.hid hp; clear hp
  obtain ⟨bv, hbv⟩ : ∃ bv, bv = anyN p n := ⟨_, rfl⟩
  rw [← hbv]
  have HBV := Lib.hid hbv
  clear hbv
  go_enter Try.func130, Try.ntmps130
  go_wp2_with fail
  refine (indexFuncW_any A n c hn gf lb hg us p _ HC.out HP.out).mono ?_
  rintro e w2 ⟨r, rfl, hr, hb⟩
  have hr2 := hr.any
  rw [← HBV.out] at hr2
  have HB := Lib.hid hb
  clear hb hr
  go_wp2_with fail
  go_ret
  exact ⟨by first | rw [hr2] | rfl, HB.out⟩
/-- the words' values and the lists, by their places -/
theorem WS.open {w : World} {v : Value} {gs : List (List Int)} (h : WS w v gs) : ∃ (A : Option Addr) (c : Nat) (us : Nat → Value), v = .slice A gs.length c ∧ (0 < gs.length → ∃ b off, A = some ⟨b, off, none⟩ ∧ b < w.heap.size ∧ ∀ i, i < gs.length → w.cell? ⟨b, off + i, none⟩ = some (us i)) ∧ (∀ i, i < gs.length → NS w (us i) (gs.getD i [])) := by
  obtain ⟨A, c, hv, hc⟩ := h
  by_cases h0 : 0 < gs.length
  · obtain ⟨b, off, rfl, hlt, hcell⟩ := hc h0
    refine ⟨_, c, fun i => (w.cell? ⟨b, off + i, none⟩).getD .nilFunc, hv, fun _ => ⟨b, off, rfl, hlt, fun i hi => ?_⟩, fun i hi => ?_⟩
    · obtain ⟨u, h1, _⟩ := hcell i hi
      show _ = some ((w.cell? ⟨b, off + i, none⟩).getD .nilFunc)
      rw [h1]; rfl
    · obtain ⟨u, h1, h2⟩ := hcell i hi
      show NS w ((w.cell? ⟨b, off + i, none⟩).getD .nilFunc) _
      rw [h1]; exact h2
  · exact ⟨A, c, fun _ => .nilFunc, hv, fun h => absurd h h0, fun i hi => absurd hi (by omega)⟩
theorem inU_of {w : World} {v : Value} {zs : List Int} (h : NS w v zs) : inU zs := h.all
theorem NS.form {w : World} {v : Value} {zs : List Int} (h : NS w v zs) : ∃ A c, v = .slice A zs.length c := by
  obtain ⟨A, c, e, _⟩ := h
  exact ⟨A, c, e⟩
/-- the test: is a word of another length than the first one? -/
def ol (gs : List (List Int)) (i : Nat) : Bool := decide ((gs.getD i []).length ≠ (gs.getD 0 []).length)
theorem ol_any (gs : List (List Int)) : (!anyN (ol gs) gs.length) = lnB gs := by
  by_cases h : lnB gs = true
  · rw [h, anyN_no]; · rfl
    intro i hi
    unfold lnB at h
    rw [List.all_eq_true] at h
    have := h gs[i] (List.getElem_mem hi)
    unfold ol
    simp [List.getD, hi] at this ⊢
    exact of_decide_eq_true this
  · have h' : lnB gs = false := by simpa using h
    rw [h']
    unfold lnB at h'
    rw [List.all_eq_false] at h'
    obtain ⟨zs, hz, h2⟩ := h'
    obtain ⟨i, hi, rfl⟩ := List.mem_iff_getElem.1 hz
    rw [anyN_yes (k := i) hi]; · rfl
    unfold ol
    simp [List.getD, hi] at h2 ⊢
    exact of_decide_eq_false h2
set_option maxHeartbeats 1000000 in
theorem otherLen_any (A A0 : Option Addr) (c c0 n l : Nat) (b off k : Nat) (gl : Nat) (w : World) (hl : l ≤ 1048576) (hgl : gl ≤ 1048576) (hk : 0 < k)
    (hbox : w.cell? ⟨b, 0, none⟩ = some (.slice (some ⟨n, off, none⟩) k c0)) (h0 : w.cell? ⟨n, off, none⟩ = some (.slice A0 gl c)) (cA : Nat) :
    Calls Try.prog 154 #[.slice A l cA, .pointer (some ⟨b, 0, none⟩)] w fun e w' => e = .returned (.bool (decide (l ≠ gl))) ∧ Below w.heap.size w w' := by
  have i1 : (0 : Int) < (k : Int) := by omega
  obtain ⟨bv, hbv⟩ : ∃ bv, bv = decide (l ≠ gl) := ⟨_, rfl⟩
  have T1 : ((l : Int) != (gl : Int)) = bv := by
    rw [hbv, Bool.eq_iff_iff, bne_iff_ne]; simp; omega
  rw [← hbv]
  clear hbv
  go_enter Try.func154, Try.ntmps154
  go_wp2_with fail
  go_ret
  exact ⟨by first | rw [T1] | rfl, Below.refl _ _⟩
set_option maxHeartbeats 2000000 in
theorem haveOne_any (v : Value) (gs : List (List Int)) (hn : gs.length ≤ 2097152) (hm : ∀ i, i < gs.length → (gs.getD i []).length ≤ 1048576) (w : World) (h : WS w v gs) :
    Calls Try.prog 131 #[v] w fun e w' => e = .returned (.bool (lnB gs)) ∧ Below w.heap.size w w' := by
  obtain ⟨A, c, us, rfl, hc, hu⟩ := h.open
  have hbox : (w.alloc (.cells #[.slice A gs.length c] 44)).cell? ⟨w.heap.size, 0, none⟩ = some (.slice A gs.length c) := by simp
  obtain ⟨w1, hw1⟩ : ∃ w1, w1 = w.alloc (.cells #[.slice A gs.length c] 44) := ⟨_, rfl⟩
  have hb1 : Below w.heap.size w w1 := by rw [hw1]; exact (Below.refl _ _).alloc (Nat.le_refl _) _
  have hlt1 : w.heap.size < w1.heap.size := by rw [hw1]; simp
  rw [← hw1] at hbox
  have hc1 : 0 < gs.length → ∃ b off, A = some ⟨b, off, none⟩ ∧ b < w1.heap.size ∧ ∀ i, i < gs.length → w1.cell? ⟨b, off + i, none⟩ = some (us i) := fun h0 => by
    obtain ⟨b, off, e, hlt, hcell⟩ := hc h0
    exact ⟨b, off, e, Nat.lt_of_lt_of_le hlt hb1.size, fun i hi => (hb1.cell (p := ⟨b, off + i, none⟩) hlt).trans (hcell i hi)⟩
  have htest : TestAt 154 #[.pointer (some ⟨w.heap.size, 0, none⟩)] us (ol gs) gs.length w1 := by
    intro i W hi hW
    obtain ⟨b, off, rfl, hlt, hcell⟩ := hc1 (by omega)
    obtain ⟨Ai, ci, ei⟩ := (hu i hi).form
    obtain ⟨A0, c0, e0⟩ := (hu 0 (by omega)).form
    have h0 := (hW.cell (p := ⟨b, off + 0, none⟩) hlt).trans (hcell 0 (by omega))
    have hb := (hW.cell (p := ⟨w.heap.size, 0, none⟩) hlt1).trans hbox
    rw [e0] at h0
    rw [ei]
    exact otherLen_any Ai A0 c0 c b (gs.getD i []).length w.heap.size off gs.length (gs.getD 0 []).length W (hm i hi) (hm 0 (by omega)) (by omega) hb h0 ci
  have hg : ∀ args w, (callFunc 154 args).run Try.prog w = .ok (.enter 154 args) w := enters_of Try.func154 (by kernel_rfl) rfl
  have hcf := containsFuncW_any A gs.length c hn 154 #[.pointer (some ⟨w.heap.size, 0, none⟩)] hg us (ol gs) w1 hc1 htest
  obtain ⟨bv, hbv⟩ : ∃ bv, bv = anyN (ol gs) gs.length := ⟨_, rfl⟩
  have hres : lnB gs = !bv := by rw [hbv]; exact (ol_any gs).symm
  rw [← hbv] at hcf
  rw [hres]
  have HCF := Lib.hid hcf
  have HW1 := Lib.hid hw1
  have HB1 := Lib.hid hb1
  clear hcf hw1 hb1 hbv hres htest hc1 hu hc hbox h hlt1 hg
  go_enter Try.func131, Try.ntmps131
  go_wp2_with fail
  rw [← HW1.out]
  refine HCF.out.mono ?_
  rintro e w2 ⟨rfl, hb⟩
  have HB := Lib.hid (bchain HB1.out hb)
  clear hb
  go_wp2_with fail
  go_ret
  exact ⟨rfl, HB.out⟩
/-- the code of words without a base -/
def lenC (gs : List (List Int)) : Int := if lnB gs then (if (gs.getD 0 []).length ≤ 7 then 0 else 3) else 2
set_option maxHeartbeats 1000000 in
theorem checkLengths_any (v : Value) (gs : List (List Int)) (h1 : 0 < gs.length) (hn : gs.length ≤ 2097152) (hm : ∀ i, i < gs.length → (gs.getD i []).length ≤ 1048576) (w : World) (h : WS w v gs) :
    Calls Try.prog 81 #[v] w fun e w' => e = .returned (.int .i64 (lenC gs)) ∧ Below w.heap.size w w' := by
  have HW := Lib.hid h
  obtain ⟨A, c, us, rfl, hc, hu⟩ := h.open
  obtain ⟨b, off, rfl, hlt, hcell⟩ := hc h1
  obtain ⟨A0, c0, e0⟩ := (hu 0 h1).form
  have q0 := hcell 0 h1
  rw [e0] at q0
  obtain ⟨l, hl⟩ : ∃ l, l = (gs.getD 0 []).length := ⟨_, rfl⟩
  rw [← hl] at q0
  have hlb : l ≤ 1048576 := by rw [hl]; exact hm 0 h1
  have hM := Lib.hid hm
  obtain ⟨cd, hcd⟩ : ∃ cd, cd = lenC gs := ⟨_, rfl⟩
  rw [← hcd]
  unfold lenC at hcd
  rw [← hl] at hcd
  have i1 : (0 : Int) < (gs.length : Int) := by omega
  by_cases ho : lnB gs = true
  · rw [ho] at hcd
    have HO := Lib.hid ho
    by_cases h7 : l ≤ 7
    · have hcd2 : cd = 0 := by rw [hcd, if_pos rfl, if_pos h7]
      have T2 : decide ((7 : Int) < (l : Int)) = false := by simp; omega
      subst hcd2
      clear hcd hl e0 hcell hu hc hm ho h
      go_enter Try.func81, Try.ntmps81
      go_wp2_with fail
      refine (haveOne_any _ gs hn hM.out _ HW.out).mono ?_
      rintro e w2 ⟨rfl, hb⟩
      rw [HO.out]
      have q1 : w2.cell? ⟨b, off, none⟩ = some (.slice A0 l c0) := (hb.cell (p := ⟨b, off, none⟩) hlt).trans q0
      have HB := Lib.hid hb
      clear hb
      go_wp2_with fail
      go_ret
      exact ⟨rfl, HB.out⟩
    · have hcd2 : cd = 3 := by rw [hcd, if_pos rfl, if_neg h7]
      have T2 : decide ((7 : Int) < (l : Int)) = true := by simp; omega
      subst hcd2
      clear hcd hl e0 hcell hu hc hm ho h
      go_enter Try.func81, Try.ntmps81
      go_wp2_with fail
      refine (haveOne_any _ gs hn hM.out _ HW.out).mono ?_
      rintro e w2 ⟨rfl, hb⟩
      rw [HO.out]
      have q1 : w2.cell? ⟨b, off, none⟩ = some (.slice A0 l c0) := (hb.cell (p := ⟨b, off, none⟩) hlt).trans q0
      have HB := Lib.hid hb
      clear hb
      go_wp2_with fail
      go_ret
      exact ⟨rfl, HB.out⟩
  · have ho' : lnB gs = false := by simpa using ho
    have hcd2 : cd = 2 := by rw [hcd, ho', if_neg (by decide)]
    subst hcd2
    have HO := Lib.hid ho'
    clear hcd hl e0 hcell hu hc hm ho ho' h
    go_enter Try.func81, Try.ntmps81
    go_wp2_with fail
    refine (haveOne_any _ gs hn hM.out _ HW.out).mono ?_
    rintro e w2 ⟨rfl, hb⟩
    rw [HO.out]
    have HB := Lib.hid hb
    clear hb
    go_wp2_with fail
    go_ret
    exact ⟨rfl, HB.out⟩
theorem lenC_two (xs ys : List Int) : lenC [xs, ys] = twoC xs ys := by
  unfold lenC twoC lnB
  by_cases h : xs.length = ys.length
  · simp [h]
  · simp [h, Ne.symm h]
theorem lenC_one (xs : List Int) : lenC [xs] = oneC xs := by
  unfold lenC oneC lnB
  simp
theorem check1L (v : Value) (zs : List Int) (hn : zs.length ≤ 1048576) (w : World) (h : NS w v zs) :
    Calls Try.prog 81 #[.slice (some ⟨w.heap.size, 0, none⟩) 1 1] (w.alloc (.cells #[v] 25)) fun e w' => e = .returned (.int .i64 (oneC zs)) ∧ Below w.heap.size w w' := by
  rw [← lenC_one]
  have hb : Below w.heap.size w (w.alloc (.cells #[v] 25)) := (Below.refl _ _).alloc (Nat.le_refl _) _
  refine (checkLengths_any (.slice (some ⟨w.heap.size, 0, none⟩) 1 1) [zs] (by simp) (by simp) (fun i hi => ?_) _ (WS.row (vs := [v]) (gs := [zs]) (heap_alloc_new w _) (by simp) 1 (fun i hi => ?_))).mono ?_
  · obtain rfl : i = 0 := by simp at hi; exact hi
    simpa using hn
  · obtain rfl : i = 0 := by simp at hi; exact hi
    exact ⟨v, rfl, by simpa using h.below hb⟩
  · rintro e w' ⟨rfl, hb2⟩
    exact ⟨rfl, bchain hb hb2⟩
theorem check2L (v u : Value) (xs ys : List Int) (hn : xs.length ≤ 1048576) (hn2 : ys.length ≤ 1048576) (w : World) (h : NS w v xs) (h' : NS w u ys) :
    Calls Try.prog 81 #[.slice (some ⟨w.heap.size, 0, none⟩) 2 2] (w.alloc (.cells #[v, u] 25)) fun e w' => e = .returned (.int .i64 (twoC xs ys)) ∧ Below w.heap.size w w' := by
  rw [← lenC_two]
  have hb : Below w.heap.size w (w.alloc (.cells #[v, u] 25)) := (Below.refl _ _).alloc (Nat.le_refl _) _
  refine (checkLengths_any (.slice (some ⟨w.heap.size, 0, none⟩) 2 2) [xs, ys] (by simp) (by simp) (fun i hi => ?_) _ (WS.row (vs := [v, u]) (gs := [xs, ys]) (heap_alloc_new w _) (by simp) 2 (fun i hi => ?_))).mono ?_
  · match i, hi with
    | 0, _ => simpa using hn
    | 1, _ => simpa using hn2
    | i + 2, hi => simp at hi; omega
  · match i, hi with
    | 0, _ => exact ⟨v, rfl, by simpa using h.below hb⟩
    | 1, _ => exact ⟨u, rfl, by simpa using h'.below hb⟩
    | i + 2, hi => simp at hi; omega
  · rintro e w' ⟨rfl, hb2⟩
    exact ⟨rfl, bchain hb hb2⟩
theorem l06Two_any (A A' : Option Addr) (c c' : Nat) (xs ys : List Int) (hn : xs.length ≤ 1048576) (hn2 : ys.length ≤ 1048576) (w : World) :
    Calls Try.prog 79 #[.slice A xs.length c, .slice A' ys.length c'] w fun e w' => e = .returned (.int .i64 (twoC xs ys)) ∧ w = w' := by
  obtain ⟨cd, hcd⟩ : ∃ cd, cd = twoC xs ys := ⟨_, rfl⟩
  rw [← hcd]
  obtain ⟨a, ha⟩ : ∃ a, a = xs.length := ⟨_, rfl⟩
  obtain ⟨b, hb⟩ : ∃ b, b = ys.length := ⟨_, rfl⟩
  unfold twoC at hcd
  rw [← ha, ← hb] at hcd
  rw [← ha] at hn ⊢
  rw [← hb] at hn2 ⊢
  clear ha hb
  by_cases h1 : a = b
  · have T1 : ((a : Int) != (b : Int)) = false := by rw [h1]; simp
    by_cases h7 : a ≤ 7
    · rw [if_pos h1, if_pos h7] at hcd
      subst hcd
      have T2 : decide ((7 : Int) < (a : Int)) = false := by simp; omega
      clear h1
      go_enter Try.func79, Try.ntmps79
      go_wp2_with fail
      go_ret
      exact ⟨rfl, rfl⟩
    · rw [if_pos h1, if_neg h7] at hcd
      subst hcd
      have T2 : decide ((7 : Int) < (a : Int)) = true := by simp; omega
      clear h1
      go_enter Try.func79, Try.ntmps79
      go_wp2_with fail
      go_ret
      exact ⟨rfl, rfl⟩
  · rw [if_neg h1] at hcd
    subst hcd
    have T1 : ((a : Int) != (b : Int)) = true := by rw [bne_iff_ne]; omega
    go_enter Try.func79, Try.ntmps79
    go_wp2_with fail
    go_ret
    exact ⟨rfl, rfl⟩
set_option maxHeartbeats 1000000 in
theorem spec_ApartOf (v u : Value) (xs ys : List Int) (hn : xs.length ≤ 1048576) (hn2 : ys.length ≤ 1048576) (w : World) (h : NS w v xs) (h' : NS w u ys) :
    Calls Try.prog 31 #[v, u] w fun e w' => e = .returned (.tuple #[.int .i64 (apI xs ys), .int .i64 (twoC xs ys)]) ∧ Below w.heap.size w w' := by
  have HN := Lib.hid h
  have HN' := Lib.hid h'
  obtain ⟨A, c, rfl⟩ := h.form
  obtain ⟨A', c', rfl⟩ := h'.form
  obtain ⟨cd, hcd⟩ : ∃ cd, cd = twoC xs ys := ⟨_, rfl⟩
  rw [← hcd]
  by_cases h0 : cd = 0
  · have h1 := twoC_zero (hcd ▸ h0)
    rw [apI_yes (hcd ▸ h0)]
    obtain ⟨t, ht⟩ : ∃ t, t = apN xs ys := ⟨_, rfl⟩
    rw [← ht]
    have HT := Lib.hid ht
    clear ht
    have HL := Lib.hid h1
    have HCD := Lib.hid hcd
    subst h0
    clear hcd h1 h h'
    go_enter Try.func31, Try.ntmps31
    go_wp2_with fail
    refine (l06Two_any A A' c c' xs ys hn hn2 _).mono ?_
    rintro e w' ⟨rfl, rfl⟩
    rw [← HCD.out]
    go_wp2_with fail
    refine (l06Apart_any _ _ xs ys hn HL.out.1 _ HN.out HN'.out).mono ?_
    rintro e w' ⟨rfl, m, rfl⟩
    rw [← HT.out]
    go_wp2_with fail
    go_ret2
    exact ⟨rfl, bdrewN (Below.refl _ _) m⟩
  · rw [apI_no (hcd ▸ h0)]
    have HCD := Lib.hid hcd
    have T1 : (cd != 0) = true := by rw [bne_iff_ne]; exact h0
    clear hcd h0 h h'
    go_enter Try.func31, Try.ntmps31
    go_wp2_with fail
    refine (l06Two_any A A' c c' xs ys hn hn2 _).mono ?_
    rintro e w' ⟨rfl, rfl⟩
    rw [← HCD.out]
    go_wp2_with fail
    go_ret2
    exact ⟨rfl, Below.refl _ _⟩
set_option maxHeartbeats 1000000 in
theorem impl_ApartOf (v u : Value) (xs ys : List Int) (hn : xs.length ≤ 1048576) (hn2 : ys.length ≤ 1048576) (w : World) (h : NS w v xs) (h' : NS w u ys) :
    Calls Try.prog 32 #[v, u] w fun e w' => e = .returned (.tuple #[.int .i64 (apI xs ys), .int .i64 (twoC xs ys)]) ∧ Below w.heap.size w w' := by
  have HC2 := Lib.hid (check2L v u xs ys hn hn2 w h h')
  have HN := Lib.hid h
  have HN' := Lib.hid h'
  obtain ⟨A, c, rfl⟩ := h.form
  obtain ⟨A', c', rfl⟩ := h'.form
  obtain ⟨cd, hcd⟩ : ∃ cd, cd = twoC xs ys := ⟨_, rfl⟩
  rw [← hcd]
  by_cases h0 : cd = 0
  · have h1 := twoC_zero (hcd ▸ h0)
    rw [apI_yes (hcd ▸ h0)]
    obtain ⟨t, ht⟩ : ∃ t, t = apN xs ys := ⟨_, rfl⟩
    rw [← ht]
    have HT := Lib.hid ht
    clear ht
    have HL := Lib.hid h1
    have HCD := Lib.hid hcd
    subst h0
    clear hcd h1 h h'
    go_enter Try.func32, Try.ntmps32
    go_wp2_with fail
    refine HC2.out.mono ?_
    rintro e w1 ⟨rfl, hb⟩
    rw [← HCD.out]
    have HB := Lib.hid hb
    clear hb
    go_wp2_with fail
    refine (apart_any _ _ xs ys hn HL.out.1 _ (HN.out.below HB.out) (HN'.out.below HB.out)).mono ?_
    rintro e w' ⟨rfl, m, rfl⟩
    rw [← HT.out]
    go_wp2_with fail
    go_ret2
    exact ⟨rfl, bdrewN HB.out m⟩
  · rw [apI_no (hcd ▸ h0)]
    have HCD := Lib.hid hcd
    have T1 : (cd != 0) = true := by rw [bne_iff_ne]; exact h0
    clear hcd h0 h h'
    go_enter Try.func32, Try.ntmps32
    go_wp2_with fail
    refine HC2.out.mono ?_
    rintro e w1 ⟨rfl, hb⟩
    rw [← HCD.out]
    have HB := Lib.hid hb
    clear hb
    go_wp2_with fail
    go_ret2
    exact ⟨rfl, HB.out⟩
end Go.Proofs.Ythhjhfkcgokffaa
