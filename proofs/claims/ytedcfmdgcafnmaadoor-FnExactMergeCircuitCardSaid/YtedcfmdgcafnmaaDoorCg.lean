/-
  ValidCircuit of the model and of the program.
-/
import Derived.Test.YtedcfmdgcafnmaaDoorCc
import Derived.Test.YtedcfmdgcafnmaaDoorCd
import Derived.Test.YtedcfmdgcafnmaaDoorCf
namespace Go.Proofs.YtedcfmdgcafnmaaDoor
set_option linter.unusedVariables false
set_option linter.unusedSimpArgs false
open Go.ChangeShapes Go.WideShapes Go.ChangeAt Go.RowKit Go.Deep

/-- what slices.IndexFunc answers: the first of n places of which p holds -/
def IsFirst (p : Nat → Bool) (n : Nat) (r : Int) : Prop :=
  (r = -1 ∧ ∀ i, i < n → p i = false) ∨ (∃ k : Nat, r = (k : Int) ∧ k < n ∧ p k = true ∧ ∀ i, i < k → p i = false)
def anyN (p : Nat → Bool) (n : Nat) : Bool := (List.range n).any p
theorem anyN_no {p : Nat → Bool} {n : Nat} (h : ∀ i, i < n → p i = false) : anyN p n = false := by
  unfold anyN
  rw [List.any_eq_false]
  intro i hi
  rw [h i (List.mem_range.1 hi)]; decide
theorem anyN_yes {p : Nat → Bool} {n k : Nat} (hk : k < n) (h : p k = true) : anyN p n = true := by
  unfold anyN
  rw [List.any_eq_true]
  exact ⟨k, List.mem_range.2 hk, h⟩
theorem IsFirst.any {p : Nat → Bool} {n : Nat} {r : Int} (h : IsFirst p n r) : decide (0 ≤ r) = anyN p n := by
  rcases h with ⟨rfl, h⟩ | ⟨k, rfl, hk, h, _⟩
  · rw [anyN_no h]; decide
  · rw [anyN_yes hk h]; simp
/-- what is asked of a test that is handed over -/
def TestAt (gf : Nat) (lb : Array Value) (us : Nat → Value) (p : Nat → Bool) (n : Nat) (w : World) : Prop :=
  ∀ (i : Nat) (W : World), i < n → Below w.heap.size w W → Calls Tryd.prog gf (#[us i] ++ lb) W fun e W' => e = .returned (.bool (p i)) ∧ Below W.heap.size W W'
theorem TestAt.below {gf n : Nat} {lb : Array Value} {us : Nat → Value} {p : Nat → Bool} {w w1 : World} (h : TestAt gf lb us p n w) (hb : Below w.heap.size w w1) : TestAt gf lb us p n w1 :=
  fun i W hi hW => h i W hi (bch hb hW)
set_option maxHeartbeats 1000000 in
theorem indexFuncI_any (A : Option Addr) (n c : Nat) (hn : n ≤ 1048576) (gf : Nat) (lb : Array Value) (hg : ∀ args w, (callFunc gf args).run Tryd.prog w = .ok (.enter gf args) w) (us : Nat → Value) (p : Nat → Bool) (w : World)
    (hc : 0 < n → ∃ b off, A = some ⟨b, off, none⟩ ∧ b < w.heap.size ∧ ∀ i, i < n → w.cell? ⟨b, off + i, none⟩ = some (us i)) (hp : TestAt gf lb us p n w) :
    Calls Tryd.prog 135 #[.slice A n c, .func (.func gf) #[] lb] w fun e w' => ∃ r : Int, e = .returned (.int .i64 r) ∧ IsFirst p n r ∧ Below w.heap.size w w' := by
  have HC := Lib.hid hc; clear hc
  have HP := Lib.hid hp; clear hp
  go_enter Tryd.func135, Tryd.ntmps135
  go_wp2_with fail
  go_loopw [8] (fun y wr => ∃ k : Nat, y = .int .i64 (k : Int) ∧ k ≤ n ∧ Hid (∀ i, i < k → p i = false) ∧ Hid (Below w.heap.size w wr)) (fun y _ => n - (intOf y).toNat)
  case atStart => exact ⟨0, rfl, Nat.zero_le _, Lib.hid (fun i hi => absurd hi (by omega)), Lib.hid (Below.refl _ _)⟩
  case round =>
    obtain ⟨k, rfl, hk, HN, HB⟩ := hrel
    by_cases hlt : k < n
    · obtain ⟨b, off, rfl, hlb, hcell⟩ := HC.out (by omega)
      have i1 : (k : Int) < (n : Int) := by omega
      have q1 : wr.cell? ⟨b, off + k, none⟩ = some (us k) := (HB.out.cell (p := ⟨b, off + k, none⟩) hlb).trans (hcell k hlt)
      have hcall := HP.out k wr hlt HB.out
      obtain ⟨u, hu⟩ : ∃ u, u = us k := ⟨_, rfl⟩
      rw [← hu] at q1 hcall
      have HCL := Lib.hid hcell
      clear hcell hu
      cases hq : p k with
      | true =>
        rw [hq] at hcall
        have HQ := Lib.hid hq
        have HCA := Lib.hid hcall
        clear hq hcall
        go_wp2_with (go_at_fn gf; refine HCA.out.mono ?_; rintro e w2 ⟨rfl, hb⟩; have HB2 := Lib.hid (bch HB.out hb); clear hb)
        go_ret
        exact ⟨_, rfl, .inr ⟨k, rfl, hlt, HQ.out, HN.out⟩, HB2.out⟩
      | false =>
        rw [hq] at hcall
        have HQ := Lib.hid hq
        have HCA := Lib.hid hcall
        clear hq hcall
        go_wp2_with (go_at_fn gf; refine HCA.out.mono ?_; rintro e w2 ⟨rfl, hb⟩; have HB2 := Lib.hid (bch HB.out hb); clear hb)
        exact ⟨⟨k + 1, by go_num, by omega, Lib.hid (fun i hi => by
          by_cases e : i = k
          · rw [e]; exact HQ.out
          · exact HN.out i (by omega)), HB2⟩, by simp [intOf]; omega⟩
    · obtain rfl : k = n := by omega
      have T1 : decide ((k : Int) < (k : Int)) = false := by simp
      go_wp2_with fail
      go_ret
      exact ⟨_, rfl, .inl ⟨rfl, HN.out⟩, HB.out⟩
set_option maxHeartbeats 1000000 in
theorem containsFuncI_any (A : Option Addr) (n c : Nat) (hn : n ≤ 1048576) (gf : Nat) (lb : Array Value) (hg : ∀ args w, (callFunc gf args).run Tryd.prog w = .ok (.enter gf args) w) (us : Nat → Value) (p : Nat → Bool) (w : World)
    (hc : 0 < n → ∃ b off, A = some ⟨b, off, none⟩ ∧ b < w.heap.size ∧ ∀ i, i < n → w.cell? ⟨b, off + i, none⟩ = some (us i)) (hp : TestAt gf lb us p n w) :
    Calls Tryd.prog 95 #[.slice A n c, .func (.func gf) #[] lb] w fun e w' => e = .returned (.bool (anyN p n)) ∧ Below w.heap.size w w' := by
  have HC := Lib.hid hc; clear hc
  have HP := Lib.hid hp; clear hp
  obtain ⟨bv, hbv⟩ : ∃ bv, bv = anyN p n := ⟨_, rfl⟩
  rw [← hbv]
  have HBV := Lib.hid hbv
  clear hbv
  go_enter Tryd.func95, Tryd.ntmps95
  go_wp2_with fail
  refine (indexFuncI_any A n c hn gf lb hg us p _ HC.out HP.out).mono ?_
  rintro e w2 ⟨r, rfl, hr, hb⟩
  have hr2 := hr.any
  rw [← HBV.out] at hr2
  have HB := Lib.hid hb
  clear hb hr
  go_wp2_with fail
  go_ret
  exact ⟨by first | rw [hr2] | rfl, HB.out⟩

theorem circ_no {n : Int} {gs : List G3} {os : List Int} (h : ¬ (0 ≤ n ∧ n ≤ 16 ∧ gs.length ≤ 600 ∧ os.length ≤ 16)) : circB n gs os = false := by
  unfold circB
  exact decide_eq_false (fun q => h ⟨q.1, q.2.1, q.2.2.1, q.2.2.2.1⟩)
theorem circ_yes {n : Int} {gs : List G3} {os : List Int} (h : 0 ≤ n ∧ n ≤ 16 ∧ gs.length ≤ 600 ∧ os.length ≤ 16) (h1 : ∀ i, i < gs.length → gateB n i (gs.getD i gz) = true) (h2 : ∀ i, i < os.length → idxB (os.getD i 0) gs.length = true) : circB n gs os = true := by
  unfold circB
  exact decide_eq_true ⟨h.1, h.2.1, h.2.2.1, h.2.2.2, h1, h2⟩
set_option maxRecDepth 100000 in
set_option maxHeartbeats 4000000 in
theorem l07Ok_any (g : Nat) (n : Int) (G O : Value) (gs : List G3) (os : List Int) (w : World) (hB : BX w g (.int .i8 n) G O) (hn : -128 ≤ n ∧ n < 128) (hg : GL w G gs) (ho : IL w O os) :
    Calls Tryd.prog 43 #[.pointer (some ⟨g, 0, none⟩)] w fun e w' => e = .returned (.bool (circB n gs os)) ∧ Below w.heap.size w w' := by
  have HG := Lib.hid hg; have HO := Lib.hid ho; have HX := Lib.hid hB
  have lg := hg.long; have lo := ho.long
  obtain ⟨A, c, rfl⟩ := hg.form
  obtain ⟨A2, c2, rfl⟩ := ho.form
  have c0 := hB.c0; have c1 := hB.c1; have c2' := hB.c2
  have cv : wrap64 n = n := IntWalk.wrap64_in n (by omega)
  have cv2 : wrap64 ((gs.length : Nat) : Int) = ((gs.length : Nat) : Int) := IntWalk.wrap64_in _ (by omega)
  clear hg ho hB
  obtain ⟨bv, hbv⟩ : ∃ bv, bv = circB n gs os := ⟨_, rfl⟩
  rw [← hbv]
  have HV := Lib.hid hbv
  clear hbv
  go_enter Tryd.func43, Tryd.ntmps43
  go_wp2_with fail
  refine (inC_any n 0 16 _).mono ?_
  rintro e w' ⟨rfl, hw⟩; rw [hw]; clear hw w'
  by_cases q : 0 ≤ n ∧ n ≤ 16
  rotate_left
  · rw [decide_eq_false q]
    have hF : bv = false := by rw [HV.out]; exact circ_no (fun h => q ⟨h.1, h.2.1⟩)
    subst hF
    go_wp2_with fail
    go_ret
    exact ⟨rfl, Below.refl _ _⟩
  rw [decide_eq_true q]
  by_cases q2 : gs.length ≤ 600
  rotate_left
  · have T2 : decide ((600 : Int) < (gs.length : Int)) = true := by simp; omega
    have hF : bv = false := by rw [HV.out]; exact circ_no (fun h => q2 h.2.2.1)
    subst hF
    go_wp2_with fail
    go_ret
    exact ⟨rfl, Below.refl _ _⟩
  have T2 : decide ((600 : Int) < (gs.length : Int)) = false := by simp; omega
  by_cases q3 : os.length ≤ 16
  rotate_left
  · have T3 : decide ((16 : Int) < (os.length : Int)) = true := by simp; omega
    have hF : bv = false := by rw [HV.out]; exact circ_no (fun h => q3 h.2.2.2)
    subst hF
    go_wp2_with fail
    go_ret
    exact ⟨rfl, Below.refl _ _⟩
  have T3 : decide ((16 : Int) < (os.length : Int)) = false := by simp; omega
  have Q := Lib.hid (show 0 ≤ n ∧ n ≤ 16 ∧ gs.length ≤ 600 ∧ os.length ≤ 16 from ⟨q.1, q.2, q2, q3⟩)
  have HB0 := Lib.hid (Below.refl w.heap.size w)
  go_wp2_with fail
  go_loopw [4] (fun y wr => ∃ k : Nat, y = .int .i64 (k : Int) ∧ k ≤ gs.length ∧ Hid (∀ i, i < k → gateB n i (gs.getD i gz) = true) ∧ Hid (Below w.heap.size w wr)) (fun y _ => gs.length - (intOf y).toNat)
  case atStart => exact ⟨0, rfl, Nat.zero_le _, Lib.hid (fun i hi => absurd hi (by omega)), HB0⟩
  case round =>
    clear c0 c1 c2' HB0 T2 T3
    obtain ⟨k, rfl, hk, HN, HB⟩ := hrel
    have m := HX.out.below HB.out
    have c0 := m.c0; have c1 := m.c1; have c2' := m.c2
    have M := Lib.hid m
    clear m
    by_cases hlt : k < gs.length
    · obtain ⟨b, off, q, e, hlb, hgw, d0, d1, d2⟩ := (HG.out.below HB.out).at k hlt
      cases e
      obtain ⟨x, hx⟩ : ∃ x, x = gs.getD k gz := ⟨_, rfl⟩
      rw [← hx] at d0 d1 d2 hgw
      have R := range3 d0 d1 d2
      have GWX := Lib.hid hgw
      have HXX := Lib.hid hx
      have T1 : decide ((k : Int) < (gs.length : Int)) = true := by simp; omega
      have i1 : (k : Int) < (gs.length : Int) := by omega
      clear d0 d1 d2 hx hgw
      go_upto_region 7 with fail
      refine wp_region_still_tail 13 (by kernel_rfl) (by kernel_rfl) ?_
      simp only [List.take_succ_cons, List.take_zero, List.drop_succ_cons, List.drop_zero]
      still_step
      still_step
      still_step
      still_step
      still_step
      still_step
      refine stillc_load rfl 67 _ rfl b _ rfl (gc x) _ R Tryd.underlying67 rfl (by kernel_rfl) ?_
      still_step
      still_step
      still_step
      still_step
      still_step
      still_step
      refine wpStill_nil ?_
      change wpList _ _ _ _ _ wr.drew
      go_wp2_with fail
      refine (l07Gate_any x GWX.out k (by have := Q.out; omega) n ⟨Q.out.1, Q.out.2.1⟩ _).mono ?_
      rintro e wn ⟨rfl, hb⟩
      have HB2 := Lib.hid (HB.out.trans (show Below w.heap.size wr wn from (Below.mk hb.os hb.tape hb.output hb.size hb.block : Below wr.heap.size wr wn).mono HB.out.size))
      clear hb R HB c0 c1 c2'
      cases hq : gateB n k x with
      | true =>
        have HN2 := Lib.hid (fun i (hi : i < k + 1) => show gateB n i (gs.getD i gz) = true from by
          by_cases e : i = k
          · rw [e, ← HXX.out]; exact hq
          · exact HN.out i (by omega))
        clear hq
        go_wp2_with fail
        exact ⟨⟨k + 1, by go_num, by omega, HN2, HB2⟩, by simp [intOf]; omega⟩
      | false =>
        have hF : bv = false := by rw [HV.out]; exact circ_gate hlt (by rw [← HXX.out]; exact hq)
        subst hF
        clear hq
        go_wp2_with fail
        go_ret
        exact ⟨rfl, HB2.out⟩
    · obtain rfl : k = gs.length := by omega
      have T1 : decide ((gs.length : Int) < (gs.length : Int)) = false := by simp
      go_wp2_with fail
      go_loopw [5] (fun y wz => ∃ j : Nat, y = .int .i64 (j : Int) ∧ j ≤ os.length ∧ Hid (∀ i, i < j → idxB (os.getD i 0) gs.length = true) ∧ wz = wr) (fun y _ => os.length - (intOf y).toNat)
      case atStart => exact ⟨0, rfl, Nat.zero_le _, Lib.hid (fun i hi => absurd hi (by omega)), rfl⟩
      case round =>
        obtain ⟨j, rfl, hj, HJ, rfl⟩ := hrel
        by_cases hlj : j < os.length
        · obtain ⟨b, off, q, e, hlb, hiw, d0⟩ := (HO.out.below HB.out).at j hlj
          cases e
          obtain ⟨x, hx⟩ : ∃ x, x = os.getD j 0 := ⟨_, rfl⟩
          rw [← hx] at d0 hiw
          unfold IW at hiw
          have HXX := Lib.hid hx
          have T4 : decide ((j : Int) < (os.length : Int)) = true := by simp; omega
          have i1 : (j : Int) < (os.length : Int) := by omega
          have cv3 : wrap64 x = x := IntWalk.wrap64_in x (by omega)
          have cv4 : wrap64 ((gs.length : Int) - 1) = (gs.length : Int) - 1 := IntWalk.wrap64_in _ (by omega)
          clear hx
          go_wp2_with fail
          refine (inC_any x 0 ((gs.length : Int) - 1) _).mono ?_
          rintro e w' ⟨rfl, hw⟩; rw [hw]; clear hw w'
          rw [idxB_eq]
          cases hq : idxB x gs.length with
          | true =>
            have HJ2 := Lib.hid (fun i (hi : i < j + 1) => show idxB (os.getD i 0) gs.length = true from by
              by_cases e : i = j
              · rw [e, ← HXX.out]; exact hq
              · exact HJ.out i (by omega))
            clear hq
            go_wp2_with fail
            exact ⟨⟨j + 1, by go_num, by omega, HJ2, by simp⟩, by simp [intOf]; omega⟩
          | false =>
            have hF : bv = false := by rw [HV.out]; exact circ_out hlj (by rw [← HXX.out]; exact hq)
            subst hF
            clear hq
            go_wp2_with fail
            go_ret
            exact ⟨rfl, HB.out⟩
        · obtain rfl : j = os.length := by omega
          have T4 : decide ((os.length : Int) < (os.length : Int)) = false := by simp
          have hF : bv = true := by rw [HV.out]; exact circ_yes Q.out HN.out HJ.out
          subst hF
          go_wp2_with fail
          go_ret
          exact ⟨rfl, HB.out⟩
/-- the test: is an output no gate? -/
def noG (os : List Int) (m : Nat) (i : Nat) : Bool := !idxB (os.getD i 0) m
set_option maxHeartbeats 1000000 in
theorem isNone_any (x : Int) (hx : IW x) (b : Nat) (A : Option Addr) (m c : Nat) (hm : m ≤ 600) (w : World) (h : w.cell? ⟨b, 1, none⟩ = some (.slice A m c)) :
    Calls Tryd.prog 93 #[.int .i16 x, .pointer (some ⟨b, 0, none⟩)] w fun e w' => e = .returned (.bool (!idxB x m)) ∧ Below w.heap.size w w' := by
  go_enter Tryd.func93, Tryd.ntmps93
  go_wp2_with fail
  refine (isIndex_any x m hx _).mono ?_
  rintro e w' ⟨rfl, hw⟩; rw [hw]; clear hw w'
  have e : decide (0 ≤ x ∧ x < (m : Int)) = idxB x m := rfl
  rw [e]
  clear e
  obtain ⟨z, hz⟩ : ∃ z, z = idxB x m := ⟨_, rfl⟩
  rw [← hz]
  have HZ := Lib.hid hz
  clear hz
  cases z
  · go_wp2_with fail
    go_ret
    exact ⟨by rw [← HZ.out]; rfl, Below.refl _ _⟩
  · go_wp2_with fail
    go_ret
    exact ⟨by rw [← HZ.out]; rfl, Below.refl _ _⟩
set_option maxRecDepth 100000 in
set_option maxHeartbeats 4000000 in
theorem impl_ValidCircuit (v : Value) (n : Int) (gs : List G3) (os : List Int) (w : World) (h : CI w v n gs os) :
    Calls Tryd.prog 35 #[v] w fun e w' => e = .returned (.bool (circB n gs os)) ∧ Below w.heap.size w w' := by
  obtain ⟨G, O, rfl, hn, hg, ho⟩ := h
  have HG := Lib.hid hg; have HO := Lib.hid ho
  have lg := hg.long; have lo := ho.long
  obtain ⟨A, c, rfl⟩ := hg.form
  obtain ⟨A2, c2, rfl⟩ := ho.form
  clear hg ho
  obtain ⟨bv, hbv⟩ : ∃ bv, bv = circB n gs os := ⟨_, rfl⟩
  rw [← hbv]
  have HV := Lib.hid hbv
  clear hbv
  by_cases q1 : 0 ≤ n
  rotate_left
  · have T0 : decide (n < 0) = true := by simp; omega
    have hF : bv = false := by rw [HV.out]; exact circ_no (fun h => q1 h.1)
    subst hF
    go_enter Tryd.func35, Tryd.ntmps35
    go_wp2_with fail
    go_ret
    exact ⟨rfl, (nw1 w _).2.1⟩
  have T0 : decide (n < 0) = false := by simp; omega
  by_cases q2 : n ≤ 16
  rotate_left
  · have T1 : decide (16 < n) = true := by simp; omega
    have hF : bv = false := by rw [HV.out]; exact circ_no (fun h => q2 h.2.1)
    subst hF
    go_enter Tryd.func35, Tryd.ntmps35
    go_wp2_with fail
    go_ret
    exact ⟨rfl, (nw1 w _).2.1⟩
  have T1 : decide (16 < n) = false := by simp; omega
  by_cases q3 : gs.length ≤ 600
  rotate_left
  · have T2 : decide ((600 : Int) < (gs.length : Int)) = true := by simp; omega
    have hF : bv = false := by rw [HV.out]; exact circ_no (fun h => q3 h.2.2.1)
    subst hF
    go_enter Tryd.func35, Tryd.ntmps35
    go_wp2_with fail
    go_ret
    exact ⟨rfl, (nw1 w _).2.1⟩
  have T2 : decide ((600 : Int) < (gs.length : Int)) = false := by simp; omega
  by_cases q4 : os.length ≤ 16
  rotate_left
  · have T3 : decide ((16 : Int) < (os.length : Int)) = true := by simp; omega
    have hF : bv = false := by rw [HV.out]; exact circ_no (fun h => q4 h.2.2.2)
    subst hF
    go_enter Tryd.func35, Tryd.ntmps35
    go_wp2_with fail
    go_ret
    exact ⟨rfl, (nw1 w _).2.1⟩
  have T3 : decide ((16 : Int) < (os.length : Int)) = false := by simp; omega
  have Q := Lib.hid (show 0 ≤ n ∧ n ≤ 16 ∧ gs.length ≤ 600 ∧ os.length ≤ 16 from ⟨q1, q2, q3, q4⟩)
  go_enter Tryd.func35, Tryd.ntmps35
  go_wp2_with fail
  obtain ⟨a1, hb1, s1⟩ := nw1 w (.cells #[.int .i8 n, .slice A gs.length c, .slice A2 os.length c2] 30)
  generalize World.alloc w _ = w1 at a1 hb1 s1 ⊢
  have HX : Hid (BX w1 w.heap.size (.int .i8 n) (.slice A gs.length c) (.slice A2 os.length c2)) := Lib.hid ⟨_, a1⟩
  have HB1 := Lib.hid hb1
  have S1 := Lib.hid s1
  have HB0 := Lib.hid (Below.refl w1.heap.size w1)
  clear a1 hb1 s1 T0 T1 T2 T3
  go_loopw [29] (fun y wr => ∃ k : Nat, y = .int .i64 (k : Int) ∧ k ≤ gs.length ∧ Hid (∀ i, i < k → gateB n i (gs.getD i gz) = true) ∧ Hid (Below w1.heap.size w1 wr)) (fun y _ => gs.length - (intOf y).toNat)
  case atStart => exact ⟨0, rfl, Nat.zero_le _, Lib.hid (fun i hi => absurd hi (by omega)), HB0⟩
  case round =>
    clear HB0
    obtain ⟨k, rfl, hk, HN, HB⟩ := hrel
    have HW := Lib.hid (HB1.out.trans (HB.out.mono HB1.out.size))
    by_cases hlt : k < gs.length
    · obtain ⟨b, off, q, e, hlb, hgw, d0, d1, d2⟩ := (HG.out.below HW.out).at k hlt
      cases e
      obtain ⟨x, hx⟩ : ∃ x, x = gs.getD k gz := ⟨_, rfl⟩
      rw [← hx] at d0 d1 d2 hgw
      have m := HX.out.below HB.out
      have c0 : (wr.alloc (.cells #[.int .i8 x.1, .int .i16 x.2.1, .int .i16 x.2.2] 67)).cell? ⟨w.heap.size, 0, none⟩ = some (.int .i8 n) := (m.below (nw1 wr _).2.1).c0
      have GWX := Lib.hid hgw
      have HXX := Lib.hid hx
      have M := Lib.hid m
      have T1 : decide ((k : Int) < (gs.length : Int)) = true := by simp; omega
      have i1 : (k : Int) < (gs.length : Int) := by omega
      have HBA := Lib.hid (bch HB.out (nw1 wr (.cells #[.int .i8 x.1, .int .i16 x.2.1, .int .i16 x.2.2] 67)).2.1)
      clear hx hgw m
      go_wp2_with fail
      refine (fits_any x GWX.out k (by have := Q.out; omega) n ⟨Q.out.1, Q.out.2.1⟩ _).mono ?_
      rintro e wn ⟨rfl, hb⟩
      have HB2 := Lib.hid (bch HBA.out hb)
      clear hb HB c0 d0 d1 d2 HBA
      cases hq : gateB n k x with
      | true =>
        have HN2 := Lib.hid (fun i (hi : i < k + 1) => show gateB n i (gs.getD i gz) = true from by
          by_cases e : i = k
          · rw [e, ← HXX.out]; exact hq
          · exact HN.out i (by omega))
        clear hq
        go_wp2_with fail
        exact ⟨⟨k + 1, by go_num, by omega, HN2, HB2⟩, by simp [intOf]; omega⟩
      | false =>
        have hF : bv = false := by rw [HV.out]; exact circ_gate hlt (by rw [← HXX.out]; exact hq)
        subst hF
        clear hq
        go_wp2_with fail
        go_ret
        exact ⟨rfl, HB1.out.trans (HB2.out.mono HB1.out.size)⟩
    · obtain rfl : k = gs.length := by omega
      have T1 : decide ((gs.length : Int) < (gs.length : Int)) = false := by simp
      have m := HX.out.below HB.out
      have c2' := m.c2
      have M := Lib.hid m
      clear m
      have hoI := HO.out.below HW.out
      have hc : 0 < os.length → ∃ b off, A2 = some ⟨b, off, none⟩ ∧ b < wr.heap.size ∧ ∀ i, i < os.length → wr.cell? ⟨b, off + i, none⟩ = some (.int .i16 (os.getD i 0)) := fun h0 => by
        obtain ⟨⟨A', c', e, _, hcc⟩, _⟩ := hoI
        cases e
        obtain ⟨b, off, rfl, hlt, hr⟩ := hcc h0
        exact ⟨b, off, rfl, hlt, fun i hi => hr i _ (by simp [i16s, List.getD, hi])⟩
      have hIW : ∀ i, i < os.length → IW (os.getD i 0) := fun i hi => by
        obtain ⟨_, _, _, _, _, hw, _⟩ := hoI.at i hi
        exact hw
      have htest : TestAt 93 #[.pointer (some ⟨w.heap.size, 0, none⟩)] (fun i => .int .i16 (os.getD i 0)) (noG os gs.length) os.length wr := by
        intro i W hi hW
        exact isNone_any (os.getD i 0) (hIW i hi) w.heap.size A gs.length c Q.out.2.2.1 W (M.out.below hW).c1
      have hg : ∀ args w, (callFunc 93 args).run Tryd.prog w = .ok (.enter 93 args) w := enters_of Tryd.func93 (by kernel_rfl) rfl
      have hcf := containsFuncI_any A2 os.length c2 (by have := Q.out; omega) 93 #[.pointer (some ⟨w.heap.size, 0, none⟩)] hg (fun i => .int .i16 (os.getD i 0)) (noG os gs.length) wr hc htest
      obtain ⟨av, hav⟩ : ∃ av, av = anyN (noG os gs.length) os.length := ⟨_, rfl⟩
      have hres : bv = !av := by
        rw [HV.out, hav]
        by_cases hall : ∀ i, i < os.length → idxB (os.getD i 0) gs.length = true
        · rw [circ_yes Q.out HN.out hall, anyN_no (fun i hi => by unfold noG; rw [hall i hi]; rfl)]; rfl
        · obtain ⟨i, hi⟩ := Classical.not_forall.1 hall
          obtain ⟨hi1, hi2⟩ := Classical.not_imp.1 hi
          have hf : idxB (os.getD i 0) gs.length = false := by simpa using hi2
          rw [circ_out hi1 hf, anyN_yes hi1 (by unfold noG; rw [hf]; rfl)]; rfl
      rw [← hav] at hcf
      have HCF := Lib.hid hcf
      have HRES := Lib.hid hres
      clear hcf hav hres htest hc hoI hg hIW
      go_wp2_with fail
      refine HCF.out.mono ?_
      rintro e w2 ⟨rfl, hb⟩
      have HB2 := Lib.hid (bch HB.out hb)
      clear hb
      go_wp2_with fail
      go_ret
      exact ⟨by rw [HRES.out]; rfl, HB1.out.trans (HB2.out.mono HB1.out.size)⟩
end Go.Proofs.YtedcfmdgcafnmaaDoor

