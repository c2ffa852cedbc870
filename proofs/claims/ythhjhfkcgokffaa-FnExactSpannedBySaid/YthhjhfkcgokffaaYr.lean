/-
  Is a list closed under sums, under products?
-/
import Derived.Test.YthhjhfkcgokffaaYq
import Derived.Test.YthhjhfkcgokffaaWe
import Derived.Test.YthhjhfkcgokffaaYd
import Derived.Deep.Cut
namespace Go.Proofs.Ythhjhfkcgokffaa
set_option linter.unusedVariables false
set_option linter.unusedSimpArgs false
open Go.ChangeShapes Go.WideShapes Go.ChangeAt Go.RowKit Go.Shelf

theorem bdrew1 (w : World) : Below w.heap.size w w.drew := drew_b (Below.refl _ w)
def sumsOf (gs : List (List Int)) (i : Nat) : List (List Int) := (List.range gs.length).map fun j => wplus (gs.getD i []) (gs.getD j [])
def prodsOf (n : Int) (gs : List (List Int)) (i : Nat) : List (List Int) := (List.range n.toNat).map fun (a : Nat) => wscale (a : Int) (gs.getD i [])
def csV (n : Int) (gs : List (List Int)) : Bool := if lsC n gs [] = 0 then clB gs (sumsOf gs) gs.length else false
def cpV (n : Int) (gs : List (List Int)) : Bool := if lsC n gs [] = 0 then clB gs (prodsOf n gs) gs.length else false
theorem wplus_comm {xs ys : List Int} (h : xs.length = ys.length) : wplus xs ys = wplus ys xs := by
  unfold wplus
  rw [h]
  exact tab_ext fun i hi => by unfold plusK2; exact xorI_comm _ _
theorem sums_no {gs : List (List Int)} {i k : Nat} (hi : i < gs.length) (hk : k < gs.length) (h : memB gs (wplus (gs.getD i []) (gs.getD k [])) = false) : clB gs (sumsOf gs) gs.length = false := by
  refine clB_no hi ?_
  rw [List.all_eq_false]
  exact ⟨_, List.mem_map.2 ⟨k, List.mem_range.2 hk, rfl⟩, by rw [h]; decide⟩
theorem sums_yes {gs : List (List Int)} (hl : ∀ i, i < gs.length → (gs.getD i []).length = (gs.getD 0 []).length) (h : ∀ i, i < gs.length → ∀ k, k ≤ i → memB gs (wplus (gs.getD i []) (gs.getD k [])) = true) : clB gs (sumsOf gs) gs.length = true := by
  refine clB_yes fun i hi => ?_
  rw [List.all_eq_true]
  intro z hz
  obtain ⟨k, hk, rfl⟩ := List.mem_map.1 hz
  have hk := List.mem_range.1 hk
  by_cases e : k ≤ i
  · exact h i hi k e
  · rw [wplus_comm (by rw [hl i hi, hl k hk])]
    exact h k hk i (by omega)
theorem prods_no {n : Int} {gs : List (List Int)} {i a : Nat} (hi : i < gs.length) (ha : a < n.toNat) (h : memB gs (wscale (a : Int) (gs.getD i [])) = false) : clB gs (prodsOf n gs) gs.length = false := by
  refine clB_no hi ?_
  rw [List.all_eq_false]
  exact ⟨_, List.mem_map.2 ⟨a, List.mem_range.2 ha, rfl⟩, by rw [h]; decide⟩
theorem prods_yes {n : Int} {gs : List (List Int)} (h : ∀ i, i < gs.length → ∀ a : Nat, a < n.toNat → memB gs (wscale (a : Int) (gs.getD i [])) = true) : clB gs (prodsOf n gs) gs.length = true := by
  refine clB_yes fun i hi => ?_
  rw [List.all_eq_true]
  intro z hz
  obtain ⟨a, ha, rfl⟩ := List.mem_map.1 hz
  exact h i hi a (List.mem_range.1 ha)
set_option maxHeartbeats 8000000 in
set_option maxRecDepth 100000 in
theorem spec_ClosedUnderSums (n : Int) (v : Value) (gs : List (List Int)) (hb : -9223372036854775808 ≤ n ∧ n ≤ 9223372036854775807) (hn : gs.length ≤ 1048576) (hm : ∀ i, i < gs.length → (gs.getD i []).length ≤ 1048576) (w : World) (h : WS w v gs) :
    Calls Try.prog 54 #[.int .i64 n, v] w fun e w' => e = .returned (.tuple #[.bool (csV n gs), .int .i64 (lsC n gs [])]) ∧ Below w.heap.size w w' := by
  have HWS := Lib.hid h
  obtain ⟨A, c, us, rfl, hc, hu⟩ := h.open
  have HM := Lib.hid hm
  have HB := Lib.hid hb
  have HC := Lib.hid hc
  have HU := Lib.hid hu
  clear h hc hu hm hb
  by_cases h0 : lsC n gs [] = 0
  case neg =>
    obtain ⟨cd, hcd⟩ : ∃ cd, cd = lsC n gs [] := ⟨_, rfl⟩
    have hv0 : csV n gs = false := by unfold csV; rw [if_neg h0]
    rw [← hcd] at h0 ⊢
    rw [hv0]
    have HCD := Lib.hid hcd
    have T1 : (cd != 0) = true := by rw [bne_iff_ne]; exact h0
    clear hcd h0 hv0
    go_enter Try.func54, Try.ntmps54
    go_wp2_with fail
    refine (l06Listed_any n _ gs hn HM.out HB.out _ HWS.out).mono ?_
    rintro e w' ⟨rfl, m0, rfl⟩
    rw [← HCD.out]
    go_wp2_with fail
    go_ret2
    exact ⟨rfl, bdrewN (Below.refl _ w) m0⟩
  obtain ⟨_, hws, h300⟩ := lsC_ok h0
  rw [List.append_nil] at hws
  have HW := Lib.hid hws
  have H0 := Lib.hid h0
  obtain ⟨bv, hbv⟩ : ∃ bv, bv = csV n gs := ⟨_, rfl⟩
  rw [← hbv, h0]
  have HBV : Hid (bv = clB gs (sumsOf gs) gs.length) := Lib.hid (by rw [hbv]; unfold csV; rw [if_pos h0])
  clear h0 hws hbv
  go_enter Try.func54, Try.ntmps54
  go_wp2_with fail
  refine (l06Listed_any n _ gs hn HM.out HB.out _ HWS.out).mono ?_
  rintro e w1 ⟨rfl, m0, hw1⟩
  have HB1 : Hid (Below w.heap.size w w1) := Lib.hid (by rw [hw1]; exact bdrewN (Below.refl _ w) m0)
  clear hw1
  rw [H0.out]
  go_wp2_with fail
  go_loopw [7] (fun y wr => ∃ i : Nat, y = .int .i64 (i : Int) ∧ i ≤ gs.length ∧ Hid (Below w.heap.size w wr) ∧ Hid (∀ j, j < i → ∀ k, k ≤ j → memB gs (wplus (gs.getD j []) (gs.getD k [])) = true)) (fun y _ => gs.length - (intOf y).toNat)
  case atStart => exact ⟨0, rfl, Nat.zero_le _, HB1, Lib.hid (fun j hj => absurd hj (by omega))⟩
  case round =>
    clear HB1
    obtain ⟨i, rfl, hi, HBI, HI⟩ := hrel
    rename_i wo
    by_cases hlt : i < gs.length
    · have i1 : (i : Int) < (gs.length : Int) := by omega
      go_wp2_with fail
      go_loopw [8] (fun y wr => ∃ k : Nat, y = .int .i64 (k : Int) ∧ k ≤ i + 1 ∧ Hid (Below w.heap.size w wr) ∧ Hid (∀ q, q < k → memB gs (wplus (gs.getD i []) (gs.getD q [])) = true)) (fun y _ => i + 1 - (intOf y).toNat)
      case atStart => exact ⟨0, rfl, Nat.zero_le _, HBI, Lib.hid (fun q hq => absurd hq (by omega))⟩
      case round =>
        clear HBI
        obtain ⟨k, rfl, hk, HBK, HK⟩ := hrel
        by_cases hlt2 : k ≤ i
        · obtain ⟨b, off, rfl, hlb, hcell⟩ := HC.out (by omega)
          have i2 : (k : Int) ≤ (i : Int) := by omega
          have i3 : (k : Int) < (gs.length : Int) := by omega
          have q1 : wr.cell? ⟨b, off + i, none⟩ = some (us i) := (HBK.out.cell (p := ⟨b, off + i, none⟩) hlb).trans (hcell i hlt)
          have q2 : wr.cell? ⟨b, off + k, none⟩ = some (us k) := (HBK.out.cell (p := ⟨b, off + k, none⟩) hlb).trans (hcell k (by omega))
          have n1 := (HU.out i hlt).below HBK.out
          have n2 := (HU.out k (by omega)).below HBK.out
          have l1 := ws_len HW.out hlt
          have l2 := ws_len HW.out (i := k) (by omega)
          have hpl := fun (W : World) (hW : Below wr.heap.size wr W) => l06Plus_any (us i) (us k) (gs.getD i []) (gs.getD k []) (by omega) (by omega) W (n1.below hW) (n2.below hW)
          have hhs := fun (W : World) (hW : Below wr.heap.size wr W) (u : Value) (hu : NS W u (wplus (gs.getD i []) (gs.getD k []))) => l06Has_any _ u gs (wplus (gs.getD i []) (gs.getD k [])) hn HM.out (by unfold wplus; rw [tab_len]; omega) W (HWS.out.below (bchain HBK.out hW)) hu
          obtain ⟨ux, hux⟩ : ∃ u, u = us i := ⟨_, rfl⟩
          obtain ⟨uy, huy⟩ : ∃ u, u = us k := ⟨_, rfl⟩
          obtain ⟨zz, hzz⟩ : ∃ z, z = wplus (gs.getD i []) (gs.getD k []) := ⟨_, rfl⟩
          rw [← hux, ← huy] at hpl
          rw [← hux] at q1
          rw [← huy] at q2
          rw [← hzz] at hhs
          rw [show tab (gs.getD i []).length (plusK2 (gs.getD i []) (gs.getD k [])) = wplus (gs.getD i []) (gs.getD k []) from rfl, ← hzz] at hpl
          obtain ⟨mv, hmv⟩ : ∃ mv, mv = memB gs zz := ⟨_, rfl⟩
          rw [← hmv] at hhs
          have HPL := Lib.hid hpl
          have HHS := Lib.hid hhs
          have HCL := Lib.hid hcell
          have HZ := Lib.hid hzz
          have HMV := Lib.hid hmv
          have KQ := Lib.hid (fun (W : World) (hW : Below wr.heap.size wr W) => And.intro ((hW.cell (p := ⟨b, off + i, none⟩) (block_of_cell q1)).trans q1) ((hW.cell (p := ⟨b, off + k, none⟩) (block_of_cell q2)).trans q2))
          clear hpl hhs hcell n1 n2 l1 l2 hux huy hzz hmv
          go_upto_region 10 with fail
          cases mv with
          | true =>
            go_region_held (fun W => W.cell? ⟨b, off + i, none⟩ = some ux ∧ W.cell? ⟨b, off + k, none⟩ = some uy) (first | exact KQ.out _ HB7.out | exact KQ.out _ HB6.out | exact KQ.out _ (bdrew1 wr)) (first | (go_at_call 96; refine (HHS.out _ HB6.out _ HPO6.out).mono ?_; rintro e w7 ⟨rfl, m7, rfl⟩; have HB7 := Lib.hid (bdrewN HB6.out m7)) | (go_at_call 83; refine (HPL.out _ (bdrew1 wr)).mono ?_; rintro e w6 ⟨r6, rfl, hp6, hb6⟩; have HB6 := Lib.hid (bchain (bdrew1 wr) hb6); have HPO6 := Lib.hid hp6.ns; clear hp6 hb6))
            go_wp2_with fail
            exact ⟨⟨k + 1, by go_num, by omega, Lib.hid (bchain HBK.out HB7.out), Lib.hid (fun q hq => by
              by_cases e : q = k
              · subst e; rw [← HZ.out]; exact HMV.out.symm
              · exact HK.out q (by omega))⟩, by simp [intOf]; omega⟩
          | false =>
            have HR := Lib.hid (sums_no hlt (show k < gs.length by omega) (by rw [← HZ.out]; exact HMV.out.symm))
            go_region_held (fun W => W.cell? ⟨b, off + i, none⟩ = some ux ∧ W.cell? ⟨b, off + k, none⟩ = some uy) (first | exact KQ.out _ HB7.out | exact KQ.out _ HB6.out | exact KQ.out _ (bdrew1 wr)) (first | (go_at_call 96; refine (HHS.out _ HB6.out _ HPO6.out).mono ?_; rintro e w7 ⟨rfl, m7, rfl⟩; have HB7 := Lib.hid (bdrewN HB6.out m7)) | (go_at_call 83; refine (HPL.out _ (bdrew1 wr)).mono ?_; rintro e w6 ⟨r6, rfl, hp6, hb6⟩; have HB6 := Lib.hid (bchain (bdrew1 wr) hb6); have HPO6 := Lib.hid hp6.ns; clear hp6 hb6))
            go_wp2_with fail
            go_ret2
            exact ⟨by rw [HBV.out, HR.out]; rfl, bchain HBK.out HB7.out⟩
        · obtain rfl : k = i + 1 := by omega
          have T2 : decide (((i + 1 : Nat) : Int) ≤ (i : Int)) = false := by rw [decide_eq_false_iff_not]; omega
          go_wp2_with fail
          exact ⟨⟨i + 1, by go_num, by omega, HBK, Lib.hid (fun j hj => by
            by_cases e : j = i
            · subst e; exact fun k hk => HK.out k (by omega)
            · exact HI.out j (by omega))⟩, by simp [intOf]; omega⟩
    · obtain rfl : i = gs.length := by omega
      have T2 : decide ((gs.length : Int) < (gs.length : Int)) = false := by simp
      have HR := Lib.hid (sums_yes (gs := gs) (fun i hi => (ws_len HW.out hi).1) HI.out)
      go_wp2_with fail
      go_ret2
      exact ⟨by rw [HBV.out, HR.out]; rfl, HBI.out⟩
theorem sumsOf_len (gs : List (List Int)) (i : Nat) : (sumsOf gs i).length = gs.length := by unfold sumsOf; simp
theorem sumsOf_at {gs : List (List Int)} {i j : Nat} (hj : j < gs.length) : (sumsOf gs i).getD j [] = wplus (gs.getD i []) (gs.getD j []) := by unfold sumsOf; simp [List.getD, hj]
set_option maxHeartbeats 1000000 in
theorem makeSums_any (gb : Nat) (A : Option Addr) (c : Nat) (us : Nat → Value) (gs : List (List Int)) (hn : gs.length ≤ 1048576) (hl : ∀ i, i < gs.length → (gs.getD i []).length = (gs.getD 0 []).length) (hm : ∀ i, i < gs.length → (gs.getD i []).length ≤ 1048576) (i : Nat) (hi : i < gs.length) (w : World) (hbox : w.cell? ⟨gb, 0, none⟩ = some (.slice A gs.length c))
    (hc : 0 < gs.length → ∃ b off, A = some ⟨b, off, none⟩ ∧ b < w.heap.size ∧ ∀ i, i < gs.length → w.cell? ⟨b, off + i, none⟩ = some (us i)) (hns : ∀ i, i < gs.length → NS w (us i) (gs.getD i [])) :
    Calls Try.prog 104 #[us i, .pointer (some ⟨gb, 0, none⟩)] w fun e w' => ∃ r, e = .returned r ∧ WO w' w.heap.size w'.heap.size r (sumsOf gs i) ∧ Below w.heap.size w w' := by
  have hmf : ∀ (fn : Fn) (first cap : Array Value) (w : World), (Instr.makeFunc fn first cap).run Try.prog w = .ok (.func fn first cap) w := fun _ _ _ _ => rfl
  have he := eachWW_any A gs.length c hn 84 (us i) (enters_of Try.func84 (by kernel_rfl) rfl) us (fun j => wplus (gs.getD i []) (gs.getD j [])) w hc (fun j W hj hW => wplus_any (us i) (us j) (gs.getD i []) (gs.getD j []) (hm i hi) (by rw [hl i hi, hl j hj]) W ((hns i hi).below hW) ((hns j hj).below hW))
  rw [show (List.range gs.length).map (fun j => wplus (gs.getD i []) (gs.getD j [])) = sumsOf gs i from rfl] at he
  obtain ⟨ux, hux⟩ : ∃ u, u = us i := ⟨_, rfl⟩
  rw [← hux] at he ⊢
  have HE := Lib.hid he
  clear he hc hns hux
  go_enter Try.func104, Try.ntmps104
  go_wp2_with fail
  refine HE.out.mono ?_
  rintro e w' ⟨r, rfl, hwo, hb⟩
  obtain ⟨Ar, cr, _, er, _⟩ := id hwo
  have HWO := Lib.hid hwo
  have HB := Lib.hid hb
  clear hwo hb
  subst er
  go_wp2_with fail
  go_ret
  exact ⟨_, rfl, HWO.out, HB.out⟩
set_option maxHeartbeats 4000000 in
theorem impl_ClosedUnderSums (n : Int) (v : Value) (gs : List (List Int)) (hb : -9223372036854775808 ≤ n ∧ n ≤ 9223372036854775807) (hn : gs.length ≤ 1048576) (hm : ∀ i, i < gs.length → (gs.getD i []).length ≤ 1048576) (w : World) (h : WC w v gs) :
    Calls Try.prog 55 #[.int .i64 n, v] w fun e w' => e = .returned (.tuple #[.bool (csV n gs), .int .i64 (lsC n gs [])]) ∧ Below w.heap.size w w' := by
  have hmf : ∀ (fn : Fn) (first cap : Array Value) (w : World), (Instr.makeFunc fn first cap).run Try.prog w = .ok (.func fn first cap) w := fun _ _ _ _ => rfl
  have HWS := Lib.hid h.ws
  obtain ⟨A, c, us0, rfl, hc, hu⟩ := h.ws.open
  have HM := Lib.hid hm
  have HB := Lib.hid hb
  obtain ⟨us, hus1, hus2⟩ : ∃ us : Nat → Value, (∀ i, ∃ A n c, us i = .slice A n c) ∧ ∀ i, i < gs.length → us i = us0 i := by
    refine ⟨fun i => if i < gs.length then us0 i else .slice none 0 0, fun i => ?_, fun i hi => by simp [hi]⟩
    by_cases hi : i < gs.length
    · obtain ⟨A', c', e⟩ := (hu i hi).form
      exact ⟨A', _, c', (if_pos hi).trans e⟩
    · exact ⟨none, 0, 0, if_neg hi⟩
  have HC : Hid (0 < gs.length → ∃ b off, A = some ⟨b, off, none⟩ ∧ b < w.heap.size ∧ ∀ i, i < gs.length → w.cell? ⟨b, off + i, none⟩ = some (us i)) := Lib.hid (fun h0 => by
    obtain ⟨b, off, e, hlt, hcell⟩ := hc h0
    exact ⟨b, off, e, hlt, fun i hi => by rw [hus2 i hi]; exact hcell i hi⟩)
  have HU : Hid (∀ i, i < gs.length → NS w (us i) (gs.getD i [])) := Lib.hid (fun i hi => by rw [hus2 i hi]; exact hu i hi)
  have HF := Lib.hid hus1
  obtain ⟨bv, hbv⟩ : ∃ bv, bv = csV n gs := ⟨_, rfl⟩
  obtain ⟨cd, hcd⟩ : ∃ cd, cd = lsC n gs [] := ⟨_, rfl⟩
  rw [← hbv, ← hcd]
  have HBV := Lib.hid hbv
  have HCD := Lib.hid hcd
  clear h hc hu hm hb hus1 hus2 hbv hcd
  go_enter Try.func55, Try.ntmps55
  go_upto_region 1 with fail
  obtain ⟨k1, hb1, s1⟩ := n1w w (.cells #[.slice A gs.length c] 44)
  generalize World.alloc w _ = w1 at k1 hb1 s1 ⊢
  have hbox : w1.cell? ⟨w.heap.size, 0, none⟩ = some (.slice A gs.length c) := (cell_of_row _ _ _ _ _ _ k1).trans rfl
  have HOL := Lib.hid (openList_any n _ _ gs [] hn (by simp) (by simpa using HM.out) HB.out w1 (HWS.out.below hb1) (WS.nil w1 none 0))
  have HBX := Lib.hid hbox
  have HB1 := Lib.hid hb1
  have HS1 := Lib.hid s1
  obtain ⟨cb, hcb⟩ : ∃ cb, cb = lsB n gs [] := ⟨_, rfl⟩
  rw [← hcb, ← HCD.out] at HOL
  clear hcb k1 hb1 s1
  by_cases h0 : cd = 0
  case neg =>
    have T1 : (cd != 0) = true := by rw [bne_iff_ne]; exact h0
    have HR : Hid (bv = false) := Lib.hid (by rw [HBV.out]; unfold csV; rw [if_neg (by rw [← HCD.out]; exact h0)])
    clear h0
    go_wp2_with fail
    refine HOL.out.mono ?_
    rintro e w2 ⟨rfl, hb2⟩
    have HB2 := Lib.hid (bchain HB1.out hb2)
    clear hb2 hbox
    go_wp2_with fail
    go_ret2
    exact ⟨by rw [HR.out]; rfl, HB2.out⟩
  subst h0
  obtain ⟨_, hws, h300⟩ := lsC_ok HCD.out.symm
  rw [List.append_nil] at hws
  have HW := Lib.hid hws
  have HR : Hid (bv = clB gs (sumsOf gs) gs.length) := Lib.hid (by rw [HBV.out]; unfold csV; rw [if_pos HCD.out.symm])
  clear hws
  go_wp2_with fail
  refine HOL.out.mono ?_
  rintro e w2 ⟨rfl, hb2⟩
  have HB2 := Lib.hid (bchain HB1.out hb2)
  have hbox2 := (hb2.cell (p := ⟨w.heap.size, 0, none⟩) (by rw [HS1.out]; show w.heap.size < _; omega)).trans HBX.out
  have hsz2 : w.heap.size < w2.heap.size := by have := hb2.size; have := HS1.out; omega
  have hrv : RV w2 A us gs.length := fun h0 => by
    obtain ⟨b, off, e, hlt, hcell⟩ := HC.out h0
    exact ⟨b, off, e, Nat.lt_of_lt_of_le hlt HB2.out.size, fun i hi => (HB2.out.cell (p := ⟨b, off + i, none⟩) hlt).trans (hcell i hi)⟩
  have hcl := isClosed_any A gs.length c hn us HF.out gs rfl HM.out w2 hrv (fun i hi => (HU.out i hi).below HB2.out) 104 #[.pointer (some ⟨w.heap.size, 0, none⟩)] (enters_of Try.func104 (by kernel_rfl) rfl) (sumsOf gs) (fun i hi => by rw [sumsOf_len]; exact hn) (fun i hi j hj => by
    rw [sumsOf_len] at hj
    rw [sumsOf_at hj]
    unfold wplus
    rw [tab_len]
    exact HM.out i hi) (fun i W hi hW => makeSums_any w.heap.size A c us gs hn (fun i hi => (ws_len HW.out hi).1) HM.out i hi W ((hW.cell (p := ⟨w.heap.size, 0, none⟩) hsz2).trans hbox2) (fun h0 => by
      obtain ⟨b, off, e, hlt, hcell⟩ := hrv h0
      exact ⟨b, off, e, Nat.lt_of_lt_of_le hlt hW.size, fun i hi => (hW.cell (p := ⟨b, off + i, none⟩) hlt).trans (hcell i hi)⟩) (fun i hi => (HU.out i hi).below (bchain HB2.out hW)))
  rw [← HR.out] at hcl
  have HCL := Lib.hid hcl
  clear hcl hrv hb2 hbox
  go_wp2_with fail
  refine HCL.out.mono ?_
  rintro e w3 ⟨rfl, hb3⟩
  have HB3 := Lib.hid (bchain HB2.out hb3)
  clear hb3
  go_wp2_with fail
  go_ret2
  exact ⟨rfl, HB3.out⟩
end Go.Proofs.Ythhjhfkcgokffaa
