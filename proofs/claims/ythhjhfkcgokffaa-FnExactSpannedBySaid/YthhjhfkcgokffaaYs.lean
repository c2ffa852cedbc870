/-
  The nimbers below a base. Is a list closed under products?
-/
import Derived.Test.YthhjhfkcgokffaaYr
import Derived.Deep.Cut
namespace Go.Proofs.Ythhjhfkcgokffaa
set_option linter.unusedVariables false
set_option linter.unusedSimpArgs false
open Go.ChangeShapes Go.WideShapes Go.ChangeAt Go.RowKit Go.Shelf

theorem wrap16_nat {k : Nat} (h : k < 65536) : IntKind.u16.wrap (k : Int) = (k : Int) := by rw [IntKind.wrap_u16]; omega
set_option maxHeartbeats 2000000 in
theorem nimbers_any (N : Nat) (hN : N ≤ 65536) (w : World) :
    Calls Try.prog 106 #[.int .i64 (N : Int)] w fun e w' => ∃ g, e = .returned (.slice (some ⟨g, 0, none⟩) N N) ∧ w.heap.size ≤ g ∧ RW w' g (tab N fun (i : Nat) => (i : Int)) ∧ Below w.heap.size w w' := by
  obtain ⟨i0, hi, hz0, hz1, hz2⟩ := info_parts info25
  have T0 : decide ((N : Int) < 0) = false := by simp
  obtain ⟨f, hf⟩ : ∃ f : Nat → Int, f = fun (i : Nat) => (i : Int) := ⟨_, rfl⟩
  have HF : Hid (∀ i, f i = (i : Int)) := Lib.hid (fun i => by rw [hf])
  rw [← hf]
  clear hf
  go_enter Try.func106, Try.ntmps106
  go_wp2_with (at_make; refine wpList_make_full _ rfl _ _ 24 rfl w.heap.size 39 i0 (.int .u16 0) 1 Try.underlying24 hi hz0 hz1 _ _ _ _ N rfl rfl rfl rfl (by rw [hz2]; omega) (by unfold maxLen; omega) (Nat.le_refl _) ?_)
  intro w1 hown hgrow
  have hb1 : Below w.heap.size w w1 := (Below.refl _ w).grown hgrow (Nat.le_refl _) (fun k hk => by cases hk)
  obtain ⟨g, hgg⟩ : ∃ g, g = w.heap.size := ⟨_, rfl⟩
  rw [← hgg] at hown hb1 ⊢
  rw [made_tab, ← upto_zero f N] at hown
  have HRW := Lib.hid (RW.of_own hown)
  have HB1 := Lib.hid hb1
  have HG := Lib.hid hgg
  clear hown hgrow hb1 hgg
  go_wp2_with fail
  go_loopw [9] (fun y wr => ∃ k : Nat, y = .int .i64 (k : Int) ∧ k ≤ N ∧ Hid (RW wr g (tab N (upto f k))) ∧ Hid (Below g w wr)) (fun y _ => N - (intOf y).toNat)
  case atStart => exact ⟨0, rfl, Nat.zero_le _, HRW, HB1⟩
  case round =>
    clear HRW HB1
    obtain ⟨k, rfl, hk, HR, HB⟩ := hrel
    by_cases hlt : k < N
    · have i1 : (k : Int) < (N : Int) := by omega
      have q3 := HR.out.tabcell2 k (by omega)
      have q4 := HR.out.free k
      have hfe := HF.out k
      have hset := HR.out.set k (f k)
      rw [upto_set, hfe] at hset
      have hwr : IntKind.u16.wrap (k : Int) = (k : Int) := wrap16_nat (by omega)
      obtain ⟨z0, hz0'⟩ : ∃ z, z = (tab N (upto f k)).getD k 0 := ⟨_, rfl⟩
      rw [← hz0'] at q3
      have HSET := Lib.hid hset
      have HB3 := Lib.hid (HB.out.setCell (p := ⟨g, k, none⟩) (Nat.le_refl _) (.int .u16 (k : Int)))
      clear hset hz0' hfe
      go_wp2_with fail
      go_roundw
      case rel => exact ⟨k + 1, by go_num, by omega, HSET, HB3⟩
      case measure => simp [intOf]; omega
    · obtain rfl : k = N := by omega
      have T1 : decide ((k : Int) < (k : Int)) = false := by simp
      have hr := HR.out
      rw [upto_end] at hr
      have HPO := Lib.hid hr
      clear hr
      go_wp2_with fail
      go_ret
      exact ⟨_, rfl, by rw [← HG.out]; exact Nat.le_refl _, HPO.out, by rw [← HG.out]; exact HB.out⟩
theorem prodsOf_len (n : Int) (gs : List (List Int)) (i : Nat) : (prodsOf n gs i).length = n.toNat := by unfold prodsOf; simp
theorem prodsOf_at {n : Int} {gs : List (List Int)} {i j : Nat} (hj : j < n.toNat) : (prodsOf n gs i).getD j [] = wscale (j : Int) (gs.getD i []) := by unfold prodsOf; simp [List.getD, hj]
set_option maxHeartbeats 8000000 in
set_option maxRecDepth 100000 in
theorem spec_ClosedUnderProducts (n : Int) (v : Value) (gs : List (List Int)) (hb : -9223372036854775808 ≤ n ∧ n ≤ 9223372036854775807) (hn : gs.length ≤ 1048576) (hm : ∀ i, i < gs.length → (gs.getD i []).length ≤ 1048576) (w : World) (h : WS w v gs) :
    Calls Try.prog 56 #[.int .i64 n, v] w fun e w' => e = .returned (.tuple #[.bool (cpV n gs), .int .i64 (lsC n gs [])]) ∧ Below w.heap.size w w' := by
  have HWS := Lib.hid h
  obtain ⟨A, c, us, rfl, hc, hu⟩ := h.open
  have HM := Lib.hid hm
  have HB := Lib.hid hb
  have HC := Lib.hid hc
  have HU := Lib.hid hu
  clear h hc hu hm hb
  by_cases h0 : lsC n gs [] = 0
  case neg =>
    obtain ⟨cd, hcd⟩ : ∃ cd, cd = lsC n gs [] := ⟨_, rfl⟩
    have hv0 : cpV n gs = false := by unfold cpV; rw [if_neg h0]
    rw [← hcd] at h0 ⊢
    rw [hv0]
    have HCD := Lib.hid hcd
    have T1 : (cd != 0) = true := by rw [bne_iff_ne]; exact h0
    clear hcd h0 hv0
    go_enter Try.func56, Try.ntmps56
    go_wp2_with fail
    refine (l06Listed_any n _ gs hn HM.out HB.out _ HWS.out).mono ?_
    rintro e w' ⟨rfl, m0, rfl⟩
    rw [← HCD.out]
    go_wp2_with fail
    go_ret2
    exact ⟨rfl, bdrewN (Below.refl _ w) m0⟩
  obtain ⟨hba, hws, h300⟩ := lsC_ok h0
  rw [List.append_nil] at hws
  have HW := Lib.hid hws
  have H0 := Lib.hid h0
  obtain ⟨N, hN, hN2⟩ : ∃ N : Nat, n = (N : Int) ∧ N ≤ 256 := by
    rcases baB_cases hba with e | e | e | e
    · exact ⟨2, e, by omega⟩
    · exact ⟨4, e, by omega⟩
    · exact ⟨16, e, by omega⟩
    · exact ⟨256, e, by omega⟩
  subst hN
  obtain ⟨bv, hbv⟩ : ∃ bv, bv = cpV (N : Int) gs := ⟨_, rfl⟩
  rw [← hbv, h0]
  have HBV : Hid (bv = clB gs (prodsOf (N : Int) gs) gs.length) := Lib.hid (by rw [hbv]; unfold cpV; rw [if_pos h0])
  clear h0 hws hbv hba
  go_enter Try.func56, Try.ntmps56
  go_wp2_with fail
  refine (l06Listed_any _ _ gs hn HM.out HB.out _ HWS.out).mono ?_
  rintro e w1 ⟨rfl, m0, hw1⟩
  have HB1 : Hid (Below w.heap.size w w1) := Lib.hid (by rw [hw1]; exact bdrewN (Below.refl _ w) m0)
  clear hw1
  rw [H0.out]
  go_wp2_with fail
  go_loopw [7] (fun y wr => ∃ i : Nat, y = .int .i64 (i : Int) ∧ i ≤ gs.length ∧ Hid (Below w.heap.size w wr) ∧ Hid (∀ j, j < i → ∀ k : Nat, k < N → memB gs (wscale (k : Int) (gs.getD j [])) = true)) (fun y _ => gs.length - (intOf y).toNat)
  case atStart => exact ⟨0, rfl, Nat.zero_le _, HB1, Lib.hid (fun j hj => absurd hj (by omega))⟩
  case round =>
    clear HB1
    obtain ⟨i, rfl, hi, HBI, HI⟩ := hrel
    rename_i wo
    by_cases hlt : i < gs.length
    · have i1 : (i : Int) < (gs.length : Int) := by omega
      go_wp2_with fail
      go_loopw [8] (fun y wr => ∃ k : Nat, y = .int .i64 (k : Int) ∧ k ≤ N ∧ Hid (Below w.heap.size w wr) ∧ Hid (∀ q : Nat, q < k → memB gs (wscale (q : Int) (gs.getD i [])) = true)) (fun y _ => N - (intOf y).toNat)
      case atStart => exact ⟨0, rfl, Nat.zero_le _, HBI, Lib.hid (fun q hq => absurd hq (by omega))⟩
      case round =>
        clear HBI
        obtain ⟨k, rfl, hk, HBK, HK⟩ := hrel
        by_cases hlt2 : k < N
        · obtain ⟨b, off, rfl, hlb, hcell⟩ := HC.out (by omega)
          have i2 : (k : Int) < (N : Int) := by omega
          have q1 : wr.cell? ⟨b, off + i, none⟩ = some (us i) := (HBK.out.cell (p := ⟨b, off + i, none⟩) hlb).trans (hcell i hlt)
          have n1 := (HU.out i hlt).below HBK.out
          have l1 := ws_len HW.out hlt
          have hwr : IntKind.u16.wrap (k : Int) = (k : Int) := wrap16_nat (by omega)
          have hpl := fun (W : World) (hW : Below wr.heap.size wr W) => l06Scale_any (k : Int) (by omega) (by omega) (us i) (gs.getD i []) (by omega) W (n1.below hW)
          have hhs := fun (W : World) (hW : Below wr.heap.size wr W) (u : Value) (hu : NS W u (wscale (k : Int) (gs.getD i []))) => l06Has_any _ u gs (wscale (k : Int) (gs.getD i [])) hn HM.out (by unfold wscale; rw [tab_len]; omega) W (HWS.out.below (bchain HBK.out hW)) hu
          obtain ⟨ux, hux⟩ : ∃ u, u = us i := ⟨_, rfl⟩
          obtain ⟨zz, hzz⟩ : ∃ z, z = wscale (k : Int) (gs.getD i []) := ⟨_, rfl⟩
          rw [← hux] at hpl
          rw [← hux] at q1
          rw [← hzz] at hhs
          rw [show tab (gs.getD i []).length (scaleK (k : Int) (gs.getD i [])) = wscale (k : Int) (gs.getD i []) from rfl, ← hzz] at hpl
          obtain ⟨mv, hmv⟩ : ∃ mv, mv = memB gs zz := ⟨_, rfl⟩
          rw [← hmv] at hhs
          have HPL := Lib.hid hpl
          have HHS := Lib.hid hhs
          have HCL := Lib.hid hcell
          have HZ := Lib.hid hzz
          have HMV := Lib.hid hmv
          clear hpl hhs hcell n1 l1 hux hzz hmv
          cases mv with
          | true =>
            go_wp2_with fail
            refine (HPL.out _ (by first | exact Below.refl _ _ | exact bdrew1 _)).mono ?_
            rintro e w6 ⟨r6, rfl, hp6, hb6⟩
            have HB6 := Lib.hid (bchain (by first | exact Below.refl _ _ | exact bdrew1 _) hb6)
            have HPO6 := Lib.hid hp6.ns
            clear hp6 hb6
            go_wp2_with fail
            refine (HHS.out _ HB6.out _ HPO6.out).mono ?_
            rintro e w7 ⟨rfl, m7, rfl⟩
            have HB7 := Lib.hid (bdrewN HB6.out m7)
            go_wp2_with fail
            exact ⟨⟨k + 1, by go_num, by omega, Lib.hid (bchain HBK.out HB7.out), Lib.hid (fun q hq => by
              by_cases e : q = k
              · subst e; rw [← HZ.out]; exact HMV.out.symm
              · exact HK.out q (by omega))⟩, by simp [intOf]; omega⟩
          | false =>
            have HR := Lib.hid (prods_no (n := (N : Int)) hlt (show k < ((N : Int)).toNat by omega) (by rw [← HZ.out]; exact HMV.out.symm))
            go_wp2_with fail
            refine (HPL.out _ (by first | exact Below.refl _ _ | exact bdrew1 _)).mono ?_
            rintro e w6 ⟨r6, rfl, hp6, hb6⟩
            have HB6 := Lib.hid (bchain (by first | exact Below.refl _ _ | exact bdrew1 _) hb6)
            have HPO6 := Lib.hid hp6.ns
            clear hp6 hb6
            go_wp2_with fail
            refine (HHS.out _ HB6.out _ HPO6.out).mono ?_
            rintro e w7 ⟨rfl, m7, rfl⟩
            have HB7 := Lib.hid (bdrewN HB6.out m7)
            go_wp2_with fail
            go_ret2
            exact ⟨by rw [HBV.out, HR.out]; rfl, bchain HBK.out HB7.out⟩
        · obtain rfl : k = N := by omega
          have T2 : decide ((k : Int) < (k : Int)) = false := by simp
          go_wp2_with fail
          exact ⟨⟨i + 1, by go_num, by omega, HBK, Lib.hid (fun j hj => by
            by_cases e : j = i
            · subst e; exact fun k hk => HK.out k (by omega)
            · exact HI.out j (by omega))⟩, by simp [intOf]; omega⟩
    · obtain rfl : i = gs.length := by omega
      have T2 : decide ((gs.length : Int) < (gs.length : Int)) = false := by simp
      have HR := Lib.hid (prods_yes (n := (N : Int)) (gs := gs) (fun i hi a ha => HI.out i hi a (by omega)))
      go_wp2_with fail
      go_ret2
      exact ⟨by rw [HBV.out, HR.out]; rfl, HBI.out⟩
set_option maxHeartbeats 1000000 in
theorem makeProds_any (gb b N : Nat) (hN : N ≤ 65536) (us : Nat → Value) (gs : List (List Int)) (hm : ∀ i, i < gs.length → (gs.getD i []).length ≤ 1048576) (i : Nat) (hi : i < gs.length) (w : World) (hbox : w.cell? ⟨gb, 0, none⟩ = some (.slice (some ⟨b, 0, none⟩) N N))
    (hrw : RW w b (tab N fun (i : Nat) => (i : Int))) (hns : NS w (us i) (gs.getD i [])) :
    Calls Try.prog 107 #[us i, .pointer (some ⟨gb, 0, none⟩)] w fun e w' => ∃ r, e = .returned r ∧ WO w' w.heap.size w'.heap.size r (prodsOf (N : Int) gs i) ∧ Below w.heap.size w w' := by
  have hmf : ∀ (fn : Fn) (first cap : Array Value) (w : World), (Instr.makeFunc fn first cap).run Try.prog w = .ok (.func fn first cap) w := fun _ _ _ _ => rfl
  have he := eachNW_any (some ⟨b, 0, none⟩) N N (by omega) 86 (us i) (enters_of Try.func86 (by kernel_rfl) rfl) (fun (j : Nat) => .int .u16 (j : Int)) (fun (j : Nat) => wscale (j : Int) (gs.getD i [])) w (fun h0 => ⟨b, 0, rfl, hrw.lt, fun j hj => by
    have := hrw.tabcell2 j hj
    rw [tab_at _ _ _ hj] at this
    rw [Nat.zero_add]; exact this⟩) (fun j W hj hW => scaled_any (us i) (gs.getD i []) (j : Int) (hm i hi) (by omega) (by omega) W (hns.below hW))
  rw [show (List.range N).map (fun (j : Nat) => wscale (j : Int) (gs.getD i [])) = prodsOf (N : Int) gs i from rfl] at he
  obtain ⟨ux, hux⟩ : ∃ u, u = us i := ⟨_, rfl⟩
  rw [← hux] at he ⊢
  have HE := Lib.hid he
  clear he hns hux hrw
  go_enter Try.func107, Try.ntmps107
  go_wp2_with fail
  refine HE.out.mono ?_
  rintro e w' ⟨r, rfl, hwo, hb⟩
  obtain ⟨Ar, cr, _, er, _⟩ := id hwo
  have HWO := Lib.hid hwo
  have HB := Lib.hid hb
  clear hwo hb
  subst er
  go_wp2_with fail
  go_ret
  exact ⟨_, rfl, HWO.out, HB.out⟩
set_option maxHeartbeats 4000000 in
theorem impl_ClosedUnderProducts (n : Int) (v : Value) (gs : List (List Int)) (hb : -9223372036854775808 ≤ n ∧ n ≤ 9223372036854775807) (hn : gs.length ≤ 1048576) (hm : ∀ i, i < gs.length → (gs.getD i []).length ≤ 1048576) (w : World) (h : WC w v gs) :
    Calls Try.prog 57 #[.int .i64 n, v] w fun e w' => e = .returned (.tuple #[.bool (cpV n gs), .int .i64 (lsC n gs [])]) ∧ Below w.heap.size w w' := by
  have hmf : ∀ (fn : Fn) (first cap : Array Value) (w : World), (Instr.makeFunc fn first cap).run Try.prog w = .ok (.func fn first cap) w := fun _ _ _ _ => rfl
  have HWS := Lib.hid h.ws
  obtain ⟨A, c, us0, rfl, hc, hu⟩ := h.ws.open
  have HM := Lib.hid hm
  have HB := Lib.hid hb
  obtain ⟨us, hus1, hus2⟩ : ∃ us : Nat → Value, (∀ i, ∃ A n c, us i = .slice A n c) ∧ ∀ i, i < gs.length → us i = us0 i := by
    refine ⟨fun i => if i < gs.length then us0 i else .slice none 0 0, fun i => ?_, fun i hi => by simp [hi]⟩
    by_cases hi : i < gs.length
    · obtain ⟨A', c', e⟩ := (hu i hi).form
      exact ⟨A', (gs.getD i []).length, c', (if_pos hi).trans e⟩
    · exact ⟨none, 0, 0, if_neg hi⟩
  have HC : Hid (0 < gs.length → ∃ b off, A = some ⟨b, off, none⟩ ∧ b < w.heap.size ∧ ∀ i, i < gs.length → w.cell? ⟨b, off + i, none⟩ = some (us i)) := Lib.hid (fun h0 => by
    obtain ⟨b, off, e, hlt, hcell⟩ := hc h0
    exact ⟨b, off, e, hlt, fun i hi => by rw [hus2 i hi]; exact hcell i hi⟩)
  have HU : Hid (∀ i, i < gs.length → NS w (us i) (gs.getD i [])) := Lib.hid (fun i hi => by rw [hus2 i hi]; exact hu i hi)
  have HF := Lib.hid hus1
  obtain ⟨bv, hbv⟩ : ∃ bv, bv = cpV n gs := ⟨_, rfl⟩
  obtain ⟨cd, hcd⟩ : ∃ cd, cd = lsC n gs [] := ⟨_, rfl⟩
  rw [← hbv, ← hcd]
  have HBV := Lib.hid hbv
  have HCD := Lib.hid hcd
  have HOL := Lib.hid (openList_any n _ _ gs [] hn (by simp) (by simpa using HM.out) HB.out w HWS.out (WS.nil w none 0))
  clear h hc hu hm hb hus1 hus2 hbv hcd
  by_cases h0 : cd = 0
  case neg =>
    obtain ⟨cb, hcb⟩ : ∃ cb, cb = lsB n gs [] := ⟨_, rfl⟩
    rw [← hcb, ← HCD.out] at HOL
    clear hcb
    have T1 : (cd != 0) = true := by rw [bne_iff_ne]; exact h0
    have HR : Hid (bv = false) := Lib.hid (by rw [HBV.out]; unfold cpV; rw [if_neg (by rw [← HCD.out]; exact h0)])
    clear h0
    go_enter Try.func57, Try.ntmps57
    go_wp2_with fail
    refine HOL.out.mono ?_
    rintro e w2 ⟨rfl, hb2⟩
    have HB2 := Lib.hid hb2
    clear hb2
    go_wp2_with fail
    go_ret2
    exact ⟨by rw [HR.out]; rfl, HB2.out⟩
  subst h0
  obtain ⟨hba, hws, h300⟩ := lsC_ok HCD.out.symm
  rw [List.append_nil] at hws
  have HW := Lib.hid hws
  have HR : Hid (bv = clB gs (prodsOf n gs) gs.length) := Lib.hid (by rw [HBV.out]; unfold cpV; rw [if_pos HCD.out.symm])
  have hlb : lsB n gs [] = n := by unfold lsB; rw [if_pos HCD.out.symm]
  rw [hlb, ← HCD.out] at HOL
  clear hws hlb
  obtain ⟨N, hN, hN2⟩ : ∃ N : Nat, n = (N : Int) ∧ N ≤ 256 := by
    rcases baB_cases hba with e | e | e | e
    · exact ⟨2, e, by omega⟩
    · exact ⟨4, e, by omega⟩
    · exact ⟨16, e, by omega⟩
    · exact ⟨256, e, by omega⟩
  subst hN
  clear hba
  go_enter Try.func57, Try.ntmps57
  go_wp2_with fail
  refine HOL.out.mono ?_
  rintro e w2 ⟨rfl, hb2⟩
  have HB2 := Lib.hid hb2
  clear hb2
  go_wp2_with fail
  refine (nimbers_any N (by omega) _).mono ?_
  rintro e w3 ⟨g, rfl, hg, hrw, hb3⟩
  have HB3 := Lib.hid (bchain HB2.out hb3)
  have HG := Lib.hid hg
  have HRW := Lib.hid hrw
  clear hb3 hg hrw
  go_upto_region 5 with fail
  obtain ⟨k4, hb4, s4⟩ := n1w w3 (.cells #[.slice (some ⟨g, 0, none⟩) N N] 24)
  obtain ⟨bx, hbx⟩ : ∃ bx, bx = w3.heap.size := ⟨_, rfl⟩
  rw [← hbx] at k4 s4
  generalize World.alloc w3 _ = w4 at k4 hb4 s4 ⊢
  have hbox : w4.cell? ⟨bx, 0, none⟩ = some (.slice (some ⟨g, 0, none⟩) N N) := (cell_of_row _ _ _ _ _ _ k4).trans rfl
  have hgl : g < w3.heap.size := HRW.out.lt
  have hrw4 : RW w4 g (tab N fun (i : Nat) => (i : Int)) := (hb4.block g hgl).trans HRW.out
  have hg4 : g < w4.heap.size := hrw4.lt
  have hbx4 : bx < w4.heap.size := by rw [s4]; omega
  have hba4 : Below w.heap.size w w4 := bchain HB3.out hb4
  have hrv : RV w4 A us gs.length := fun h0 => by
    obtain ⟨b, off, e, hlt, hcell⟩ := HC.out h0
    exact ⟨b, off, e, Nat.lt_of_lt_of_le hlt hba4.size, fun i hi => (hba4.cell (p := ⟨b, off + i, none⟩) hlt).trans (hcell i hi)⟩
  have hcl := isClosed_any A gs.length c hn us HF.out gs rfl HM.out w4 hrv (fun i hi => (HU.out i hi).below hba4) 107 #[.pointer (some ⟨bx, 0, none⟩)] (enters_of Try.func107 (by kernel_rfl) rfl) (prodsOf (N : Int) gs) (fun i hi => by rw [prodsOf_len]; omega) (fun i hi j hj => by
    rw [prodsOf_len] at hj
    rw [prodsOf_at hj]
    unfold wscale
    rw [tab_len]
    exact HM.out i hi) (fun i W hi hW => makeProds_any bx g N (by omega) us gs HM.out i hi W ((hW.cell (p := ⟨bx, 0, none⟩) hbx4).trans hbox) ((hW.block g hg4).trans hrw4) ((HU.out i hi).below (bchain hba4 hW)))
  rw [← HR.out, hbx] at hcl
  have HCL := Lib.hid hcl
  have HB4 := Lib.hid hba4
  clear hcl hrv hb4 hbox hba4 hrw4 k4 s4 hg4 hbx4 hgl
  go_wp2_with fail
  refine HCL.out.mono ?_
  rintro e w5 ⟨rfl, hb5⟩
  have HB5 := Lib.hid (bchain HB4.out hb5)
  clear hb5
  go_wp2_with fail
  go_ret2
  exact ⟨rfl, HB5.out⟩
end Go.Proofs.Ythhjhfkcgokffaa
