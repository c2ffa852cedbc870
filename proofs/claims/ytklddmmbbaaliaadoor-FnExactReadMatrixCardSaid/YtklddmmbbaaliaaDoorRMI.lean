/-
  A matrix is read: the program's side.
-/
import Derived.Test.YtklddmmbbaaliaaDoorRM
namespace Go.Proofs.YtklddmmbbaaliaaDoor
set_option linter.unusedVariables false
set_option linter.unusedSimpArgs false
open Go.ChangeShapes Go.WideShapes Go.ChangeAt Go.RowKit
theorem TL_copy (N o n : Nat) (f h : Nat → Int) (hN : o + n ≤ N) : (TL N f).take o ++ (TL n h ++ (TL N f).drop (o + n)) = TL N (puts f o n h) := by
  apply List.ext_getElem?
  intro j
  by_cases h1 : j < o
  · rw [List.getElem?_append_left (by simp [TL_len]; omega), List.getElem?_take, if_pos h1, TL_at _ _ _ (by omega), TL_at _ _ _ (by omega)]
    unfold puts; rw [if_neg (by omega)]
  · rw [List.getElem?_append_right (by simp [TL_len]; omega)]
    simp only [List.length_take, TL_len]
    rw [Nat.min_eq_left (by omega)]
    by_cases h2 : j - o < n
    · rw [List.getElem?_append_left (by simp [TL_len]; omega), TL_at _ _ _ h2, TL_at _ _ _ (by omega)]
      unfold puts; rw [if_pos (by omega)]
    · rw [List.getElem?_append_right (by simp [TL_len]; omega), TL_len, List.getElem?_drop]
      by_cases h3 : j < N
      · rw [show o + n + (j - o - n) = j by omega, TL_at _ _ _ h3, TL_at _ _ _ h3]
        unfold puts; rw [if_neg (by omega)]
      · rw [List.getElem?_eq_none (by rw [TL_len]; omega), List.getElem?_eq_none (by rw [TL_len]; omega)]
theorem CL_copy (r c : Int) (o n : Nat) (f h : Nat → Int) (hN : o + n ≤ 36) : (CL r c f).take (2 + o) ++ (TL n h ++ (CL r c f).drop (2 + o + n)) = CL r c (puts f o n h) := by
  have e := TL_copy 36 o n f h hN
  unfold CL
  rw [show 2 + o = o + 1 + 1 by omega, show o + 1 + 1 + n = (o + n) + 1 + 1 by omega]
  simp only [List.take_succ_cons, List.drop_succ_cons, List.cons_append]
  rw [e]
theorem spl_le2 (b : UInt8) : ∀ l : List UInt8, (spl b l).length ≤ l.length + 1 := by
  intro l
  induction l with
  | nil => rw [spl_nil]; simp
  | cons c r ih =>
    by_cases e : c = b
    · rw [e, spl_eq, List.length_cons, List.length_cons]; omega
    · cases hr : spl b r with
      | nil => exact absurd hr (spl_length_pos b r)
      | cons y ys =>
        rw [spl_ne e hr]
        rw [hr] at ih
        simp only [List.length_cons] at ih ⊢; omega
theorem splitK_or (b : UInt8) : ∀ (k : Nat) (l : List UInt8), ((spl b l).length ≤ k + 1 → Lib.splitK [b] 0 k l = spl b l) ∧ (k + 1 < (spl b l).length → (Lib.splitK [b] 0 k l).length = k + 1) := by
  intro k
  induction k with
  | zero =>
    intro l
    refine ⟨fun h => ?_, fun _ => rfl⟩
    rcases Int.lt_or_le (Lib.index l [b]) 0 with q | q
    · have e : Lib.index l [b] = -1 := by have := Lib.index_ge l [b]; omega
      rw [spl_miss b l (index_miss b l e)]; rfl
    · obtain ⟨i, hi⟩ : ∃ i : Nat, Lib.index l [b] = i := ⟨(Lib.index l [b]).toNat, by omega⟩
      obtain ⟨h1, h2, h3⟩ := index_hit b l i hi
      rw [h2, spl_hit b _ _ h1, List.length_cons] at h
      have := List.length_pos_iff.2 (spl_length_pos b (l.drop (i + 1)))
      omega
  | succ k ih =>
    intro l
    rcases Int.lt_or_le (Lib.index l [b]) 0 with q | q
    · have e : Lib.index l [b] = -1 := by have := Lib.index_ge l [b]; omega
      rw [spl_miss b l (index_miss b l e)]
      unfold Lib.splitK
      rw [if_pos (by simp [e])]
      exact ⟨fun _ => rfl, fun h => by simp at h⟩
    · obtain ⟨i, hi⟩ : ∃ i : Nat, Lib.index l [b] = i := ⟨(Lib.index l [b]).toNat, by omega⟩
      obtain ⟨h1, h2, h3⟩ := index_hit b l i hi
      have e1 : Lib.splitK [b] 0 (k + 1) l = l.take i :: Lib.splitK [b] 0 k (l.drop (i + 1)) := by
        conv => lhs; unfold Lib.splitK
        rw [if_neg (by simp; omega), hi]
        simp only [List.length_singleton, Int.toNat_natCast, Nat.add_zero]
      have e2 : spl b l = l.take i :: spl b (l.drop (i + 1)) := by
        conv => lhs; rw [h2]
        exact spl_hit b _ _ h1
      rw [e1, e2, List.length_cons, List.length_cons]
      obtain ⟨i1, i2⟩ := ih (l.drop (i + 1))
      exact ⟨fun h => by rw [i1 (by omega)], fun h => by rw [i2 (by omega)]⟩
theorem parts_or (s : ByteArray) : ((spl 59 s.data.toList).length ≤ 6 → (Lib.splitB ⟨#[59]⟩ 0 (min 7 (s.size + 1) - 1) s).map (·.data.toList) = spl 59 s.data.toList) ∧ (6 < (spl 59 s.data.toList).length → 6 < (Lib.splitB ⟨#[59]⟩ 0 (min 7 (s.size + 1) - 1) s).length) := by
  have hd := Lib.splitB_data ⟨#[59]⟩ 0 (min 7 (s.size + 1) - 1) s
  have hl := spl_le2 59 s.data.toList
  have hz : s.data.toList.length = s.size := by simp
  have hmin : min 7 (s.size + 1) - 1 + 1 = min 7 (s.size + 1) := by omega
  obtain ⟨h1, h2⟩ := splitK_or 59 (min 7 (s.size + 1) - 1) s.data.toList
  rw [show (⟨#[59]⟩ : ByteArray).data.toList = [59] from rfl] at hd
  refine ⟨fun h => ?_, fun h => ?_⟩
  · rw [hd]
    exact h1 (by omega)
  · have e := congrArg List.length hd
    rw [List.length_map] at e
    rw [e]
    rcases Nat.lt_or_ge (min 7 (s.size + 1) - 1 + 1) (spl 59 s.data.toList).length with q | q
    · rw [h2 q]; omega
    · rw [h1 q]; exact h
theorem part_size59 {P : List ByteArray} {l : List UInt8} (h : P.map (·.data.toList) = spl 59 l) : ∀ p ∈ P, p.size ≤ l.length := by
  have hall : ∀ (l : List UInt8), ∀ x ∈ spl 59 l, x.length ≤ l.length := by
    intro l
    induction l with
    | nil => intro x hx; rw [spl_nil] at hx; simp at hx; rw [hx]; simp
    | cons c r ih =>
      intro x hx
      by_cases e : c = 59
      · rw [e, spl_eq] at hx
        rcases List.mem_cons.1 hx with q | q
        · rw [q]; simp
        · have := ih x q; rw [List.length_cons]; omega
      · cases hr : spl 59 r with
        | nil => exact absurd hr (spl_length_pos 59 r)
        | cons y ys =>
          rw [spl_ne e hr] at hx
          rcases List.mem_cons.1 hx with q | q
          · have := ih y (by rw [hr]; simp)
            rw [q, List.length_cons, List.length_cons]; omega
          · have := ih x (by rw [hr]; exact List.mem_cons_of_mem _ q)
            rw [List.length_cons]; omega
  intro p hp
  have := hall l p.data.toList (by rw [← h]; exact List.mem_map.2 ⟨p, hp, rfl⟩)
  rw [Array.length_toList] at this
  exact this
set_option maxRecDepth 100000 in
set_option maxHeartbeats 8000000 in
theorem impl_ReadMatrix (s : ByteArray) (hs : s.size ≤ 1048576) (m : Int) (w : World) (htab : POW w) (herr : ERRS w) (hm : w.cell? ⟨3, 0, none⟩ = some (.int .i64 m)) :
    Calls Tryd.prog 55 #[.string s] w fun e w' => RMpost s.data.toList e ∧ Below w.heap.size w w' := by
  have HTAB := Lib.hid htab
  have HERR := Lib.hid herr
  have HMC := Lib.hid hm
  clear htab herr hm
  go_enter Tryd.func55, Tryd.ntmps55
  go_upto_region 1 with fail
  obtain ⟨a1, a4, a5⟩ := new1 w (.cells (CL 0 0 fun _ => 0).toArray 66)
  rw [zero38]
  obtain ⟨g, hg⟩ : ∃ g, g = w.heap.size := ⟨_, rfl⟩
  rw [← hg] at a1 a4 a5 ⊢
  generalize World.alloc w _ = w2 at a1 a4 a5 ⊢
  replace a1 : MB w2 g 66 0 0 (fun _ => 0) := a1
  have HG := Lib.hid hg
  clear hg
  go_wp2_with fail
  have hm2 : w2.cell? ⟨3, 0, none⟩ = some (.int .i64 m) := (a4.cell (p := ⟨3, 0, none⟩) (by have := block_of_cell HMC.out; have := HG.out; omega)).trans HMC.out
  obtain ⟨ps1, ps2⟩ := parts_or s
  have hsplit := Tryd.strings_SplitN s ⟨#[59]⟩ 7 m w2 (by omega) hm2 (by decide) (by decide) (by decide)
  obtain ⟨P, hP⟩ : ∃ P, P = Lib.splitB ⟨#[59]⟩ 0 (min 7 (s.size + 1) - 1) s := ⟨_, rfl⟩
  rw [← hP] at hsplit ps1 ps2
  have hPle : P.length ≤ 7 := by rw [hP]; exact Nat.le_trans (Lib.splitB_length_le _ _ _ _) (by omega)
  clear hP
  obtain ⟨cp, hcp⟩ : ∃ cp, cp = min 7 (s.size + 1) := ⟨_, rfl⟩
  rw [← hcp] at hsplit
  refine hsplit.mono ?_
  rintro e w3 ⟨rfl, hw3⟩
  have hb : Below w2.heap.size w2 w3 := by rw [hw3]; exact (Below.refl _ _).alloc (Nat.le_refl _) _
  have hM : MB w3 g 66 0 0 (fun _ => 0) := a1.below hb a1.lt
  have hB : Below g w w3 := a4.trans (hb.mono (by omega))
  have hgs : g < w2.heap.size := a1.lt
  obtain ⟨gp, hgp⟩ : ∃ gp, gp = w2.heap.size := ⟨_, rfl⟩
  have hgp2 : gp < w3.heap.size := by rw [hw3, World.size_alloc]; omega
  have hcells : ∀ i (hi : i < P.length), w3.cell? ⟨gp, i, none⟩ = some (.string P[i]) := fun i hi => by
    rw [hw3, hgp]
    refine cell_of_row _ _ _ _ _ _ (heap_alloc_new w2 _) |>.trans ?_
    unfold Lib.cellsOf
    rw [List.getElem?_toArray, List.getElem?_append_left (by rw [List.length_map]; exact hi), List.getElem?_map, List.getElem?_eq_getElem hi]; rfl
  rw [← hgp]
  have HO := Lib.hid hcells
  have HPS1 := Lib.hid ps1
  have HPS2 := Lib.hid ps2
  have HM := Lib.hid hM
  have HB := Lib.hid hB
  clear a1 a4 a5 hb hw3 hsplit hcells ps1 ps2 hM hB hm2 hcp hgp
  by_cases hbig : 6 < P.length
  · have t1 : decide ((6 : Int) < (P.length : Int)) = true := by simp; omega
    have HNO := Lib.hid (show ¬ ∃ uss c, RM s.data.toList uss c from by
      rintro ⟨_, _, h, _⟩
      have e := congrArg List.length (HPS1.out h)
      rw [List.length_map] at e
      omega)
    clear hbig
    go_wp2_with (first | (guard_target =~ wpList _ _ _ (⟨_, Op.build 66 _, _, _, _, _⟩ :: _) _ _; refine wpList_build0 rfl 66 rfl (CL 0 0 fun _ => 0).toArray (by kernel_rfl) ?_) | (guard_target =~ wpList _ _ _ (⟨_, Op.store 66 (Operand.tmp 2) _, _, _, _, _⟩ :: _) _ _; refine wpList_store_row rfl 66 _ _ rfl g (CL 0 0 fun _ => 0).toArray rfl rfl _ _ HM.out (by kernel_rfl) rfl (CL_one _ _ _) ?_))
    refine bodyPost_ret (v := .tuple #[MV 0 0 (fun _ => 0), .int .i64 5]) ?_ rfl ⟨.inr ⟨HNO.out, rfl⟩, by obtain rfl := HG.out; exact Below.setRow HB.out (Nat.le_refl _) _⟩
    exact results_cell_tmp2 rfl _ _ g _ _ (0, 0) _ _ rfl rfl (HM.out.setRow _) Tryd.underlying66 rfl (by kernel_rfl)
  · have t1 : decide ((6 : Int) < (P.length : Int)) = false := by simp; omega
    have hle : P.length ≤ 6 := by omega
    have hp : P.map (·.data.toList) = spl 59 s.data.toList := HPS1.out (by
      rcases Nat.lt_or_ge 6 (spl 59 s.data.toList).length with q | q
      · have := HPS2.out q; omega
      · exact q)
    have hplen : P.length = (spl 59 s.data.toList).length := by rw [← hp, List.length_map]
    have HP := Lib.hid hp
    have HPL := Lib.hid hplen
    have HPZ := Lib.hid (part_size59 hp)
    clear hbig hp hplen
    go_upto_region 5 with (first | (guard_target =~ wpList _ _ _ (⟨_, Op.build 66 _, _, _, _, _⟩ :: _) _ _; refine wpList_build1 rfl 66 _ rfl ((P.length : Nat) : Int) (by go_num) (fun _ => by kernel_rfl) ?_) | (guard_target =~ wpList _ _ _ (⟨_, Op.store 66 _ _, _, _, _, _⟩ :: _) _ _; refine wpList_store_fresh (cells := (CL (P.length : Int) 0 fun _ => 0).toArray) rfl 66 _ _ rfl rfl rfl (by kernel_rfl) (by rw [CL_size]; rfl) (CL_one _ _ _) ?_))
    have m5 : MB (w3.alloc (.cells (CL (P.length : Int) 0 fun _ => 0).toArray 66)) w3.heap.size 66 (P.length : Int) ((0 : Nat) : Int) (grid []) := heap_alloc_last _ _
    have b5 : Below w3.heap.size w3 (w3.alloc (.cells (CL (P.length : Int) 0 fun _ => 0).toArray 66)) := (Below.refl _ _).alloc (Nat.le_refl _) _
    obtain ⟨g5, hg5⟩ : ∃ g5, g5 = w3.heap.size := ⟨_, rfl⟩
    rw [← hg5] at m5 b5 ⊢
    generalize w3.alloc (.cells (CL (P.length : Int) 0 fun _ => 0).toArray 66) = wA at m5 b5 ⊢
    have hgg5 : g < g5 := by rw [hg5]; exact HM.out.lt
    have hgp5 : gp < g5 := by rw [hg5]; exact hgp2
    have HM5 := Lib.hid m5
    have HB5 := Lib.hid b5
    have HG5 := Lib.hid hg5
    clear m5 b5 hg5
    go_wp2_with fail
    go_loopw [22] (fun i wr => ∃ (k c : Nat) (uss : List (List Nat)), i = .int .i64 k ∧ k ≤ P.length ∧ c ≤ 6 ∧ Hid (RMk (spl 59 s.data.toList) k uss c) ∧ Hid (MB wr g5 66 (P.length : Int) (c : Int) (grid uss)) ∧ Hid (Below g5 w3 wr)) (fun i _ => P.length - (intOf i).toNat)
    case atStart => exact ⟨0, 0, [], rfl, Nat.zero_le _, by omega, Lib.hid (RMk.zero _), HM5, HB5⟩
    case round =>
      clear HM5 HB5
      obtain ⟨k, c, uss, rfl, hk, hc6, HR, HM5, HB5⟩ := hrel
      by_cases hlt : k < P.length
      · have h1 : wr.cell? ⟨gp, k, none⟩ = some (.string (P[k]'hlt)) := by
          refine (HB5.out.cell (p := ⟨gp, k, none⟩) hgp5).trans ?_
          exact HO.out k hlt
        obtain ⟨hk2, hpe⟩ := part_at59 HP.out hlt
        have hpz : (P[k]'hlt).size ≤ 1048576 := by
          have h1 := HPZ.out _ (List.getElem_mem hlt)
          rw [Array.length_toList] at h1
          exact Nat.le_trans h1 hs
        have HBW : Hid (Below w.heap.size w wr) := Lib.hid (by rw [← HG.out]; exact HB.out.trans (HB5.out.mono (Nat.le_of_lt hgg5)))
        have HTW := Lib.hid (HTAB.out.below HBW.out)
        have HEW := Lib.hid (HERR.out.below HERR.out.size HBW.out)
        have HMW : Hid (wr.cell? ⟨3, 0, none⟩ = some (.int .i64 m)) := Lib.hid ((HBW.out.cell (p := ⟨3, 0, none⟩) (block_of_cell HMC.out)).trans HMC.out)
        have HPE := Lib.hid hpe
        have hi1 : (k : Int) < (P.length : Int) := by omega
        have HRK := Lib.hid (fun hf => HR.out.fail (show k < (spl 59 s.data.toList).length by rw [← HPL.out]; exact hlt) hf)
        generalize P[k]'hlt = p at h1 hpz HPE
        clear hpe
        go_wp2_with fail
        refine (impl_ReadNims p hpz m wr HTW.out HEW.out HMW.out).mono ?_
        rintro e w5 ⟨⟨us, v, hrl, rfl, hov, hul, hus⟩ | ⟨hno, v, rfl, hov⟩, hb5⟩
        · obtain ⟨A5, c5, rfl, _, hA5⟩ := own_form2 hov
          have hmc := (HM5.out.below hb5 HM5.out.lt).cols
          have hfz1 := (HM5.out.below hb5 HM5.out.lt).free 1
          have HMG : Hid (MB w5 g 66 0 0 (fun _ => 0)) := Lib.hid ((HM.out.below HB5.out (by omega)).below hb5 (by have := HM5.out.lt; omega))
          have HBV := Lib.hid (HB5.out.trans (hb5.mono (Nat.le_of_lt HM5.out.lt)))
          have HBT : Hid (Below g w w5) := Lib.hid (HB.out.trans (HBV.out.mono (Nat.le_of_lt hgg5)))
          have HM6 := Lib.hid (HM5.out.below hb5 HM5.out.lt)
          have HRL := Lib.hid hrl
          have HOV := Lib.hid hov
          have HA5 := Lib.hid hA5
          have HUS := Lib.hid hus
          have HSZ5 : Hid (g5 < wr.heap.size) := Lib.hid HM5.out.lt
          have hid5 := Lib.hid hb5
          clear hrl hov hus hb5 hA5
          by_cases h2 : inSide (us.length : Int) = true
          · have hln : 1 ≤ us.length ∧ us.length ≤ 6 := by unfold inSide at h2; rw [decide_eq_true_eq] at h2; omega
            by_cases hk0 : k = 0
            · have T1 : decide ((0 : Int) < (k : Int)) = false := by simp; omega
              have T1' : decide (0 < k) = false := by simp; omega
              have HK0 : Hid (0 < k → us.length = c) := Lib.hid (fun h => absurd h (by omega))
              clear hk0
              go_upto_region 12 with (first | (go_at_call 103; refine (is_side _ _).mono ?_; rintro e w' ⟨rfl, rfl⟩))
              obtain ⟨gl, hA5e, hgl1, hgl2⟩ := HA5.out (by omega)
              subst hA5e
              have hne : g5 ≠ gl := by have := HSZ5.out; omega
              have m6 := HM6.out.putC (us.length : Int)
              have l6 : ∀ j, j < us.length → (w'.setCell ⟨g5, 1, none⟩ (.int .i8 (us.length : Int))).cell? ⟨gl, j, none⟩ = some (.int .u16 ((us.getD j 0 : Nat) : Int)) := fun j hj => by
                refine (World.cell?_setCell_far _ _ _ _ hne).trans ?_
                rw [HOV.out.cellAt j (by omega)]
                simp [u16s, uI, List.getD, hj]
              have b6 := HBV.out.setCell (p := ⟨g5, 1, none⟩) (Nat.le_refl _) (.int .i8 (us.length : Int))
              generalize w'.setCell ⟨g5, 1, none⟩ (.int .i8 (us.length : Int)) = wB at m6 l6 b6 ⊢
              have M6 := Lib.hid m6
              have L6 := Lib.hid l6
              have B6 := Lib.hid b6
              have hk6 : (k : Int) < 6 := by omega
              clear m6 l6 b6 hmc h1 hfz1
              have hcp2 := CL_copy (P.length : Int) (us.length : Int) (k * 6) us.length (grid uss) (fun j => ((us.getD j 0 : Nat) : Int)) (by omega)
              have hgr := grid_puts uss us hln.2
              rw [HR.out.1] at hgr
              rw [hgr] at hcp2
              have HCP := Lib.hid hcp2
              clear hcp2 hgr
              go_wp2_with (first | (guard_target =~ wpList _ _ _ (⟨_, Op.call { callee := Callee.builtin Builtin.copy, args := _, argTypes := _ }, _, _, _, _⟩ :: _) _ _; refine wpList_copy_own rfl _ _ 31 31 rfl 24 (by kernel_rfl) (by kernel_rfl) g5 (2 + k * 6) 6 6 ⟨gl, 0, none⟩ us.length c5 rfl rfl (CL (P.length : Int) (us.length : Int) (grid uss)).toArray 66 M6.out (TL us.length fun j => ((us.getD j 0 : Nat) : Int)) (by rw [TL_len]; exact (Nat.min_eq_left hln.2).symm) (fun j v hv => by
                have hj : j < us.length := by have := (List.getElem?_eq_some_iff.1 hv).1; rw [TL_len] at this; exact this
                rw [TL_at _ _ j hj] at hv
                rw [Addr.add_mid, Nat.zero_add]
                exact (L6.out j hj).trans hv) (by rw [TL_len, CL_size]; omega) (fun v hv => by simp [TL] at hv; obtain ⟨_, _, rfl⟩ := hv; rfl) ?_; rw [TL_len, List.toList_toArray, HCP.out]))
              have HME : Hid (MB (wB.setRow g5 (CL (P.length : Int) (us.length : Int) (grid (uss ++ [us]))).toArray) g5 66 (P.length : Int) (us.length : Int) (grid (uss ++ [us]))) := Lib.hid (M6.out.setRow _)
              have HSTEP := Lib.hid (HR.out.step (by rw [← HPL.out]; exact hlt) (by rw [HPE.out]; exact HRL.out) hln HK0.out HUS.out)
              have HBF := Lib.hid (Below.setRow B6.out (Nat.le_refl _) (CL (P.length : Int) (us.length : Int) (grid (uss ++ [us]))).toArray)
              go_roundw
              case rel => exact ⟨k + 1, us.length, uss ++ [us], by go_num, by omega, hln.2, HSTEP, HME, HBF⟩
              case measure => simp [intOf]; omega
            · have T1 : decide ((0 : Int) < (k : Int)) = true := by simp; omega
              have T1' : decide (0 < k) = true := by simp; omega
              by_cases hc : us.length = c
              · have T2 : ((us.length : Int) != (c : Int)) = false := by simp; omega
                have HK0 : Hid (0 < k → us.length = c) := Lib.hid (fun _ => hc)
                clear hk0 hc
                go_upto_region 12 with (first | (go_at_call 103; refine (is_side _ _).mono ?_; rintro e w' ⟨rfl, rfl⟩))
                obtain ⟨gl, hA5e, hgl1, hgl2⟩ := HA5.out (by omega)
                subst hA5e
                have hne : g5 ≠ gl := by have := HSZ5.out; omega
                have m6 := HM6.out.putC (us.length : Int)
                have l6 : ∀ j, j < us.length → (w'.setCell ⟨g5, 1, none⟩ (.int .i8 (us.length : Int))).cell? ⟨gl, j, none⟩ = some (.int .u16 ((us.getD j 0 : Nat) : Int)) := fun j hj => by
                  refine (World.cell?_setCell_far _ _ _ _ hne).trans ?_
                  rw [HOV.out.cellAt j (by omega)]
                  simp [u16s, uI, List.getD, hj]
                have b6 := HBV.out.setCell (p := ⟨g5, 1, none⟩) (Nat.le_refl _) (.int .i8 (us.length : Int))
                generalize w'.setCell ⟨g5, 1, none⟩ (.int .i8 (us.length : Int)) = wB at m6 l6 b6 ⊢
                have M6 := Lib.hid m6
                have L6 := Lib.hid l6
                have B6 := Lib.hid b6
                have hk6 : (k : Int) < 6 := by omega
                clear m6 l6 b6 hmc h1 hfz1
                have hcp2 := CL_copy (P.length : Int) (us.length : Int) (k * 6) us.length (grid uss) (fun j => ((us.getD j 0 : Nat) : Int)) (by omega)
                have hgr := grid_puts uss us hln.2
                rw [HR.out.1] at hgr
                rw [hgr] at hcp2
                have HCP := Lib.hid hcp2
                clear hcp2 hgr
                go_wp2_with (first | (guard_target =~ wpList _ _ _ (⟨_, Op.call { callee := Callee.builtin Builtin.copy, args := _, argTypes := _ }, _, _, _, _⟩ :: _) _ _; refine wpList_copy_own rfl _ _ 31 31 rfl 24 (by kernel_rfl) (by kernel_rfl) g5 (2 + k * 6) 6 6 ⟨gl, 0, none⟩ us.length c5 rfl rfl (CL (P.length : Int) (us.length : Int) (grid uss)).toArray 66 M6.out (TL us.length fun j => ((us.getD j 0 : Nat) : Int)) (by rw [TL_len]; exact (Nat.min_eq_left hln.2).symm) (fun j v hv => by
                  have hj : j < us.length := by have := (List.getElem?_eq_some_iff.1 hv).1; rw [TL_len] at this; exact this
                  rw [TL_at _ _ j hj] at hv
                  rw [Addr.add_mid, Nat.zero_add]
                  exact (L6.out j hj).trans hv) (by rw [TL_len, CL_size]; omega) (fun v hv => by simp [TL] at hv; obtain ⟨_, _, rfl⟩ := hv; rfl) ?_; rw [TL_len, List.toList_toArray, HCP.out]))
                have HME : Hid (MB (wB.setRow g5 (CL (P.length : Int) (us.length : Int) (grid (uss ++ [us]))).toArray) g5 66 (P.length : Int) (us.length : Int) (grid (uss ++ [us]))) := Lib.hid (M6.out.setRow _)
                have HSTEP := Lib.hid (HR.out.step (by rw [← HPL.out]; exact hlt) (by rw [HPE.out]; exact HRL.out) hln HK0.out HUS.out)
                have HBF := Lib.hid (Below.setRow B6.out (Nat.le_refl _) (CL (P.length : Int) (us.length : Int) (grid (uss ++ [us]))).toArray)
                go_roundw
                case rel => exact ⟨k + 1, us.length, uss ++ [us], by go_num, by omega, hln.2, HSTEP, HME, HBF⟩
                case measure => simp [intOf]; omega
              · have T2 : ((us.length : Int) != (c : Int)) = true := by simp; omega
                have HNO := Lib.hid (show ¬ ∃ uss c, RM s.data.toList uss c from fun ⟨a, b, h⟩ => HRK.out (fun vs hv hl => by
                  obtain rfl := RL.inj hv (by rw [HPE.out]; exact HRL.out)
                  exact ⟨by omega, hc⟩) ⟨a, b, h.2⟩)
                clear hk0 hc
                go_wp2_with (first | (go_at_call 103; refine (is_side _ _).mono ?_; rintro e w' ⟨rfl, rfl⟩) | (guard_target =~ wpList _ _ _ (⟨_, Op.build 66 _, _, _, _, _⟩ :: _) _ _; refine wpList_build0 rfl 66 rfl (CL 0 0 fun _ => 0).toArray (by kernel_rfl) ?_) | (guard_target =~ wpList _ _ _ (⟨_, Op.store 66 (Operand.tmp 2) _, _, _, _, _⟩ :: _) _ _; refine wpList_store_row rfl 66 _ _ rfl g (CL 0 0 fun _ => 0).toArray rfl rfl _ _ HMG.out (by kernel_rfl) rfl (CL_one _ _ _) ?_))
                refine bodyPost_ret (v := .tuple #[MV 0 0 (fun _ => 0), .int .i64 5]) ?_ rfl ⟨.inr ⟨HNO.out, rfl⟩, by obtain rfl := HG.out; exact Below.setRow HBT.out (Nat.le_refl _) _⟩
                exact results_cell_tmp2 rfl _ _ g _ _ (0, 0) _ _ rfl rfl (HMG.out.setRow _) Tryd.underlying66 rfl (by kernel_rfl)
          · have h2' : inSide (us.length : Int) = false := by simpa using h2
            have hln : ¬ (1 ≤ us.length ∧ us.length ≤ 6) := by unfold inSide at h2; rw [decide_eq_true_eq] at h2; omega
            have HNO := Lib.hid (show ¬ ∃ uss c, RM s.data.toList uss c from fun ⟨a, b, h⟩ => HRK.out (fun vs hv hl => by
              obtain rfl := RL.inj hv (by rw [HPE.out]; exact HRL.out)
              exact absurd hl hln) ⟨a, b, h.2⟩)
            clear h2 hln
            go_wp2_with (first | (go_at_call 103; refine (is_side _ _).mono ?_; rintro e w' ⟨rfl, rfl⟩) | (guard_target =~ wpList _ _ _ (⟨_, Op.build 66 _, _, _, _, _⟩ :: _) _ _; refine wpList_build0 rfl 66 rfl (CL 0 0 fun _ => 0).toArray (by kernel_rfl) ?_) | (guard_target =~ wpList _ _ _ (⟨_, Op.store 66 (Operand.tmp 2) _, _, _, _, _⟩ :: _) _ _; refine wpList_store_row rfl 66 _ _ rfl g (CL 0 0 fun _ => 0).toArray rfl rfl _ _ HMG.out (by kernel_rfl) rfl (CL_one _ _ _) ?_))
            refine bodyPost_ret (v := .tuple #[MV 0 0 (fun _ => 0), .int .i64 5]) ?_ rfl ⟨.inr ⟨HNO.out, rfl⟩, by obtain rfl := HG.out; exact Below.setRow HBT.out (Nat.le_refl _) _⟩
            exact results_cell_tmp2 rfl _ _ g _ _ (0, 0) _ _ rfl rfl (HMG.out.setRow _) Tryd.underlying66 rfl (by kernel_rfl)
        · have HMG : Hid (MB w5 g 66 0 0 (fun _ => 0)) := Lib.hid ((HM.out.below HB5.out (by omega)).below hb5 (by have := HM5.out.lt; omega))
          have HBV := Lib.hid (HB5.out.trans (hb5.mono (Nat.le_of_lt HM5.out.lt)))
          have HBT : Hid (Below g w w5) := Lib.hid (HB.out.trans (HBV.out.mono (Nat.le_of_lt hgg5)))
          obtain ⟨A5, c5, rfl, _, hA5⟩ := own_form2 hov
          have HNO := Lib.hid (show ¬ ∃ uss c, RM s.data.toList uss c from fun ⟨a, b, h⟩ => HRK.out (fun vs hv hl => absurd ⟨vs, by rw [← HPE.out]; exact hv⟩ hno) ⟨a, b, h.2⟩)
          clear hno hov hb5 hA5
          go_wp2_with (first | (guard_target =~ wpList _ _ _ (⟨_, Op.build 66 _, _, _, _, _⟩ :: _) _ _; refine wpList_build0 rfl 66 rfl (CL 0 0 fun _ => 0).toArray (by kernel_rfl) ?_) | (guard_target =~ wpList _ _ _ (⟨_, Op.store 66 (Operand.tmp 2) _, _, _, _, _⟩ :: _) _ _; refine wpList_store_row rfl 66 _ _ rfl g (CL 0 0 fun _ => 0).toArray rfl rfl _ _ HMG.out (by kernel_rfl) rfl (CL_one _ _ _) ?_))
          refine bodyPost_ret (v := .tuple #[MV 0 0 (fun _ => 0), .int .i64 5]) ?_ rfl ⟨.inr ⟨HNO.out, rfl⟩, by obtain rfl := HG.out; exact Below.setRow HBT.out (Nat.le_refl _) _⟩
          exact results_cell_tmp2 rfl _ _ g _ _ (0, 0) _ _ rfl rfl (HMG.out.setRow _) Tryd.underlying66 rfl (by kernel_rfl)
      · obtain rfl : P.length = k := by omega
        have HMG : Hid (MB wr g 66 0 0 (fun _ => 0)) := Lib.hid (HM.out.below HB5.out (by omega))
        have HBT : Hid (Below g w wr) := Lib.hid (HB.out.trans (HB5.out.mono (Nat.le_of_lt hgg5)))
        have HYES := Lib.hid (show RM s.data.toList uss c from ⟨by rw [← HPL.out]; exact hle, by rw [← HPL.out]; exact HR.out⟩)
        go_wp2_with (first | (guard_target =~ wpList _ _ _ (⟨_, Op.load 66 (Operand.tmp 5), _, _, _, _⟩ :: _) _ _; refine wpList_load_row rfl 66 _ rfl (g5) rfl _ (CL (P.length : Int) (c : Int) (grid uss)).toArray (0, 0) _ HM5.out Tryd.underlying66 rfl (by kernel_rfl) ?_) | (guard_target =~ wpList _ _ _ (⟨_, Op.store 66 (Operand.tmp 2) _, _, _, _, _⟩ :: _) _ _; refine wpList_store_row rfl 66 _ _ rfl g (CL (P.length : Int) (c : Int) (grid uss)).toArray rfl rfl _ _ HMG.out (by kernel_rfl) rfl (CL_one _ _ _) ?_))
        refine bodyPost_ret (v := .tuple #[MV (P.length : Int) (c : Int) (grid uss), .int .i64 0]) ?_ rfl ⟨.inl ⟨uss, c, HYES.out, by rw [← HPL.out]⟩, by obtain rfl := HG.out; exact Below.setRow HBT.out (Nat.le_refl _) _⟩
        exact results_cell_tmp2 rfl _ _ g _ _ (0, 0) _ _ rfl rfl (HMG.out.setRow _) Tryd.underlying66 rfl (by kernel_rfl)
end Go.Proofs.YtklddmmbbaaliaaDoor
