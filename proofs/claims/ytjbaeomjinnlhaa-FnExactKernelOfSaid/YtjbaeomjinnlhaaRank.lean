/-
  The first columns of the rows; RankOf.
-/
import Derived.Test.YtjbaeomjinnlhaaOk2
import Derived.Deep.RegionHeld
import Derived.Test.YtjbaeomjinnlhaaRdm
namespace Go.Proofs.Ytjbaeomjinnlhaa
set_option linter.unusedVariables false
set_option linter.unusedSimpArgs false
open Go.ChangeShapes Go.WideShapes Go.ChangeAt Go.RowKit

def leadsF (f : Nat → Int) (n : Nat) : List Nat := Nim.leadsN (natG f) n
theorem LRC_one (p : Nat) (v : Nat → Int) : (LRC p v).toArray.all (·.oneCell') = true := by
  have h := TL_one 6 v
  rw [List.all_toArray] at h ⊢
  unfold LRC
  rw [List.all_cons, h]; rfl
theorem leadsF_yes (f : Nat → Int) (n : Nat) (h : firstI (fun j => f (n * 6 + j)) < 6) : leadsF f (n + 1) = leadsF f n ++ [firstI fun j => f (n * 6 + j)] := by
  show (if Nim.firstOf (natG f n) < 6 then _ else _) = _
  exact if_pos h
theorem leadsF_no (f : Nat → Int) (n : Nat) (h : ¬ firstI (fun j => f (n * 6 + j)) < 6) : leadsF f (n + 1) = leadsF f n := by
  show (if Nim.firstOf (natG f n) < 6 then _ else _) = _
  exact if_neg h
theorem leadsF_len (f : Nat → Int) : ∀ n, (leadsF f n).length ≤ n
  | 0 => Nat.le_refl 0
  | n + 1 => by
    have := leadsF_len f n
    by_cases h : firstI (fun j => f (n * 6 + j)) < 6
    · rw [leadsF_yes f n h, List.length_append]; simp; omega
    · rw [leadsF_no f n h]; omega
set_option maxRecDepth 100000 in
set_option maxHeartbeats 2000000 in
theorem leads_any (r c : Int) (f : Nat → Int) (hf : VW f) (w : World) : Calls Try.prog 120 #[MV r c f] w fun e w' => ∃ v, e = .returned v ∧ w'.ownsRow w.heap.size 3 1 v (leadsF f 6).length (ints (leadsF f 6)) ∧ Below w.heap.size w w' := by
  obtain ⟨i0, hi, hz0, hz1, hz2⟩ := info_parts infoInt
  have hta1 : ∀ (v : Value) (w : World), (Instr.typeAssert (.iface 153 v) 144 153 true).run Try.prog w = .ok (.tuple #[v, .bool true]) w := fun _ _ => by kernel_rfl
  have hta2 : ∀ (w : World), (Instr.typeAssert (.iface 159 (.agg #[])) 144 153 true).run Try.prog w = .ok (.tuple #[.agg (LRC 0 fun _ => 0).toArray, .bool false]) w := fun _ => by kernel_rfl
  go_enter Try.func120, Try.ntmps120
  go_upto_region 1 with fail
  obtain ⟨a1, a4, a5⟩ := new1 w (.cells (CL r c f).toArray 33)
  obtain ⟨g, hg⟩ : ∃ g, g = w.heap.size := ⟨_, rfl⟩
  rw [← hg] at a1 a4 a5 ⊢
  generalize World.alloc w _ = w2 at a1 a4 a5 ⊢
  replace a1 : MB w2 g 33 r c f := a1
  have HG := Lib.hid hg
  have HF := Lib.hid hf
  clear hg hf a5
  go_wp2_with (first | (guard_target =~ wpList _ _ _ (⟨_, Op.load 33 (Operand.tmp 1), _, _, _, _⟩ :: _) _ _; refine wpList_load_row rfl 33 _ rfl (g) rfl _ (CL r c f).toArray (0, 0) _ a1 Try.underlying33 rfl (by kernel_rfl) ?_))
  refine (rows_any r c f HF.out _).mono ?_
  rintro e wn ⟨rfl, hn⟩
  have hs : g ≤ wn.heap.size := Nat.le_trans (Nat.le_of_lt a1.lt) hn.size
  replace a4 := bnext a4 hn (Nat.le_of_lt a1.lt)
  clear hn a1
  go_wp2_with fail
  go_loopw [10, 3] (fun y s wr => ∃ (k : Nat), y = .int .i64 k ∧ k ≤ 6 ∧ Hid (wr.ownsRow g 3 1 s (leadsF f k).length (ints (leadsF f k))) ∧ Hid (Below g w wr) ∧ Hid (g ≤ wr.heap.size)) (fun y _ _ => (6 - intOf y).toNat)
  case atStart => exact ⟨0, rfl, by omega, Lib.hid (World.ownsRow_nil _ _ _ _), Lib.hid a4, Lib.hid hs⟩
  case round =>
    clear a4 hs
    obtain ⟨k, rfl, hk, HO, HBW, HS⟩ := hrel
    by_cases hlt : k < 6
    · have T1 : decide ((k : Int) < 6) = true := by simp; omega
      have k1 : (k : Int) < 6 := by omega
      have ix : (IL 6 f).toArray[k]? = some (rowV fun j => f (k * 6 + j)) := by rw [List.getElem?_toArray, IL_at 6 f k hlt, if_pos hlt]
      by_cases hp : firstI (fun j => f (k * 6 + j)) < 6
      · have hR : rowV (fun j => f (k * 6 + j)) = .iface 153 (.agg (LRC (firstI fun j => f (k * 6 + j)) fun j => f (k * 6 + j)).toArray) := by unfold rowV; rw [if_pos hp]
        rw [hR] at ix
        have HL := Lib.hid (leadsF_yes f k hp)
        clear hR hp
        obtain ⟨q, hq⟩ : ∃ q, q = firstI fun j => f (k * 6 + j) := ⟨_, rfl⟩
        rw [← hq] at ix HL
        clear hq
        go_upto_region 6 with (first | guard_target =~ wpList _ _ _ (⟨_, Op.index 145 _ _, _, _, _, _⟩ :: _) _ _; refine wpList_index_iface (e := 144) rfl 145 _ _ rfl (IL 6 f).toArray k rfl rfl hlt _ ix (by kernel_rfl) Try.underlying144 (by kernel_rfl) ?_ | guard_target =~ wpList _ _ _ (⟨_, Op.store 153 _ _, _, _, _, _⟩ :: _) _ _; refine wpList_store_fresh (cells := (LRC q fun j => f (k * 6 + j)).toArray) rfl 153 _ _ rfl rfl rfl (by kernel_rfl) rfl (LRC_one _ _) ?_)
        have b1 : HB (wr.alloc (.cells (LRC q fun j => f (k * 6 + j)).toArray 153)) wr.heap.size q (fun j => f (k * 6 + j)) := heap_alloc_last _ _
        have b2 := Lib.hid (HO.out.alloc (.cells (LRC q fun j => f (k * 6 + j)).toArray 153))
        have b3 := Lib.hid (HBW.out.alloc HS.out (.cells (LRC q fun j => f (k * 6 + j)).toArray 153))
        have b4 : g ≤ (wr.alloc (.cells (LRC q fun j => f (k * 6 + j)).toArray 153)).heap.size := by rw [World.size_alloc]; have := HS.out; omega
        generalize wr.alloc (.cells (LRC q fun j => f (k * 6 + j)).toArray 153) = wd at b1 b2 b3 b4 ⊢
        have c0 := b1.first
        have hll := leadsF_len f k
        clear HO HBW HS b1 ix
        go_wp2_with (at_builtin; refine wpList_append_own _ rfl _ _ 110 rfl g 3 i0 (.int .i64 0) 1 8 Try.underlying110 hi hz0 hz1 hz2 rfl (by decide) _ (leadsF f k).length _ rfl (b2.out.alloc _) ⟨wd.heap.size, 0, none⟩ 1 1 [.int .i64 q] rfl rfl ?c1 ?c2 ?c3 ?c4 ?c5 ?_)
        case c1 => exact one_cell2 _ _ _
        case c2 => simp [Value.oneCell']
        case c3 => unfold maxLen; omega
        case c4 => omega
        case c5 => rw [World.size_alloc]; omega
        intro s' wz hown2 hgrow2 _
        rw [ints_snoc, ← HL.out] at hown2
        have e3 : (leadsF f k).length + 1 = (leadsF f (k + 1)).length := by rw [HL.out, List.length_append]; rfl
        rw [e3] at hown2
        have hb2 := Lib.hid ((b3.out.alloc b4 _).grown hgrow2 (by rw [World.size_alloc]; omega) (fun x hx => (b2.out.lt x hx).1))
        have hs2 := Lib.hid (show g ≤ wz.heap.size from Nat.le_trans (by rw [World.size_alloc]; omega) hgrow2.size)
        have HO2 := Lib.hid hown2
        clear hown2 hgrow2 b2 b3 b4 c0
        go_wp2_with fail
        exact ⟨⟨k + 1, rfl, by omega, HO2, hb2, hs2⟩, by simp [intOf]; omega⟩
      · have hR : rowV (fun j => f (k * 6 + j)) = .iface 159 (.agg #[]) := by unfold rowV; rw [if_neg hp]
        rw [hR] at ix
        have HL := Lib.hid (leadsF_no f k hp)
        clear hR hp
        go_upto_region 6 with (first | guard_target =~ wpList _ _ _ (⟨_, Op.index 145 _ _, _, _, _, _⟩ :: _) _ _; refine wpList_index_iface (e := 144) rfl 145 _ _ rfl (IL 6 f).toArray k rfl rfl hlt _ ix (by kernel_rfl) Try.underlying144 (by kernel_rfl) ?_ | guard_target =~ wpList _ _ _ (⟨_, Op.store 153 _ _, _, _, _, _⟩ :: _) _ _; refine wpList_store_fresh (cells := (LRC 0 fun _ => 0).toArray) rfl 153 _ _ rfl rfl rfl (by kernel_rfl) rfl (LRC_one _ _) ?_)
        have b2 := Lib.hid (HO.out.alloc (.cells (LRC 0 fun _ => 0).toArray 153))
        have b3 := Lib.hid (HBW.out.alloc HS.out (.cells (LRC 0 fun _ => 0).toArray 153))
        have b4 := Lib.hid (show g ≤ (wr.alloc (.cells (LRC 0 fun _ => 0).toArray 153)).heap.size by rw [World.size_alloc]; have := HS.out; omega)
        generalize wr.alloc (.cells (LRC 0 fun _ => 0).toArray 153) = wd at b2 b3 b4 ⊢
        clear HO HBW HS ix
        go_wp2_with fail
        exact ⟨⟨k + 1, rfl, by omega, by rw [HL.out]; exact b2, b3, b4⟩, by simp [intOf]; omega⟩
    · obtain rfl : k = 6 := by omega
      have T1 : decide (((6 : Nat) : Int) < 6) = false := by simp
      go_wp2_with fail
      go_ret
      obtain rfl := HG.out
      exact ⟨_, rfl, HO.out, HBW.out⟩

theorem leadsF_zero : ∀ n, leadsF (fun _ => 0) n = []
  | 0 => rfl
  | n + 1 => by rw [leadsF_no _ n (by rw [firstI_none (fun _ _ => rfl)]; omega), leadsF_zero n]
theorem first_like {a b : Nat → Nat} (h : ∀ k, k < 6 → a k = b k) : Nim.firstOf a = Nim.firstOf b := by
  unfold Nim.firstOf
  have : ∀ n i, i + n ≤ 6 → Nim.pivotFrom (fun k _ => a k) 0 n i = Nim.pivotFrom (fun k _ => b k) 0 n i := by
    intro n
    induction n with
    | zero => intro i _; rfl
    | succ n ih =>
      intro i hi
      unfold Nim.pivotFrom
      rw [h i (by omega), ih (i + 1) (by omega)]
  exact this 6 0 (by omega)
theorem leads_like {G H : Nat → Nat → Nat} (h : Nim.Like G H) : ∀ n, n ≤ 6 → Nim.leadsN G n = Nim.leadsN H n
  | 0, _ => rfl
  | n + 1, hn => by
    unfold Nim.leadsN
    rw [leads_like h n (by omega), first_like (fun k hk => h n k (by omega) hk)]
theorem leads_red {f : Nat → Int} (hf : VW f) (R : Nat) : leadsF (redF f R) 6 = (Nim.redN (Nim.wide (natG f) R) 6).2 := by
  have h1 := (Nim.redN_red (Nim.wide_b (natG_b hf) R) 6).leads6
  rw [← h1]
  refine leads_like (fun r k hr hk => ?_) 6 (Nat.le_refl 6)
  show (redF f R (r * 6 + k)).toNat = wideM f R r k
  unfold redF
  rw [show (r * 6 + k) / 6 = r from by omega, show (r * 6 + k) % 6 = k from by omega, Int.toNat_natCast]
def rankN (f : Nat → Int) (R : Nat) : Nat := (Nim.redN (Nim.wide (natG f) R) 6).2.length
def rankV (r c : Int) (f : Nat → Int) : Value := if okB r c f = true then .tuple #[.int .i64 (rankN f r.toNat : Nat), .int .i64 0] else .tuple #[.int .i64 0, .int .i64 1]
theorem rankV_form (r c : Int) (f : Nat → Int) (hm : MW r c f) : ∃ vv kk, rankV r c f = .tuple #[.int .i64 vv, .int .i64 kk] := by
  unfold rankV
  split
  · exact ⟨_, _, rfl⟩
  · exact ⟨_, _, rfl⟩
theorem rankN_le {f : Nat → Int} (hf : VW f) (R : Nat) : rankN f R ≤ 6 := Nim.redN_len (Nim.wide_b (natG_b hf) R) 6

set_option maxRecDepth 100000 in
set_option maxHeartbeats 1000000 in
theorem spec_RankOf (r c : Int) (f : Nat → Int) (hm : MW r c f) (w : World) : Calls Try.prog 52 #[MV r c f] w fun e w' => e = .returned (rankV r c f) ∧ Below w.heap.size w w' := by
  go_enter Try.func52, Try.ntmps52
  go_upto_region 1 with fail
  obtain ⟨a1, a4, a5⟩ := new1 w (.cells (CL r c f).toArray 33)
  obtain ⟨g, hg⟩ : ∃ g, g = w.heap.size := ⟨_, rfl⟩
  rw [← hg] at a1 a4 a5 ⊢
  generalize World.alloc w _ = w2 at a1 a4 a5 ⊢
  replace a1 : MB w2 g 33 r c f := a1
  have HG := Lib.hid hg
  have HF := Lib.hid hm.2.2.2.2
  clear hg a5
  go_wp2_with fail
  refine (l02Ok_any r c f hm g _ _ a1).mono ?_
  rintro e wn ⟨rfl, rfl⟩
  rcases hok : okB r c f with _ | _
  · have hV : rankV r c f = .tuple #[.int .i64 0, .int .i64 1] := by unfold rankV; rw [hok]; rfl
    have HV := Lib.hid hV
    clear hok hV
    go_wp2_with fail
    go_ret2
    obtain rfl := HG.out
    exact ⟨congrArg Ending.returned HV.out.symm, a4⟩
  · obtain ⟨R, C, hRe, hCe, _, hR, _, hC⟩ := ok_dims hok
    subst hRe; subst hCe
    obtain ⟨N, hN⟩ : ∃ N, N = rankN f R := ⟨_, rfl⟩
    have HN := Lib.hid hN
    have hV : rankV R C f = .tuple #[.int .i64 (N : Nat), .int .i64 0] := by unfold rankV; rw [hok, hN]; rfl
    have HV := Lib.hid hV
    have HOK := Lib.hid hok
    clear hok hV hN
    go_wp2_with fail
    refine (l02Reduce_any R C hR hC (natG f) (natG_b HF.out) (ok_zr HOK.out) (ok_zc HOK.out) g _ (a1.ext fun s _ => (un6_nat HF.out s).symm)).mono ?_
    rintro e wm ⟨v, rfl, hown, _, hb⟩
    have b4 := Beside.below a4 hb (Nat.le_refl g) (Nat.le_of_lt a1.lt)
    rw [show (Nim.redN (natG f) C).2.length = N from by rw [HN.out]; unfold rankN; rw [red_firsts HF.out hC HOK.out]] at hown
    clear a1 a4 hb
    rcases hown.2 with ⟨rfl, h0⟩ | ⟨gb, cap, cur, rfl, _⟩
    · rw [h0] at HV
      clear hown
      go_wp2_with fail
      go_ret2
      obtain rfl := HG.out
      exact ⟨congrArg Ending.returned HV.out.symm, b4⟩
    · clear hown
      go_wp2_with fail
      go_ret2
      obtain rfl := HG.out
      exact ⟨congrArg Ending.returned HV.out.symm, b4⟩

set_option maxRecDepth 100000 in
set_option maxHeartbeats 1000000 in
theorem impl_RankOf (r c : Int) (f : Nat → Int) (hm : MW r c f) (w : World) : Calls Try.prog 53 #[MV r c f] w fun e w' => e = .returned (rankV r c f) ∧ Below w.heap.size w w' := by
  go_enter Try.func53, Try.ntmps53
  go_upto_region 1 with fail
  obtain ⟨a1, a4, a5⟩ := new1 w (.cells (CL r c f).toArray 33)
  obtain ⟨g, hg⟩ : ∃ g, g = w.heap.size := ⟨_, rfl⟩
  rw [← hg] at a1 a4 a5 ⊢
  generalize World.alloc w _ = w2 at a1 a4 a5 ⊢
  replace a1 : MB w2 g 33 r c f := a1
  have HG := Lib.hid hg
  have HF := Lib.hid hm.2.2.2.2
  clear hg a5
  go_wp2_with (first | (guard_target =~ wpList _ _ _ (⟨_, Op.load 33 (Operand.tmp 1), _, _, _, _⟩ :: _) _ _; refine wpList_load_row rfl 33 _ rfl (g) rfl _ (CL r c f).toArray (0, 0) _ a1 Try.underlying33 rfl (by kernel_rfl) ?_))
  refine (impl_ReduceMatrix r c f hm _).mono ?_
  rintro e wn ⟨rfl, hn⟩
  have hsz : g ≤ wn.heap.size := Nat.le_trans (Nat.le_of_lt a1.lt) hn.size
  replace a4 := bnext a4 hn (Nat.le_of_lt a1.lt)
  clear hn a1
  rcases hok : okB r c f with _ | _
  · obtain ⟨N, hN⟩ : ∃ N : Nat, N = 0 := ⟨_, rfl⟩
    have hV : rankV r c f = .tuple #[.int .i64 (N : Nat), .int .i64 1] := by unfold rankV; rw [hok, hN]; rfl
    have HV := Lib.hid hV
    have hW : reduceV r c f = .tuple #[MV 0 0 (fun _ => 0), .int .i64 1] := by unfold reduceV; rw [hok]; rfl
    rw [hW]
    have HN := Lib.hid hN
    clear hok hV hW hN
    go_upto_region 2 with (first | guard_target =~ wpList _ _ _ (⟨_, Op.store 33 _ _, _, _, _, _⟩ :: _) _ _; refine wpList_store_fresh (cells := (CL 0 0 (fun _ => 0)).toArray) rfl 33 _ _ rfl rfl rfl (by kernel_rfl) (by rw [CL_size]; rfl) (CL_one _ _ _) ?_)
    have b1 : MB (wn.alloc (.cells (CL 0 0 (fun _ => 0)).toArray 33)) wn.heap.size 33 0 0 (fun _ => 0) := heap_alloc_last _ _
    have b4 := a4.alloc (show g ≤ wn.heap.size from hsz) (.cells (CL 0 0 (fun _ => 0)).toArray 33)
    have b5 : g ≤ (wn.alloc (.cells (CL 0 0 (fun _ => 0)).toArray 33)).heap.size := by rw [World.size_alloc]; omega
    obtain ⟨k, hk⟩ : ∃ k, k = wn.heap.size := ⟨_, rfl⟩
    rw [← hk] at b1 ⊢
    generalize wn.alloc (.cells (CL 0 0 (fun _ => 0)).toArray 33) = wd at b1 b4 b5 ⊢
    clear a4 hk hsz
    go_wp2_with (first | (guard_target =~ wpList _ _ _ (⟨_, Op.load 33 (Operand.tmp 4), _, _, _, _⟩ :: _) _ _; refine wpList_load_row rfl 33 _ rfl (k) rfl _ (CL 0 0 (fun _ => 0)).toArray (0, 0) _ b1 Try.underlying33 rfl (by kernel_rfl) ?_))
    refine (leads_any 0 0 (fun _ => 0) (fun _ => ⟨Int.le_refl 0, show (0 : Int) < 65536 by decide⟩) _).mono ?_
    rintro e wm ⟨v, rfl, hown, hn⟩
    replace b4 := bnext b4 hn b5
    rw [leadsF_zero 6, show ([] : List Nat).length = N from HN.out.symm] at hown
    clear b1 b5 hn
    rcases hown.2 with ⟨rfl, h0⟩ | ⟨gb, cap, cur, rfl, _⟩
    · rw [h0] at HV
      clear hown
      go_wp2_with fail
      go_ret2
      obtain rfl := HG.out
      exact ⟨congrArg Ending.returned HV.out.symm, b4⟩
    · clear hown
      go_wp2_with fail
      go_ret2
      obtain rfl := HG.out
      exact ⟨congrArg Ending.returned HV.out.symm, b4⟩
  · obtain ⟨R, C, hRe, hCe, _, hR, _, hC⟩ := ok_dims hok
    subst hRe; subst hCe
    obtain ⟨N, hN⟩ : ∃ N, N = rankN f R := ⟨_, rfl⟩
    have HN := Lib.hid hN
    have hV : rankV R C f = .tuple #[.int .i64 (N : Nat), .int .i64 0] := by unfold rankV; rw [hok, hN]; rfl
    have HV := Lib.hid hV
    have HOK := Lib.hid hok
    have hW : reduceV R C f = .tuple #[MV R C (redF f R), .int .i64 0] := by unfold reduceV; rw [hok]; rfl
    rw [hW]
    obtain ⟨RF, hRF⟩ : ∃ RF, RF = redF f R := ⟨_, rfl⟩
    rw [← hRF]
    have hRB : VW RF := by rw [hRF]; exact redF_b HF.out R
    have HRB := Lib.hid hRB
    have hRL : (leadsF RF 6).length = N := by rw [hRF, leads_red HF.out R, hN]; rfl
    have HRL := Lib.hid hRL
    clear hok hV hN hW hRF hRB hRL
    go_upto_region 2 with (first | guard_target =~ wpList _ _ _ (⟨_, Op.store 33 _ _, _, _, _, _⟩ :: _) _ _; refine wpList_store_fresh (cells := (CL R C RF).toArray) rfl 33 _ _ rfl rfl rfl (by kernel_rfl) (by rw [CL_size]; rfl) (CL_one _ _ _) ?_)
    have b1 : MB (wn.alloc (.cells (CL R C RF).toArray 33)) wn.heap.size 33 R C RF := heap_alloc_last _ _
    have b4 := a4.alloc (show g ≤ wn.heap.size from hsz) (.cells (CL R C RF).toArray 33)
    have b5 : g ≤ (wn.alloc (.cells (CL R C RF).toArray 33)).heap.size := by rw [World.size_alloc]; omega
    obtain ⟨k, hk⟩ : ∃ k, k = wn.heap.size := ⟨_, rfl⟩
    rw [← hk] at b1 ⊢
    generalize wn.alloc (.cells (CL R C RF).toArray 33) = wd at b1 b4 b5 ⊢
    clear a4 hk hsz
    go_wp2_with (first | (guard_target =~ wpList _ _ _ (⟨_, Op.load 33 (Operand.tmp 4), _, _, _, _⟩ :: _) _ _; refine wpList_load_row rfl 33 _ rfl (k) rfl _ (CL R C RF).toArray (0, 0) _ b1 Try.underlying33 rfl (by kernel_rfl) ?_))
    refine (leads_any R C RF HRB.out _).mono ?_
    rintro e wm ⟨v, rfl, hown, hn⟩
    replace b4 := bnext b4 hn b5
    rw [HRL.out] at hown
    clear b1 b5 hn
    rcases hown.2 with ⟨rfl, h0⟩ | ⟨gb, cap, cur, rfl, _⟩
    · rw [h0] at HV
      clear hown
      go_wp2_with fail
      go_ret2
      obtain rfl := HG.out
      exact ⟨congrArg Ending.returned HV.out.symm, b4⟩
    · clear hown
      go_wp2_with fail
      go_ret2
      obtain rfl := HG.out
      exact ⟨congrArg Ending.returned HV.out.symm, b4⟩
end Go.Proofs.Ytjbaeomjinnlhaa
