/-
  Products by exclusion: the specification's walk.
-/
import Derived.Test.YtklddmmbbaaliaaTmS
namespace Go.Proofs.Ytklddmmbbaaliaa
set_option linter.unusedVariables false
set_option linter.unusedSimpArgs false
open Go.ChangeShapes Go.WideShapes Go.ChangeAt Go.RowKit
def natAt (w : World) (g n : Nat) : Nat := match w.cell? ⟨g, n, none⟩ with | some v => (intOf v).toNat | none => 0
theorem UB.nat {w : World} {g : Nat} {f : Nat → Nat → Nat} (h : UB w g f) (x y : Nat) (hx : x < 32) (hy : y < 32) : natAt w g (x * 32 + y) = f x y := by
  unfold natAt; rw [h.cell x y hx hy]; simp [intOf]
set_option maxRecDepth 100000 in
set_option maxHeartbeats 4000000 in
theorem spec_Tbe (a b : Nat) (ha : a < 32) (hb : b < 32) (w : World) :
    Calls Try.prog 9 #[.int .u16 (a : Int), .int .u16 (b : Int)] w fun e w' => e = .returned (.tuple #[.int .u16 ((TT a b : Nat) : Int), .int .i64 0]) ∧ Below w.heap.size w w' := by
  have t1 : decide ((31 : Int) < (a : Int)) = false := by simp; omega
  have t2 : decide ((31 : Int) < (b : Int)) = false := by simp; omega
  obtain ⟨it, hit, hzero, hsize⟩ := zeroU
  obtain ⟨it2, hit2, hzero2, hsize2⟩ := zeroS
  obtain ⟨ie, hie⟩ : ∃ ie, Try.prog.info? 37 = some ie := Option.isSome_iff_exists.1 (by kernel_rfl)
  obtain ⟨ie2, hie2⟩ : ∃ ie, Try.prog.info? 4 = some ie := Option.isSome_iff_exists.1 (by kernel_rfl)
  have hsz : (Try.prog.info? 38).map (·.size) = some (UL fun _ _ => 0).toArray.size := by
    rw [hit, List.size_toArray, UL_len]; simp [hsize]
  have hsz2 : (Try.prog.info? 39).map (·.size) = some (BL 1024 fun _ => false).toArray.size := by
    rw [hit2, List.size_toArray, BL_len]; simp [hsize2]
  have HIT := Lib.hid hit; have HZERO := Lib.hid hzero; have HIE := Lib.hid hie; have HSZ := Lib.hid hsz
  have HIT2 := Lib.hid hit2; have HZERO2 := Lib.hid hzero2; have HIE2 := Lib.hid hie2; have HSZ2 := Lib.hid hsz2
  clear hit hzero hsize hie hsz hit2 hzero2 hsize2 hie2 hsz2
  obtain ⟨b1, hb1⟩ : ∃ b1, b1 = b + 1 := ⟨_, rfl⟩
  have HB1 := Lib.hid hb1
  clear hb1
  go_enter Try.func9, Try.ntmps9
  go_upto_region 4 with (first | (guard_target =~ wpList _ _ _ (⟨_, Op.build 38 _, _, _, _, _⟩ :: _) _ _; refine wpList_build00 rfl rfl HIT.out HZERO.out uu HIE.out ?_) | (guard_target =~ wpList _ _ _ (⟨_, Op.alloc 38, _, _, _, _⟩ :: _) _ _; refine wpList_alloc0 rfl rfl HIT.out HZERO.out ?_) | (guard_target =~ wpList _ _ _ (⟨_, Op.store 38 _ _, _, _, _, _⟩ :: _) _ _; refine wpList_store_fresh (cells := (UL fun _ _ => 0).toArray) rfl 38 _ _ rfl rfl rfl HSZ.out rfl (UL_one _) ?_))
  have b0 : UB (w.alloc (.cells (UL fun _ _ => 0).toArray 38)) w.heap.size (fun _ _ => 0) := heap_alloc_last _ _
  have c0 : Below w.heap.size w (w.alloc (.cells (UL fun _ _ => 0).toArray 38)) := (Below.refl _ _).alloc (Nat.le_refl _) _
  obtain ⟨g, hg⟩ : ∃ g, g = w.heap.size := ⟨_, rfl⟩
  rw [← hg] at b0 c0 ⊢
  generalize w.alloc (.cells (UL fun _ _ => 0).toArray 38) = wA at b0 c0 ⊢
  have HG := Lib.hid hg
  have HU0 := Lib.hid b0
  have HBL0 := Lib.hid c0
  clear hg b0 c0
  go_wp2_with fail
  go_loopw [7] (fun p wr => ∃ (i : Nat) (f : Nat → Nat → Nat), p = .int .u16 i ∧ i ≤ a + 1 ∧ Hid (UB wr g f) ∧ Hid (TB f b1 i 0 ∧ f i 0 = 0) ∧ Hid (Below g w wr)) (fun p _ => a + 1 - (intOf p).toNat)
  case atStart => exact ⟨0, _, rfl, Nat.zero_le _, HU0, Lib.hid ⟨TB_zero _, rfl⟩, HBL0⟩
  case round =>
    clear HU0 HBL0
    obtain ⟨i, f, rfl, hi, HU, HT, HBL⟩ := hrel
    by_cases hia : i ≤ a
    · have T1 : decide ((i : Int) ≤ (a : Int)) = true := by simp; omega
      go_wp2_with fail
      go_loopw [8] (fun p wr => ∃ (k : Nat) (f : Nat → Nat → Nat), p = .int .u16 k ∧ k ≤ b + 1 ∧ Hid (UB wr g f) ∧ Hid (TB f b1 i k ∧ f i k = 0) ∧ Hid (Below g w wr)) (fun p _ => b + 1 - (intOf p).toNat)
      case atStart => exact ⟨0, f, rfl, Nat.zero_le _, HU, HT, HBL⟩
      case round =>
        clear HU HT HBL f
        obtain ⟨k, f, rfl, hk, HU, HT, HBL⟩ := hrel
        by_cases hkb : k ≤ b
        · have T2 : decide ((k : Int) ≤ (b : Int)) = true := by simp; omega
          go_upto_region 11 with (first | (guard_target =~ wpList _ _ _ (⟨_, Op.build 39 _, _, _, _, _⟩ :: _) _ _; refine wpList_build00 rfl rfl HIT2.out HZERO2.out us HIE2.out ?_) | (guard_target =~ wpList _ _ _ (⟨_, Op.alloc 39, _, _, _, _⟩ :: _) _ _; refine wpList_alloc0 rfl rfl HIT2.out HZERO2.out ?_) | (guard_target =~ wpList _ _ _ (⟨_, Op.store 39 _ _, _, _, _, _⟩ :: _) _ _; refine wpList_store_fresh (cells := (BL 1024 fun _ => false).toArray) rfl 39 _ _ rfl rfl rfl HSZ2.out rfl (BL_one _ _) ?_))
          have b0 : BB (wr.alloc (.cells (BL 1024 fun _ => false).toArray 39)) wr.heap.size 39 1024 (seenF (exL TT i k (i * k)) 0) := by rw [seenF_zero]; exact heap_alloc_last _ _
          have b2 : UB (wr.alloc (.cells (BL 1024 fun _ => false).toArray 39)) g f := HU.out.below ((Below.refl _ _).alloc (Nat.le_refl _) _) HU.out.lt
          have b3 : Below g w (wr.alloc (.cells (BL 1024 fun _ => false).toArray 39)) := HBL.out.alloc (Nat.le_of_lt HU.out.lt) _
          have b4 : g < wr.heap.size := HU.out.lt
          obtain ⟨h, hh⟩ : ∃ h, h = wr.heap.size := ⟨_, rfl⟩
          rw [← hh] at b0 b4 ⊢
          generalize wr.alloc (.cells (BL 1024 fun _ => false).toArray 39) = wB at b0 b2 b3 ⊢
          clear hh HU HBL
          have HS := Lib.hid b0; have HU := Lib.hid b2; have HBL := Lib.hid b3; have HGH := Lib.hid b4
          clear b0 b2 b3 b4
          go_wp2_with fail
          go_loopw [10] (fun p wr => ∃ (x : Nat), p = .int .u16 x ∧ x ≤ i ∧ Hid (UB wr g f) ∧ Hid (BB wr h 39 1024 (seenF (exL TT i k (i * k)) (x * k))) ∧ Hid (Below g w wr)) (fun p _ => i - (intOf p).toNat)
          case atStart => exact ⟨0, rfl, Nat.zero_le _, HU, (by rw [Nat.zero_mul]; exact HS), HBL⟩
          case round =>
            clear HU HS HBL
            obtain ⟨x, rfl, hx, HU, HS, HBL⟩ := hrel
            by_cases hxi : x < i
            · have T3 : decide ((x : Int) < (i : Int)) = true := by simp; omega
              go_wp2_with fail
              go_loopw [11] (fun p wr => ∃ (y : Nat), p = .int .u16 y ∧ y ≤ k ∧ Hid (UB wr g f) ∧ Hid (BB wr h 39 1024 (seenF (exL TT i k (i * k)) (x * k + y))) ∧ Hid (Below g w wr)) (fun p _ => k - (intOf p).toNat)
              case atStart => exact ⟨0, rfl, Nat.zero_le _, HU, HS, HBL⟩
              case round =>
                clear HU HS HBL
                obtain ⟨y, rfl, hy, HU, HS, HBL⟩ := hrel
                by_cases hyk : y < k
                · have T4 : decide ((y : Int) < (k : Int)) = true := by simp; omega
                  obtain ⟨p, hp⟩ : ∃ p, f x k = p := ⟨_, rfl⟩
                  obtain ⟨q, hq⟩ : ∃ q, f i y = q := ⟨_, rfl⟩
                  obtain ⟨r, hr⟩ : ∃ r, f x y = r := ⟨_, rfl⟩
                  have c1 := HU.out.cell x k (by omega) (by omega)
                  have c2 := HU.out.cell i y (by omega) (by omega)
                  have c3 := HU.out.cell x y (by omega) (by omega)
                  have hge := TB_get HT.out.1 (show k < b1 by have := HB1.out; omega) hxi hyk
                  have p1 := TT_lt (i := x) (k := k) (by omega) (by omega)
                  have p2 := TT_lt (i := i) (k := y) (by omega) (by omega)
                  have p3 := TT_lt (i := x) (k := y) (by omega) (by omega)
                  rw [← HT.out.1.1 x k hxi (by have := HB1.out; omega), hp] at p1
                  rw [← HT.out.1.2.1 y hyk, hq] at p2
                  rw [← HT.out.1.1 x y hxi (by have := HB1.out; omega), hr] at p3
                  rw [hp] at c1; rw [hq] at c2; rw [hr] at c3
                  rw [hp, hq, hr] at hge
                  have hu := exN_lt (i := i) (k := k) (x := x) (y := y) (by omega) (by omega) (by omega) (by omega)
                  have hpos : x * k + y < i * k := by
                    have : (x + 1) * k ≤ i * k := Nat.mul_le_mul_right k (by omega)
                    rw [Nat.add_mul] at this; omega
                  have hnx := seenF_next (exL TT i k (i * k)) (x * k + y) (exN TT i k x y) (by rw [exL_len]; exact hpos) (by rw [exL_at _ _ _ _ _ hpos, (pos_div hyk).1, (pos_div hyk).2])
                  obtain ⟨s, hs⟩ : ∃ s, p ^^^ q = s := ⟨_, rfl⟩
                  have e1 : bits .xor .u16 (p : Int) (q : Int) = (s : Int) := by rw [u16_xor_nat p q (by omega) (by omega), hs]
                  have hs2 : s < 1024 := by rw [← hs]; exact Nat.xor_lt_two_pow (n := 10) p1 p2
                  obtain ⟨u, hu2⟩ : ∃ u, exN TT i k x y = u := ⟨_, rfl⟩
                  rw [hs, hu2] at hge
                  have e2 : bits .xor .u16 (s : Int) (r : Int) = (u : Int) := by rw [u16_xor_nat s r (by omega) (by omega), hge]
                  rw [hu2] at hnx hu
                  have hput := HS.out.put u hu
                  rw [hnx] at hput
                  have f1 := HS.out.free u
                  have f2 : ∃ v, wr.cell? ⟨h, u, none⟩ = some v := ⟨_, HS.out.cell u hu⟩
                  obtain ⟨v0, f2⟩ := f2
                  have i1 : (x : Int) < 32 := by omega
                  have i2 : (k : Int) < 32 := by omega
                  have i3 : (i : Int) < 32 := by omega
                  have i4 : (y : Int) < 32 := by omega
                  have i5 : (u : Int) < 1024 := by omega
                  have HU2 := Lib.hid (HU.out.other (p := ⟨h, u, none⟩) (.bool true) (Nat.ne_of_gt HGH.out))
                  have HBL2 := Lib.hid (HBL.out.setCell (p := ⟨h, u, none⟩) (Nat.le_of_lt HGH.out) (.bool true))
                  have HS2 := Lib.hid hput
                  clear hput hnx hge hs hu2 hp hq hr p1 p2 p3 hs2
                  clear HU HS HBL
                  go_wp2_with fail
                  go_still_tail 18, (by kernel_rfl)
                  change wpList _ _ _ _ _ wr.drew
                  go_wp2_with fail
                  exact ⟨⟨y + 1, by go_num, by omega, HU2, HS2, Lib.hid HBL2.out.drew⟩, by simp [intOf]; omega⟩
                · obtain rfl : y = k := by omega
                  have T4 : decide ((y : Int) < (y : Int)) = false := by simp
                  go_wp2_with fail
                  exact ⟨⟨x + 1, by go_num, by omega, HU, (by rw [Nat.add_mul, Nat.one_mul]; exact HS), HBL⟩, by simp [intOf]; omega⟩
            · obtain rfl : x = i := by omega
              have T3 : decide ((x : Int) < (x : Int)) = false := by simp
              go_wp2_with fail
              go_loopw [65] (fun p wr => ∃ (f : Nat → Nat → Nat), Hid (UB wr g f) ∧ Hid (TB f b1 x k) ∧ Hid (BB wr h 39 1024 (seenF (exL TT x k (x * k)) (x * k))) ∧ Hid (∀ j, j < f x k → ((j : Nat) : Int) ∈ exL TT x k (x * k)) ∧ Hid (Below g w wr)) (fun _ wr => x * k - natAt wr g (x * 32 + k))
              case atStart => exact ⟨f, HU, Lib.hid HT.out.1, HS, Lib.hid (fun j hj => by rw [HT.out.2] at hj; omega), HBL⟩
              case round =>
                clear HU HS HBL HT
                obtain ⟨F, HU, HT, HS, HN, HBL⟩ := hrel
                obtain ⟨n, hn⟩ : ∃ n, F x k = n := ⟨_, rfl⟩
                have hnat := HU.out.nat x k (by omega) (by omega)
                have c1 := HU.out.cell x k (by omega) (by omega)
                rw [hn] at c1 hnat HN
                have hle : n ≤ x * k := by have := pig n _ HN.out; rw [exL_len] at this; exact this
                have hxk : x * k ≤ 31 * 31 := Nat.mul_le_mul (by omega) (by omega)
                have q1 := HS.out.cell n (by omega)
                have sa : seenF (exL TT x k (x * k)) (x * k) n = decide (((n : Nat) : Int) ∈ exL TT x k (x * k)) := by
                  have := seenF_all (exL TT x k (x * k)) n
                  rw [exL_len] at this; exact this
                rw [sa] at q1
                have i1 : (x : Int) < 32 := by omega
                have i2 : (k : Int) < 32 := by omega
                have i3 : (n : Int) < 1024 := by omega
                by_cases hm : ((n : Nat) : Int) ∈ exL TT x k (x * k)
                · rw [decide_eq_true hm] at q1
                  have hn2 : ∀ j, j < n + 1 → ((j : Nat) : Int) ∈ exL TT x k (x * k) := fun j hj => by
                    by_cases e : j = n
                    · rw [e]; exact hm
                    · exact HN.out j (by omega)
                  have hp : n + 1 ≤ x * k := by have := pig (n + 1) _ hn2; rw [exL_len] at this; exact this
                  have HN2 : Hid (∀ j, j < upd2 F x k (n + 1) x k → ((j : Nat) : Int) ∈ exL TT x k (x * k)) := Lib.hid (by rw [upd2_at]; exact hn2)
                  have HT2 := Lib.hid (TB_upd HT.out (n + 1))
                  have hput := HU.out.put x k (n + 1) (by omega) (by omega)
                  have f1 := HU.out.free (x * 32 + k)
                  have HNAT := Lib.hid (show natAt (wr.setCell ⟨g, x * 32 + k, none⟩ (.int .u16 ((n + 1 : Nat) : Int))) g (x * 32 + k) = n + 1 by rw [hput.nat x k (by omega) (by omega), upd2_at])
                  have HNAT0 := Lib.hid hnat
                  have HU2 := Lib.hid hput
                  have HBL2 := Lib.hid (HBL.out.setCell (p := ⟨g, x * 32 + k, none⟩) (Nat.le_refl _) (.int .u16 ((n + 1 : Nat) : Int)))
                  have HS2 : Hid (BB (wr.setCell ⟨g, x * 32 + k, none⟩ (.int .u16 ((n + 1 : Nat) : Int))) h 39 1024 (seenF (exL TT x k (x * k)) (x * k))) := Lib.hid (by unfold BB; rw [heap_setCell_other _ _ _ _ (Nat.ne_of_gt HGH.out)]; exact HS.out)
                  clear hput hnat hm hn hn2 sa HN HU HS HBL
                  go_wp2_with fail
                  go_still_tail 8, (by kernel_rfl)
                  change wpList _ _ _ _ _ wr.drew
                  go_wp2_with fail
                  exact ⟨⟨upd2 F x k (n + 1), HU2, HT2, HS2, HN2, Lib.hid HBL2.out.drew⟩, by
                    have e0 := HNAT0.out
                    have e1 := HNAT.out
                    show x * k - natAt (wr.setCell ⟨g, x * 32 + k, none⟩ (.int .u16 ((n + 1 : Nat) : Int))) g (x * 32 + k) < x * k - natAt wr g (x * 32 + k)
                    rw [e0, e1]; omega⟩
                · rw [decide_eq_false hm] at q1
                  have hX := (show mexP (exL TT x k (x * k)) n from ⟨HN.out, hm⟩).one (TT_mex x k)
                  have HT2 : Hid (TB F b1 x (k + 1) ∧ F x (k + 1) = 0) := Lib.hid ⟨TB_col HT.out (hn.trans hX), HT.out.2.2.1 (k + 1) (by omega)⟩
                  clear hX hm hn sa HN hnat
                  go_wp2_with fail
                  exact ⟨⟨k + 1, F, by go_num, by omega, HU, HT2, HBL⟩, by simp [intOf]; omega⟩
        · obtain rfl : b + 1 = k := by omega
          have T2 : decide (((b + 1 : Nat) : Int) ≤ (b : Int)) = false := by simp; omega
          go_wp2_with fail
          exact ⟨⟨i + 1, f, by go_num, by omega, HU, Lib.hid (by have h := HT.out.1; rw [← HB1.out] at h; exact TB_row h), HBL⟩, by simp [intOf]; omega⟩
    · obtain rfl : a + 1 = i := by omega
      have T1 : decide (((a + 1 : Nat) : Int) ≤ (a : Int)) = false := by simp; omega
      have c1 := HU.out.cell a b (by omega) (by omega)
      have i1 : (a : Int) < 32 := by omega
      have i2 : (b : Int) < 32 := by omega
      rw [HT.out.1.1 a b (by omega) (by rw [HB1.out]; omega)] at c1
      go_wp2_with fail
      go_ret2
      exact ⟨rfl, by have := HBL.out; rw [HG.out] at this; exact this⟩
end Go.Proofs.Ytklddmmbbaaliaa
