/-
  Contracts of LeastGenerator and OrderOf, of the program and of the model.
-/
import Derived.Test.YthnloaddmkpmkaaGen
namespace Go.Proofs.Ythnloaddmkpmkaa
set_option linter.unusedVariables false
set_option linter.unusedSimpArgs false
open Go.ChangeShapes Go.WideShapes Go.ChangeAt Go.RowKit
theorem gtrans {a b c : World} (h1 : Grown a b) (h2 : Grown b c) : Grown a c := ⟨World.keptBut_trans h1.1 h2.1, fun x => (h2.2.1 x).trans (h1.2.1 x), Nat.le_trans h1.2.2 h2.2.2⟩

theorem impl_OrderOf0 (x : Int) (hx : x = 0) (w : World) :
    Calls Try.prog 43 #[.int .u16 x] w fun e w' => e = .returned (.tuple #[.int .i64 0, .int .i64 4]) ∧ w = w' := by
  have t := beq0_yes hx
  clear hx
  go_enter Try.func43, Try.ntmps43
  go_wp2_with fail
  go_ret2
  exact ⟨rfl, rfl⟩
theorem impl_OrderOf (x : Int) (x0 : 0 ≤ x) (x1 : x < 65536) (hx : ¬ x = 0) (w : World) :
    Calls Try.prog 43 #[.int .u16 x] w fun e w' => e = .returned (.tuple #[.int .i64 (ordI x), .int .i64 0]) ∧ w = w' := by
  have t := beq0_no hx
  clear hx
  go_enter Try.func43, Try.ntmps43
  go_wp2_with fail
  refine (order_any _ x0 x1 _).mono ?_
  rintro e w' ⟨rfl, rfl⟩
  go_wp2_with fail
  go_ret2
  exact ⟨rfl, rfl⟩
theorem spec_OrderOf0 (x : Int) (hx : x = 0) (w : World) :
    Calls Try.prog 42 #[.int .u16 x] w fun e w' => e = .returned (.tuple #[.int .i64 0, .int .i64 4]) ∧ Grown w w' := by
  have t := beq0_yes hx
  clear hx
  go_enter Try.func42, Try.ntmps42
  go_wp2_with fail
  go_ret2
  exact ⟨rfl, Grown.refl _⟩
theorem spec_OrderOf (x : Int) (x0 : 0 ≤ x) (x1 : x < 65536) (hx : ¬ x = 0) (w : World) :
    Calls Try.prog 42 #[.int .u16 x] w fun e w' => e = .returned (.tuple #[.int .i64 (ordI x), .int .i64 0]) ∧ Grown w w' := by
  have t := beq0_no hx
  clear hx
  go_enter Try.func42, Try.ntmps42
  go_wp2_with fail
  refine (lorder_any _ x0 x1 _).mono ?_
  rintro e w' ⟨rfl, hg⟩
  go_wp2_with fail
  go_ret2
  exact ⟨rfl, hg⟩

set_option maxHeartbeats 400000 in
theorem impl_gen_1 (w : World) : Calls Try.prog 47 #[.int .i64 1] w fun e w' => e = .returned (.tuple #[.int .u16 2, .int .i64 0]) ∧ w = w' := by
  go_enter Try.func47, Try.ntmps47
  go_wp2_with fail
  go_loop [6] (fun a => ∃ m : Int, a = .int .u16 m ∧ 2 ≤ m ∧ m ≤ 2) (fun a => (2 - intOf a).toNat)
  case atStart => exact ⟨2, rfl, by omega, by omega⟩
  case round =>
    obtain ⟨m, rfl, m0, m1⟩ := hrel
    by_cases hm : m = 2
    · subst hm
      go_wp2_with fail
      refine (order_any _ (by omega) (by omega) _).mono ?_
      rintro e w' ⟨rfl, rfl⟩
      rw [gen_yes_1]
      go_wp2_with fail
      go_ret2
      exact ⟨rfl, rfl⟩
    · have hne := gen_no_1 m (by omega) (by omega)
      have hlt : m < 2 := by omega
      have hb := ordA_b m 4
      obtain ⟨o, ho⟩ : ∃ o, o = ordI m := ⟨_, rfl⟩
      have ht : (o != 3) = true := by rw [bne_iff_ne, ho]; intro e; rw [e] at hne; exact hne rfl
      clear hne hb hm
      replace ho := Lib.hid ho
      go_wp2_with fail
      refine (order_any _ (by omega) (by omega) _).mono ?_
      rintro e w' ⟨rfl, rfl⟩
      rw [← ho.out]
      go_wp2_with fail
      go_round
      case rel => exact ⟨m + 1, rfl, by omega, by omega⟩
      case measure => simp [intOf]; omega

set_option maxHeartbeats 400000 in
theorem spec_gen_1 (w : World) : Calls Try.prog 46 #[.int .i64 1] w fun e w' => e = .returned (.tuple #[.int .u16 2, .int .i64 0]) ∧ Grown w w' := by
  have Hb : Hid (inB 1 1 4 = true) := Lib.hid rfl
  go_enter Try.func46, Try.ntmps46
  go_wp2_with fail
  refine (l00In_any _ _ _ _).mono ?_
  rintro e w' ⟨rfl, rfl⟩
  rw [Hb.out]
  go_wp2_with fail
  go_loopw [5] (fun a wr => ∃ m : Int, a = .int .u16 m ∧ 2 ≤ m ∧ m ≤ 2 ∧ Grown w wr) (fun a _ => (2 - intOf a).toNat)
  case atStart => exact ⟨2, rfl, by omega, by omega, Grown.refl _⟩
  case round =>
    obtain ⟨m, rfl, m0, m1, hg⟩ := hrel
    by_cases hm : m = 2
    · subst hm
      go_wp2_with fail
      refine (lorder_any _ (by omega) (by omega) _).mono ?_
      rintro e w1 ⟨rfl, hg1⟩
      rw [gen_yes_1]
      go_wp2_with fail
      go_ret2
      exact ⟨rfl, gtrans hg hg1⟩
    · have hne := gen_no_1 m (by omega) (by omega)
      have hlt : m < 2 := by omega
      have hb := ordA_b m 4
      obtain ⟨o, ho⟩ : ∃ o, o = ordI m := ⟨_, rfl⟩
      have o0 : 0 ≤ o := by rw [ho]; exact hb.1
      have o1 : o ≤ 65535 := by rw [ho]; exact hb.2
      have ht : (o % 3 != 0) = true := by rw [bne_iff_ne, ho]; exact hne
      clear hne hb hm
      replace ho := Lib.hid ho
      go_wp2_with fail
      refine (lorder_any _ (by omega) (by omega) _).mono ?_
      rintro e w1 ⟨rfl, hg1⟩
      rw [← ho.out]
      go_wp2_with fail
      go_roundw
      case rel => exact ⟨m + 1, rfl, by omega, by omega, gtrans hg hg1⟩
      case measure => simp [intOf]; omega

set_option maxHeartbeats 400000 in
theorem impl_gen_2 (w : World) : Calls Try.prog 47 #[.int .i64 2] w fun e w' => e = .returned (.tuple #[.int .u16 4, .int .i64 0]) ∧ w = w' := by
  go_enter Try.func47, Try.ntmps47
  go_wp2_with fail
  go_loop [6] (fun a => ∃ m : Int, a = .int .u16 m ∧ 4 ≤ m ∧ m ≤ 4) (fun a => (4 - intOf a).toNat)
  case atStart => exact ⟨4, rfl, by omega, by omega⟩
  case round =>
    obtain ⟨m, rfl, m0, m1⟩ := hrel
    by_cases hm : m = 4
    · subst hm
      go_wp2_with fail
      refine (order_any _ (by omega) (by omega) _).mono ?_
      rintro e w' ⟨rfl, rfl⟩
      rw [gen_yes_2]
      go_wp2_with fail
      go_ret2
      exact ⟨rfl, rfl⟩
    · have hne := gen_no_2 m (by omega) (by omega)
      have hlt : m < 4 := by omega
      have hb := ordA_b m 4
      obtain ⟨o, ho⟩ : ∃ o, o = ordI m := ⟨_, rfl⟩
      have ht : (o != 15) = true := by rw [bne_iff_ne, ho]; intro e; rw [e] at hne; exact hne rfl
      clear hne hb hm
      replace ho := Lib.hid ho
      go_wp2_with fail
      refine (order_any _ (by omega) (by omega) _).mono ?_
      rintro e w' ⟨rfl, rfl⟩
      rw [← ho.out]
      go_wp2_with fail
      go_round
      case rel => exact ⟨m + 1, rfl, by omega, by omega⟩
      case measure => simp [intOf]; omega

set_option maxHeartbeats 400000 in
theorem spec_gen_2 (w : World) : Calls Try.prog 46 #[.int .i64 2] w fun e w' => e = .returned (.tuple #[.int .u16 4, .int .i64 0]) ∧ Grown w w' := by
  have Hb : Hid (inB 2 1 4 = true) := Lib.hid rfl
  go_enter Try.func46, Try.ntmps46
  go_wp2_with fail
  refine (l00In_any _ _ _ _).mono ?_
  rintro e w' ⟨rfl, rfl⟩
  rw [Hb.out]
  go_wp2_with fail
  go_loopw [5] (fun a wr => ∃ m : Int, a = .int .u16 m ∧ 2 ≤ m ∧ m ≤ 4 ∧ Grown w wr) (fun a _ => (4 - intOf a).toNat)
  case atStart => exact ⟨2, rfl, by omega, by omega, Grown.refl _⟩
  case round =>
    obtain ⟨m, rfl, m0, m1, hg⟩ := hrel
    by_cases hm : m = 4
    · subst hm
      go_wp2_with fail
      refine (lorder_any _ (by omega) (by omega) _).mono ?_
      rintro e w1 ⟨rfl, hg1⟩
      rw [gen_yes_2]
      go_wp2_with fail
      go_ret2
      exact ⟨rfl, gtrans hg hg1⟩
    · have hne := gen_no_2 m (by omega) (by omega)
      have hlt : m < 4 := by omega
      have hb := ordA_b m 4
      obtain ⟨o, ho⟩ : ∃ o, o = ordI m := ⟨_, rfl⟩
      have o0 : 0 ≤ o := by rw [ho]; exact hb.1
      have o1 : o ≤ 65535 := by rw [ho]; exact hb.2
      have ht : (o % 15 != 0) = true := by rw [bne_iff_ne, ho]; exact hne
      clear hne hb hm
      replace ho := Lib.hid ho
      go_wp2_with fail
      refine (lorder_any _ (by omega) (by omega) _).mono ?_
      rintro e w1 ⟨rfl, hg1⟩
      rw [← ho.out]
      go_wp2_with fail
      go_roundw
      case rel => exact ⟨m + 1, rfl, by omega, by omega, gtrans hg hg1⟩
      case measure => simp [intOf]; omega

set_option maxHeartbeats 400000 in
theorem impl_gen_3 (w : World) : Calls Try.prog 47 #[.int .i64 3] w fun e w' => e = .returned (.tuple #[.int .u16 18, .int .i64 0]) ∧ w = w' := by
  go_enter Try.func47, Try.ntmps47
  go_wp2_with fail
  go_loop [6] (fun a => ∃ m : Int, a = .int .u16 m ∧ 16 ≤ m ∧ m ≤ 18) (fun a => (18 - intOf a).toNat)
  case atStart => exact ⟨16, rfl, by omega, by omega⟩
  case round =>
    obtain ⟨m, rfl, m0, m1⟩ := hrel
    by_cases hm : m = 18
    · subst hm
      go_wp2_with fail
      refine (order_any _ (by omega) (by omega) _).mono ?_
      rintro e w' ⟨rfl, rfl⟩
      rw [gen_yes_3]
      go_wp2_with fail
      go_ret2
      exact ⟨rfl, rfl⟩
    · have hne := gen_no_3 m (by omega) (by omega)
      have hlt : m < 18 := by omega
      have hb := ordA_b m 4
      obtain ⟨o, ho⟩ : ∃ o, o = ordI m := ⟨_, rfl⟩
      have ht : (o != 255) = true := by rw [bne_iff_ne, ho]; intro e; rw [e] at hne; exact hne rfl
      clear hne hb hm
      replace ho := Lib.hid ho
      go_wp2_with fail
      refine (order_any _ (by omega) (by omega) _).mono ?_
      rintro e w' ⟨rfl, rfl⟩
      rw [← ho.out]
      go_wp2_with fail
      go_round
      case rel => exact ⟨m + 1, rfl, by omega, by omega⟩
      case measure => simp [intOf]; omega

set_option maxHeartbeats 400000 in
theorem spec_gen_3 (w : World) : Calls Try.prog 46 #[.int .i64 3] w fun e w' => e = .returned (.tuple #[.int .u16 18, .int .i64 0]) ∧ Grown w w' := by
  have Hb : Hid (inB 3 1 4 = true) := Lib.hid rfl
  go_enter Try.func46, Try.ntmps46
  go_wp2_with fail
  refine (l00In_any _ _ _ _).mono ?_
  rintro e w' ⟨rfl, rfl⟩
  rw [Hb.out]
  go_wp2_with fail
  go_loopw [5] (fun a wr => ∃ m : Int, a = .int .u16 m ∧ 2 ≤ m ∧ m ≤ 18 ∧ Grown w wr) (fun a _ => (18 - intOf a).toNat)
  case atStart => exact ⟨2, rfl, by omega, by omega, Grown.refl _⟩
  case round =>
    obtain ⟨m, rfl, m0, m1, hg⟩ := hrel
    by_cases hm : m = 18
    · subst hm
      go_wp2_with fail
      refine (lorder_any _ (by omega) (by omega) _).mono ?_
      rintro e w1 ⟨rfl, hg1⟩
      rw [gen_yes_3]
      go_wp2_with fail
      go_ret2
      exact ⟨rfl, gtrans hg hg1⟩
    · have hne := gen_no_3 m (by omega) (by omega)
      have hlt : m < 18 := by omega
      have hb := ordA_b m 4
      obtain ⟨o, ho⟩ : ∃ o, o = ordI m := ⟨_, rfl⟩
      have o0 : 0 ≤ o := by rw [ho]; exact hb.1
      have o1 : o ≤ 65535 := by rw [ho]; exact hb.2
      have ht : (o % 255 != 0) = true := by rw [bne_iff_ne, ho]; exact hne
      clear hne hb hm
      replace ho := Lib.hid ho
      go_wp2_with fail
      refine (lorder_any _ (by omega) (by omega) _).mono ?_
      rintro e w1 ⟨rfl, hg1⟩
      rw [← ho.out]
      go_wp2_with fail
      go_roundw
      case rel => exact ⟨m + 1, rfl, by omega, by omega, gtrans hg hg1⟩
      case measure => simp [intOf]; omega

set_option maxHeartbeats 400000 in
theorem impl_gen_4 (w : World) : Calls Try.prog 47 #[.int .i64 4] w fun e w' => e = .returned (.tuple #[.int .u16 258, .int .i64 0]) ∧ w = w' := by
  go_enter Try.func47, Try.ntmps47
  go_wp2_with fail
  go_loop [6] (fun a => ∃ m : Int, a = .int .u16 m ∧ 256 ≤ m ∧ m ≤ 258) (fun a => (258 - intOf a).toNat)
  case atStart => exact ⟨256, rfl, by omega, by omega⟩
  case round =>
    obtain ⟨m, rfl, m0, m1⟩ := hrel
    by_cases hm : m = 258
    · subst hm
      go_wp2_with fail
      refine (order_any _ (by omega) (by omega) _).mono ?_
      rintro e w' ⟨rfl, rfl⟩
      rw [gen_yes_4]
      go_wp2_with fail
      go_ret2
      exact ⟨rfl, rfl⟩
    · have hne := gen_no_4 m (by omega) (by omega)
      have hlt : m < 258 := by omega
      have hb := ordA_b m 4
      obtain ⟨o, ho⟩ : ∃ o, o = ordI m := ⟨_, rfl⟩
      have ht : (o != 65535) = true := by rw [bne_iff_ne, ho]; intro e; rw [e] at hne; exact hne rfl
      clear hne hb hm
      replace ho := Lib.hid ho
      go_wp2_with fail
      refine (order_any _ (by omega) (by omega) _).mono ?_
      rintro e w' ⟨rfl, rfl⟩
      rw [← ho.out]
      go_wp2_with fail
      go_round
      case rel => exact ⟨m + 1, rfl, by omega, by omega⟩
      case measure => simp [intOf]; omega

set_option maxHeartbeats 400000 in
theorem spec_gen_4 (w : World) : Calls Try.prog 46 #[.int .i64 4] w fun e w' => e = .returned (.tuple #[.int .u16 258, .int .i64 0]) ∧ Grown w w' := by
  have Hb : Hid (inB 4 1 4 = true) := Lib.hid rfl
  go_enter Try.func46, Try.ntmps46
  go_wp2_with fail
  refine (l00In_any _ _ _ _).mono ?_
  rintro e w' ⟨rfl, rfl⟩
  rw [Hb.out]
  go_wp2_with fail
  go_loopw [5] (fun a wr => ∃ m : Int, a = .int .u16 m ∧ 2 ≤ m ∧ m ≤ 258 ∧ Grown w wr) (fun a _ => (258 - intOf a).toNat)
  case atStart => exact ⟨2, rfl, by omega, by omega, Grown.refl _⟩
  case round =>
    obtain ⟨m, rfl, m0, m1, hg⟩ := hrel
    by_cases hm : m = 258
    · subst hm
      go_wp2_with fail
      refine (lorder_any _ (by omega) (by omega) _).mono ?_
      rintro e w1 ⟨rfl, hg1⟩
      rw [gen_yes_4]
      go_wp2_with fail
      go_ret2
      exact ⟨rfl, gtrans hg hg1⟩
    · have hne := gen_no_4 m (by omega) (by omega)
      have hlt : m < 258 := by omega
      have hb := ordA_b m 4
      obtain ⟨o, ho⟩ : ∃ o, o = ordI m := ⟨_, rfl⟩
      have o0 : 0 ≤ o := by rw [ho]; exact hb.1
      have o1 : o ≤ 65535 := by rw [ho]; exact hb.2
      have ht : (o % 65535 != 0) = true := by rw [bne_iff_ne, ho]; exact hne
      clear hne hb hm
      replace ho := Lib.hid ho
      go_wp2_with fail
      refine (lorder_any _ (by omega) (by omega) _).mono ?_
      rintro e w1 ⟨rfl, hg1⟩
      rw [← ho.out]
      go_wp2_with fail
      go_roundw
      case rel => exact ⟨m + 1, rfl, by omega, by omega, gtrans hg hg1⟩
      case measure => simp [intOf]; omega

theorem impl_gen_no (n : Int) (h : n < 1 ∨ 4 < n) (w : World) : Calls Try.prog 47 #[.int .i64 n] w fun e w' => e = .returned (.tuple #[.int .u16 0, .int .i64 2]) ∧ w = w' := by
  by_cases h1 : n < 1
  · have t1 : decide (n < 1) = true := by simpa using h1
    clear h
    go_enter Try.func47, Try.ntmps47
    go_wp2_with fail
    go_ret2
    exact ⟨rfl, rfl⟩
  · have t1 : decide (n < 1) = false := by simpa using h1
    have t2 : decide (4 < n) = true := by simp; omega
    clear h
    go_enter Try.func47, Try.ntmps47
    go_wp2_with fail
    go_ret2
    exact ⟨rfl, rfl⟩

theorem spec_gen_no (n : Int) (h : n < 1 ∨ 4 < n) (w : World) : Calls Try.prog 46 #[.int .i64 n] w fun e w' => e = .returned (.tuple #[.int .u16 0, .int .i64 2]) ∧ w = w' := by
  have hb : inB n 1 4 = false := by unfold inB; simp; omega
  have Hb := Lib.hid hb; clear hb h
  go_enter Try.func46, Try.ntmps46
  go_wp2_with fail
  refine (l00In_any _ _ _ _).mono ?_
  rintro e w' ⟨rfl, rfl⟩
  rw [Hb.out]
  go_wp2_with fail
  go_ret2
  exact ⟨rfl, rfl⟩
end Go.Proofs.Ythnloaddmkpmkaa
