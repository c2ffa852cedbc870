/-
  The roots of quadratic equations: both sides.
-/
import Derived.Test.YtjbaeomjinnlhaaSort2
import Derived.Test.YtjbaeomjinnlhaaHalfS
namespace Go.Proofs.Ytjbaeomjinnlhaa
set_option linter.unusedVariables false
set_option linter.unusedSimpArgs false
open Go.ChangeShapes Go.WideShapes Go.ChangeAt Go.RowKit
theorem Nim.inv_sq {p : Nat} (hp : p < 65536) : Nim.inv (Nim.mul p p) = Nim.mul (Nim.inv p) (Nim.inv p) := by
  unfold Nim.inv
  generalize 65534 = n
  rw [← Nim.npow_two hp, ← Nim.npow_mul hp, ← Nim.npow_add hp, Nat.two_mul]
theorem times_nat (x y : Nat) (hx : x < 65536) (hy : y < 65536) (w : World) : Calls Try.prog 132 #[.int .u16 (x : Int), .int .u16 (y : Int)] w fun e w' => e = .returned (.int .u16 ((Nim.mul x y : Nat) : Int)) ∧ w' = w := by
  have h := times_eq (x : Int) (y : Int) (by omega) (by omega) (by omega) (by omega) w
  rw [mulI_nat] at h
  exact h
theorem ltimes_nat (x y : Nat) (hx : x < 65536) (hy : y < 65536) (w : World) : Calls Try.prog 110 #[.int .u16 (x : Int), .int .u16 (y : Int)] w fun e w' => e = .returned (.int .u16 ((Nim.mul x y : Nat) : Int)) ∧ w' = w := by
  have h := ltimes_eq (x : Int) (y : Int) (by omega) (by omega) (by omega) (by omega) w
  rw [mulI_nat] at h
  exact h
theorem nplus_nat (x y : Nat) (hx : x < 65536) (hy : y < 65536) (w : World) : Calls Try.prog 133 #[.int .u16 (x : Int), .int .u16 (y : Int)] w fun e w' => e = .returned (.int .u16 ((x ^^^ y : Nat) : Int)) ∧ w' = w := by
  have h := nplus_eq (x : Int) (y : Int) (by omega) (by omega) (by omega) (by omega) w
  rw [xorI_nat] at h
  exact h
theorem qsquare_nat (x : Nat) (hx : x < 65536) (w : World) : Calls Try.prog 139 #[.int .u16 (x : Int)] w fun e w' => e = .returned (.int .u16 ((Nim.mul x x : Nat) : Int)) ∧ w' = w := by
  refine (square_any (x : Int) (by omega) (by omega) w).mono ?_
  rintro e w' ⟨⟨v, rfl, hv, _⟩, rfl⟩
  rw [hv.out, mulI_nat]
  exact ⟨rfl, rfl⟩
theorem inv_nat (x i : Nat) (hx : x < 65536) (hi : i = Nim.inv x) (w : World) : Calls Try.prog 140 #[.int .u16 (x : Int)] w fun e w' => e = .returned (.int .u16 (i : Int)) ∧ w' = w := by
  have h := inv_eq (x : Int) (by omega) (by omega) w
  unfold invI at h
  rw [Int.toNat_natCast, ← hi] at h
  exact h
theorem linv_nat (x i : Nat) (hx : x < 65536) (hi : i = Nim.inv x) (w : World) : Calls Try.prog 137 #[.int .u16 (x : Int)] w fun e w' => e = .returned (.int .u16 (i : Int)) ∧ w' = w := by
  have h := linv_eq (x : Int) (by omega) (by omega) w
  unfold invI at h
  rw [Int.toNat_natCast, ← hi] at h
  exact h
theorem root_any (x : Int) (x0 : 0 ≤ x) (x1 : x < 65536) (w : World) :
    Calls Try.prog 138 #[.int .u16 x] w fun e w' => IsV (pwI 1 x 32768) 65536 e ∧ w = w' := by
  go_enter Try.func138, Try.ntmps138
  go_wp2_with fail
  refine (power_any _ _ x0 x1 (by omega) (by omega) _).mono ?_
  rintro e w' ⟨⟨v, rfl, hv, v_0, v_1⟩, rfl⟩
  go_wp2_with fail
  go_ret
  exact ⟨⟨v, rfl, hv, v_0, v_1⟩, rfl⟩
/-- the ways of an equation -/
inductive QuadIs (p q : Nat) : List Int → Prop
  | flat (r : Int) : p = 0 → 0 ≤ r → r < 65536 → r = pwI 1 (q : Int) 32768 → QuadIs p q [r]
  | none (i h : Nat) : p ≠ 0 → i = Nim.inv p → h = Nim.mul q (Nim.mul i i) → 32768 ≤ h → QuadIs p q []
  | two (i h x y : Nat) : p ≠ 0 → i = Nim.inv p → h = Nim.mul q (Nim.mul i i) → h < 32768 → x = Nim.mul p (Nim.half h) → y = x ^^^ p → QuadIs p q (srt2 x y)
theorem pwI_b (x : Int) (x0 : 0 ≤ x) (x1 : x < 65536) : 0 ≤ pwI 1 x 32768 ∧ pwI 1 x 32768 < 65536 := by
  unfold pwI
  rw [show (32768 : Int).toNat = 32768 from rfl, show (1 : Int).toNat = 1 from rfl, pwl_npow 32768 1 x.toNat (by decide) (by omega), Nim.mul_one_left (Nim.npow_b (by omega) _)]
  have := Nim.npow_b (a := x.toNat) (by omega) 32768
  omega
theorem half_b {h : Nat} (h1 : h < 32768) : Nim.half h < 65536 := by
  rw [← Nim.pick_half, ← (Nim.rd_half h 15 (Nat.le_refl 15)).2]
  exact (rd_b (l1 := Nim.halfRows) (l2 := Nim.halfFrom) (by decide) (by decide) (by omega) (by omega) 15).2
theorem quad_ex (p q : Nat) (hp : p < 65536) (hq : q < 65536) : ∃ Z, QuadIs p q Z := by
  by_cases h0 : p = 0
  · have h := pwI_b (q : Int) (by omega) (by omega)
    exact ⟨_, .flat _ h0 h.1 h.2 rfl⟩
  · obtain ⟨i, hi⟩ : ∃ i, i = Nim.inv p := ⟨_, rfl⟩
    obtain ⟨h, hh⟩ : ∃ h, h = Nim.mul q (Nim.mul i i) := ⟨_, rfl⟩
    by_cases hb : h < 32768
    · exact ⟨_, .two i h _ _ h0 hi hh hb rfl rfl⟩
    · exact ⟨_, .none i h h0 hi hh (by omega)⟩
theorem quad_small {p q : Nat} (hp : p < 65536) {Z : List Int} (h : QuadIs p q Z) : (∀ z ∈ Z, 0 ≤ z ∧ z < 65536) ∧ Z.length ≤ 2 := by
  cases h with
  | flat r h0 h1 h2 _ => exact ⟨fun z hz => by simp at hz; omega, by simp⟩
  | none i h => exact ⟨fun z hz => by simp at hz, by simp⟩
  | two i h x y h0 h1 h2 hb hx hy =>
    have hb := half_b hb
    have hxb : x < 65536 := by rw [hx]; exact Nim.mul_b hp hb
    have hyb : y < 65536 := by rw [hy]; exact Nim.x_b hxb hp
    unfold srt2
    split <;> exact ⟨fun z hz => by simp at hz; omega, by simp⟩
theorem own1_new {w : World} {B : Nat} (hB : B ≤ w.heap.size) (x : Int) : (w.alloc (.cells #[.int .u16 x] 29)).ownsRow B 29 1 (.slice (some ⟨w.heap.size, 0, none⟩) 1 1) 1 (u16s [x]) :=
  ⟨rfl, .inr ⟨w.heap.size, 1, #[.int .u16 x], rfl, hB, heap_alloc_new w _, Nat.le_refl _, by unfold maxLen; omega, rfl, rfl⟩⟩
theorem own2_new {w : World} {B : Nat} (hB : B ≤ w.heap.size) (x y : Int) : (w.alloc (.cells #[.int .u16 x, .int .u16 y] 29)).ownsRow B 29 1 (.slice (some ⟨w.heap.size, 0, none⟩) 2 2) 2 (u16s [x, y]) :=
  ⟨rfl, .inr ⟨w.heap.size, 2, #[.int .u16 x, .int .u16 y], rfl, hB, heap_alloc_new w _, Nat.le_refl _, by unfold maxLen; omega, rfl, rfl⟩⟩
set_option maxRecDepth 100000 in
set_option maxHeartbeats 1000000 in
theorem spec_QuadraticRoots (p q : Nat) (hp : p < 65536) (hq : q < 65536) (Z : List Int) (hZ : QuadIs p q Z) (w : World) :
    Calls Try.prog 79 #[.int .u16 (p : Int), .int .u16 (q : Int)] w fun e w' => ∃ v, e = .returned v ∧ w'.ownsRow w.heap.size 29 1 v Z.length (u16s Z) ∧ Below w.heap.size w w' := by
  cases hZ with
  | flat r h0 h1 h2 hr =>
    subst h0
    have T1 : (((0 : Nat) : Int) == 0) = true := rfl
    have HR := Lib.hid hr
    clear hr
    go_enter Try.func79, Try.ntmps79
    go_wp2_with fail
    refine (lpower_any (q : Int) 32768 (by omega) (by omega) (by omega) (by omega) _).mono ?_
    rintro e w' ⟨⟨v, rfl, hv, v_0, v_1⟩, rfl⟩
    obtain rfl : v = r := hv.out.trans HR.out.symm
    go_wp2_with fail
    go_ret
    exact ⟨_, rfl, own1_new (Nat.le_refl _) _, (Below.refl _ _).alloc (Nat.le_refl _) _⟩
  | none i h h0 hi hh hb =>
    have T1 : ((p : Int) == 0) = false := by rw [beq_eq_false_iff_ne]; omega
    have hib : i < 65536 := by rw [hi]; exact Nim.inv_b hp
    have hmb := Nim.mul_b hib hib
    have hhb : h < 65536 := by rw [hh]; exact Nim.mul_b hq hmb
    have T2 : ((((Nim.rd Nim.halfRows Nim.halfFrom 15 (h, 0)).1 : Nat) : Int) == 0) = false := by
      have := Nim.rd_more hb hhb
      simp; omega
    have HI := Lib.hid hi
    have HH := Lib.hid hh
    clear hi hh
    go_enter Try.func79, Try.ntmps79
    go_wp2_with fail
    refine (linv_nat p i hp HI.out _).mono ?_
    rintro e w' ⟨rfl, hw⟩
    subst w'
    go_wp2_with fail
    refine (ltimes_nat i i hib hib _).mono ?_
    rintro e w' ⟨rfl, hw⟩
    subst w'
    go_wp2_with fail
    refine (ltimes_nat q (Nim.mul i i) hq hmb _).mono ?_
    rintro e w' ⟨rfl, hw⟩
    subst w'
    rw [← HH.out]
    go_wp2_with fail
    refine (l01Half_any h hhb _).mono ?_
    rintro e wb ⟨rfl, hn⟩
    rw [T2]
    have HN := Lib.hid hn
    clear hn T2
    generalize (Nim.rd Nim.halfRows Nim.halfFrom 15 (h, 0)).2 = z
    go_wp2_with fail
    go_ret
    exact ⟨_, rfl, World.ownsRow_made _ #[] 0 HN.out.size (Nat.zero_le _) rfl, HN.out.alloc HN.out.size _⟩
  | two i h x y h0 hi hh hb hx hy =>
    have T1 : ((p : Int) == 0) = false := by rw [beq_eq_false_iff_ne]; omega
    have hib : i < 65536 := by rw [hi]; exact Nim.inv_b hp
    have hmb := Nim.mul_b hib hib
    have hhb : h < 65536 := by rw [hh]; exact Nim.mul_b hq hmb
    have T2 : ((((Nim.rd Nim.halfRows Nim.halfFrom 15 (h, 0)).1 : Nat) : Int) == 0) = true := by rw [Nim.rd_zero hb]; rfl
    have T3 : (Nim.rd Nim.halfRows Nim.halfFrom 15 (h, 0)).2 = Nim.half h := by rw [(Nim.rd_half h 15 (Nat.le_refl 15)).2, Nim.pick_half]
    have hzb := half_b hb
    obtain ⟨z, hz⟩ : ∃ z, z = Nim.half h := ⟨_, rfl⟩
    rw [← hz] at hx T3 hzb
    have hxb : x < 65536 := by rw [hx]; exact Nim.mul_b hp hzb
    have hyb : y < 65536 := by rw [hy]; exact Nim.x_b hxb hp
    have hxor : bits .xor .u16 (x : Int) (p : Int) = (y : Int) := by
      rw [u16_xor _ _ (by omega) (by omega) (by omega) (by omega), hy]; rfl
    have HI := Lib.hid hi
    have HH := Lib.hid hh
    have HX := Lib.hid hx
    have HXR := Lib.hid hxor
    clear hi hh hx hy hxor hz
    by_cases hlt : (y : Int) < (x : Int)
    all_goals
      go_enter Try.func79, Try.ntmps79
      go_wp2_with fail
      refine (linv_nat p i hp HI.out _).mono ?_
      rintro e w' ⟨rfl, hw⟩
      subst w'
      go_wp2_with fail
      refine (ltimes_nat i i hib hib _).mono ?_
      rintro e w' ⟨rfl, hw⟩
      subst w'
      go_wp2_with fail
      refine (ltimes_nat q (Nim.mul i i) hq hmb _).mono ?_
      rintro e w' ⟨rfl, hw⟩
      subst w'
      rw [← HH.out]
      go_wp2_with fail
      refine (l01Half_any h hhb _).mono ?_
      rintro e wb ⟨rfl, hn⟩
      rw [T2, T3]
      have HN := Lib.hid hn
      clear hn T2 T3
      go_wp2_with fail
      refine (ltimes_nat p z hp hzb _).mono ?_
      rintro e w' ⟨rfl, hw⟩
      subst w'
      rw [← HX.out]
      have hxr := HXR.out
    · have T4 : decide ((y : Int) < (x : Int)) = true := by simpa using hlt
      have T5 : decide (y < x) = true := by simp; omega
      have e : srt2 x y = [(y : Int), (x : Int)] := by unfold srt2; rw [if_pos hlt]
      have HE := Lib.hid e
      clear hlt e
      go_wp2_with fail
      go_ret
      refine ⟨.slice (some ⟨wb.heap.size, 0, none⟩) 2 2, rfl, ?_, HN.out.alloc HN.out.size _⟩
      rw [HE.out]
      exact own2_new HN.out.size _ _
    · have T4 : decide ((y : Int) < (x : Int)) = false := by simpa using hlt
      have T5 : decide (y < x) = false := by simp; omega
      have e : srt2 x y = [(x : Int), (y : Int)] := by unfold srt2; rw [if_neg (by omega)]
      have HE := Lib.hid e
      clear hlt e
      go_wp2_with fail
      go_ret
      refine ⟨.slice (some ⟨wb.heap.size, 0, none⟩) 2 2, rfl, ?_, HN.out.alloc HN.out.size _⟩
      rw [HE.out]
      exact own2_new HN.out.size _ _
set_option maxRecDepth 100000 in
set_option maxHeartbeats 1000000 in
theorem impl_QuadraticRoots (p q : Nat) (hp : p < 65536) (hq : q < 65536) (Z : List Int) (hZ : QuadIs p q Z) (w : World) :
    Calls Try.prog 80 #[.int .u16 (p : Int), .int .u16 (q : Int)] w fun e w' => ∃ v, e = .returned v ∧ w'.ownsRow w.heap.size 29 1 v Z.length (u16s Z) ∧ Below w.heap.size w w' := by
  cases hZ with
  | flat r h0 h1 h2 hr =>
    subst h0
    have T1 : (((0 : Nat) : Int) == 0) = true := rfl
    have HR := Lib.hid hr
    clear hr
    go_enter Try.func80, Try.ntmps80
    go_wp2_with fail
    refine (root_any (q : Int) (by omega) (by omega) _).mono ?_
    rintro e w' ⟨⟨v, rfl, hv, v_0, v_1⟩, rfl⟩
    obtain rfl : v = r := hv.out.trans HR.out.symm
    go_wp2_with fail
    go_ret
    exact ⟨_, rfl, own1_new (Nat.le_refl _) _, (Below.refl _ _).alloc (Nat.le_refl _) _⟩
  | none i h h0 hi hh hb =>
    have T1 : ((p : Int) == 0) = false := by rw [beq_eq_false_iff_ne]; omega
    have hib : i < 65536 := by rw [hi]; exact Nim.inv_b hp
    have hmb := Nim.mul_b hib hib
    have hhb : h < 65536 := by rw [hh]; exact Nim.mul_b hq hmb
    have hpb := Nim.mul_b hp hp
    have hi2 : Nim.mul i i = Nim.inv (Nim.mul p p) := by rw [Nim.inv_sq hp, hi]
    have hV : halfV h = .tuple #[.int .u16 0, .int .i64 6] := by unfold halfV; rw [if_neg (by omega)]
    have HI := Lib.hid hi2
    have HH := Lib.hid hh
    have HV := Lib.hid hV
    clear hi hh hi2 hV
    go_enter Try.func80, Try.ntmps80
    go_wp2_with fail
    refine (qsquare_nat p hp _).mono ?_
    rintro e w' ⟨rfl, hw⟩
    subst w'
    go_wp2_with fail
    refine (inv_nat (Nim.mul p p) (Nim.mul i i) hpb HI.out _).mono ?_
    rintro e w' ⟨rfl, hw⟩
    subst w'
    go_wp2_with fail
    refine (times_nat q (Nim.mul i i) hq hmb _).mono ?_
    rintro e w' ⟨rfl, hw⟩
    subst w'
    rw [← HH.out]
    go_wp2_with fail
    refine (impl_HalfRoot h hhb _).mono ?_
    rintro e wb ⟨rfl, hn⟩
    rw [HV.out]
    have HN := Lib.hid hn
    clear hn
    go_wp2_with fail
    go_ret
    exact ⟨_, rfl, World.ownsRow_nil _ _ _ _, HN.out⟩
  | two i h x y h0 hi hh hb hx hy =>
    have T1 : ((p : Int) == 0) = false := by rw [beq_eq_false_iff_ne]; omega
    have hib : i < 65536 := by rw [hi]; exact Nim.inv_b hp
    have hmb := Nim.mul_b hib hib
    have hhb : h < 65536 := by rw [hh]; exact Nim.mul_b hq hmb
    have hpb := Nim.mul_b hp hp
    have hi2 : Nim.mul i i = Nim.inv (Nim.mul p p) := by rw [Nim.inv_sq hp, hi]
    have hzb := half_b hb
    have hV : halfV h = .tuple #[.int .u16 (Nim.half h : Nat), .int .i64 0] := by unfold halfV; rw [if_pos hb]
    obtain ⟨z, hz⟩ : ∃ z, z = Nim.half h := ⟨_, rfl⟩
    rw [← hz] at hx hV hzb
    have hxb : x < 65536 := by rw [hx]; exact Nim.mul_b hp hzb
    have hyb : y < 65536 := by rw [hy]; exact Nim.x_b hxb hp
    have HI := Lib.hid hi2
    have HH := Lib.hid hh
    have HX := Lib.hid hx
    have HY := Lib.hid hy
    have HV := Lib.hid hV
    clear hi hh hx hy hz hi2 hV
    go_enter Try.func80, Try.ntmps80
    go_wp2_with fail
    refine (qsquare_nat p hp _).mono ?_
    rintro e w' ⟨rfl, hw⟩
    subst w'
    go_wp2_with fail
    refine (inv_nat (Nim.mul p p) (Nim.mul i i) hpb HI.out _).mono ?_
    rintro e w' ⟨rfl, hw⟩
    subst w'
    go_wp2_with fail
    refine (times_nat q (Nim.mul i i) hq hmb _).mono ?_
    rintro e w' ⟨rfl, hw⟩
    subst w'
    rw [← HH.out]
    go_wp2_with fail
    refine (impl_HalfRoot h hhb _).mono ?_
    rintro e wb ⟨rfl, hn⟩
    rw [HV.out]
    have HN := Lib.hid hn
    clear hn
    go_wp2_with fail
    refine (times_nat p z hp hzb _).mono ?_
    rintro e w' ⟨rfl, hw⟩
    subst w'
    rw [← HX.out]
    go_wp2_with fail
    refine (nplus_nat x p hxb hp _).mono ?_
    rintro e w' ⟨rfl, hw⟩
    subst w'
    rw [← HY.out]
    go_wp2_with fail
    have ho := own2_new (w := wb) (B := w.heap.size) HN.out.size (x : Int) (y : Int)
    have hb2 := HN.out.alloc HN.out.size (.cells #[.int .u16 (x : Int), .int .u16 (y : Int)] 29)
    have hs2 : w.heap.size ≤ wb.heap.size := HN.out.size
    have HO := Lib.hid ho
    have HB2 := Lib.hid hb2
    have HS2 := Lib.hid hs2
    clear ho hb2 hs2 HN
    obtain ⟨g, hg⟩ : ∃ g, g = wb.heap.size := ⟨_, rfl⟩
    rw [← hg] at HO HS2 ⊢
    clear hg
    generalize wb.alloc (.cells #[.int .u16 (x : Int), .int .u16 (y : Int)] 29) = wc at HO HB2 ⊢
    refine (sort2_any w.heap.size g 2 x y _ HO.out).mono ?_
    rintro e w3 ⟨⟨v, rfl⟩, ho3, hg3⟩
    have HO3 := Lib.hid ho3
    have HB3 := Lib.hid (HB2.out.grown hg3 HB2.out.size (fun k hk => by cases hk; exact HS2.out))
    clear ho3 hg3 HO HB2
    go_wp2_with fail
    go_ret
    refine ⟨_, rfl, ?_, HB3.out⟩
    have el : (srt2 (x : Int) (y : Int)).length = 2 := by unfold srt2; split <;> rfl
    rw [el]
    exact HO3.out
end Go.Proofs.Ytjbaeomjinnlhaa
