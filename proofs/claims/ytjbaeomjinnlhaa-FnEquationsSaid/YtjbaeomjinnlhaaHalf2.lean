/-
  Half roots, of the program: what the tables do.
-/
import Derived.Test.YtjbaeomjinnlhaaHalf
import Derived.Lib.ItoaNum
namespace Go.Proofs.Ytjbaeomjinnlhaa
set_option linter.unusedVariables false
set_option linter.unusedSimpArgs false
open Go.ChangeShapes Go.WideShapes Go.ChangeAt Go.RowKit

/-- a nimber's square and itself -/
def Lf (y : Nat) : Nat := Nim.mul y y ^^^ y
theorem Lf_xor (a b : Nat) : Lf (a ^^^ b) = Lf a ^^^ Lf b := by
  unfold Lf; rw [Nim.sq_xor]; ac_rfl
def sN (t : Nat) : Nat := (Lrow.getD t 0).toNat
theorem rows_table : (List.range 15).all (fun t => decide (sT t = (sN t : Int)) && Nat.beq (Lf (2 ^ (t + 1))) (sN t) && Nat.ble (2 ^ t) (sN t) && Nat.ble (sN t + 1) (2 ^ (t + 1))) = true := by decide +kernel
theorem rows_at (t : Nat) (ht : t < 15) : sT t = (sN t : Int) ∧ Lf (2 ^ (t + 1)) = sN t ∧ 2 ^ t ≤ sN t ∧ sN t < 2 ^ (t + 1) := by
  have h := List.all_eq_true.1 rows_table t (List.mem_range.2 ht)
  simp only [Bool.and_eq_true, decide_eq_true_eq, Nat.ble_eq] at h
  obtain ⟨⟨⟨h1, h2⟩, h3⟩, h4⟩ := h
  exact ⟨h1, Nat.eq_of_beq_eq_true h2, h3, h4⟩
theorem xor_top {a b t : Nat} (a0 : 2 ^ t ≤ a) (a1 : a < 2 ^ (t + 1)) (b0 : 2 ^ t ≤ b) (b1 : b < 2 ^ (t + 1)) : a ^^^ b < 2 ^ t := by
  have e : ∀ x, 2 ^ t ≤ x → x < 2 ^ (t + 1) → x >>> t = 1 := by
    intro x h0 h1
    rw [Nat.shiftRight_eq_div_pow]
    have h2 : x / 2 ^ t < 2 := by rw [Nat.div_lt_iff_lt_mul (Nat.two_pow_pos t)]; rw [Nat.pow_succ] at h1; omega
    have h3 : 1 ≤ x / 2 ^ t := by rw [Nat.le_div_iff_mul_le (Nat.two_pow_pos t)]; omega
    omega
  have h := Nim.shr_xor a b t
  rw [e a a0 a1, e b b0 b1, Nat.xor_self, Nat.shiftRight_eq_div_pow] at h
  exact (Nat.div_eq_zero_iff_lt (Nat.two_pow_pos t)).1 h
theorem red_step (r y t : Nat) (ht : t < 15) (r1 : r < 65536) (y1 : y < 65536) (r2 : 2 ^ t ≤ r) (r3 : r < 2 ^ (t + 1)) :
    r ^^^ sN t < r ∧ y ^^^ 2 ^ (t + 1) < 65536 ∧ (r ^^^ sN t) ^^^ Lf (y ^^^ 2 ^ (t + 1)) = r ^^^ Lf y ∧ (y ^^^ 2 ^ (t + 1)) % 2 = y % 2 := by
  obtain ⟨_, h2, h3, h4⟩ := rows_at t ht
  refine ⟨Nat.lt_of_lt_of_le (xor_top r2 r3 h3 h4) r2, Nim.x_b y1 (Nim.pow_b (by omega)), ?_, ?_⟩
  · rw [Lf_xor, h2]
    have : ∀ a b c : Nat, a ^^^ b ^^^ (c ^^^ b) = a ^^^ c := by
      intro a b c; rw [Nat.xor_comm c b, Nat.xor_assoc, ← Nat.xor_assoc b, Nat.xor_self, Nat.zero_xor]
    exact this _ _ _
  · rw [Nim.xor_mod2, show 2 ^ (t + 1) % 2 = 0 from by rw [Nat.pow_succ]; omega, Nat.xor_zero]
theorem plus_nat (a b : Nat) (ha : a < 65536) (hb : b < 65536) (w : World) : Calls Try.prog 133 #[.int .u16 a, .int .u16 b] w fun e w' => e = .returned (.int .u16 ((a ^^^ b : Nat) : Int)) ∧ w' = w :=
  (plus_any 65536 (by decide) a b (by omega) (by omega) (by omega) (by omega) w).mono fun e w' ⟨⟨v, h1, h2, _⟩, h3⟩ => ⟨by rw [h1, h2.out, xorI_nat], h3.symm⟩
theorem bitLen_top (r : Nat) (h0 : r ≠ 0) (h1 : r < 65536) : ∃ t, Lib.bitLen r = t + 1 ∧ t < 16 ∧ 2 ^ t ≤ r ∧ r < 2 ^ (t + 1) := by
  have hb := Lib.bitLenAux_bounds 64 r (Nat.lt_of_lt_of_le h1 (by decide)) h0
  have e : Lib.bitLen r = Lib.bitLenAux 64 r := rfl
  refine ⟨Lib.bitLenAux 64 r - 1, by rw [e]; omega, ?_, hb.2.1, by rw [show Lib.bitLenAux 64 r - 1 + 1 = Lib.bitLenAux 64 r from by omega]; exact hb.2.2⟩
  rcases Nat.lt_or_ge (Lib.bitLenAux 64 r - 1) 16 with h | h
  · exact h
  · have := Nat.pow_le_pow_right (n := 2) (by decide) h
    have h2 := hb.2.1
    have : (2 : Nat) ^ 16 = 65536 := rfl
    omega
set_option maxRecDepth 100000 in
set_option maxHeartbeats 1000000 in
theorem reduce_any (a x : Nat) (a1 : a < 65536) (x1 : x < 65536) (g : Nat) (w : World) (hS : w.heap[g]? = some (.cells (tabA sT 15) 162 (0, 0))) (hO : w.heap[g + 1]? = some (.cells (tabA oT 15) 162 (0, 0))) :
    Calls Try.prog 159 #[.int .u16 a, .int .u16 x, .pointer (some ⟨g, 0, none⟩), .pointer (some ⟨g + 1, 0, none⟩)] w fun e w' =>
      (∃ r y : Nat, e = .returned (.tuple #[.int .u16 r, .int .u16 y]) ∧ Hid (r ^^^ Lf y = a ^^^ Lf x ∧ y % 2 = x % 2) ∧ y < 65536 ∧ r < 65536 ∧ (r = 0 ∨ 32768 ≤ r)) ∧ ∃ m, w' = w.drewN m := by
  have HS := Lib.hid hS; have HO := Lib.hid hO
  clear hS hO
  go_enter Try.func159, Try.ntmps159
  go_wp2_with fail
  go_loopw [0, 1] (fun p q wr => ∃ r y : Nat, p = .int .u16 r ∧ q = .int .u16 y ∧ r < 65536 ∧ y < 65536 ∧ Hid (r ^^^ Lf y = a ^^^ Lf x ∧ y % 2 = x % 2) ∧ Hid (∃ m, wr = w.drewN m)) (fun p _ _ => (intOf p).toNat)
  case atStart => exact ⟨a, x, rfl, rfl, a1, x1, Lib.hid ⟨rfl, rfl⟩, Lib.hid ⟨0, rfl⟩⟩
  case round =>
    obtain ⟨r, y, rfl, rfl, r1, y1, hP, HW⟩ := hrel
    have hcw : ∀ p, wr.cell? p = w.cell? p := fun p => by obtain ⟨m, rfl⟩ := HW.out; rfl
    have HCW := Lib.hid hcw
    clear hcw
    by_cases hr : r = 0
    · subst hr
      go_wp2_with fail
      go_ret2
      exact ⟨⟨0, y, rfl, hP, y1, by decide, Or.inl rfl⟩, HW.out⟩
    · obtain ⟨t, ht, ht16, h2, h3⟩ := bitLen_top r hr r1
      have hb : ((r : Int) != 0) = true := by rw [bne_iff_ne]; omega
      have HT := Lib.hid ht
      have hr0 : 0 < r := by omega
      clear ht hr
      by_cases h15 : t = 15
      · have hc : wr.cell? ⟨g, t, none⟩ = some (.int .u16 0) := by
          rw [HCW.out, h15]; exact (cell_of_row _ _ _ _ _ _ HS.out).trans (tabA_new sT 15 (by decide))
        have hbig : 32768 ≤ r := by rw [h15] at h2; exact h2
        clear h15 h2 h3
        go_wp2_with fail
        refine (Try.bits_Len16 _ _ (by omega) (by omega)).mono ?_
        rintro e w1 ⟨rfl, hw1⟩
        obtain rfl := hw1
        rw [Int.toNat_natCast, HT.out]
        go_wp2_with fail
        go_ret2
        exact ⟨⟨r, y, rfl, hP, y1, r1, Or.inr hbig⟩, HW.out⟩
      · have ht15 : t < 15 := by omega
        obtain ⟨e1, _, e3, e4⟩ := rows_at t ht15
        have hs0 : ((sN t : Int) == 0) = false := by rw [beq_eq_false_iff_ne]; have := Nat.two_pow_pos t; omega
        have hs1 : sN t < 65536 := Nat.lt_of_lt_of_le e4 (by have := Nat.pow_le_pow_right (n := 2) (by decide) (show t + 1 ≤ 16 by omega); exact this)
        have ho1 : 2 ^ (t + 1) < 65536 := Nim.pow_b (by omega)
        have hc : wr.cell? ⟨g, t, none⟩ = some (.int .u16 (sN t)) := by
          rw [HCW.out, ← e1]; exact (cell_of_row _ _ _ _ _ _ HS.out).trans (tabA_old sT 15 t ht15 (by omega))
        obtain ⟨on, hon⟩ : ∃ on, on = 2 ^ (t + 1) := ⟨_, rfl⟩
        have hc2 : wr.cell? ⟨g + 1, t, none⟩ = some (.int .u16 (on : Nat)) := by
          rw [HCW.out, hon]; exact (cell_of_row _ _ _ _ _ _ HO.out).trans (by rw [tabA_old oT 15 t ht15 (by omega)]; unfold oT; rw [Int.natCast_pow]; rfl)
        have hst := red_step r y t ht15 r1 y1 h2 h3
        rw [← hon] at hst ho1
        have HST := Lib.hid hst
        have HON := Lib.hid hon
        obtain ⟨sn, hsn⟩ : ∃ sn, sn = sN t := ⟨_, rfl⟩
        rw [← hsn] at hs0 hs1 hc HST
        have HSN := Lib.hid hsn
        have hti : (t : Int) < 16 := by omega
        clear hst hon hsn e1 e3 e4 h2 h3 h15
        go_wp2_with fail
        refine (Try.bits_Len16 _ _ (by omega) (by omega)).mono ?_
        rintro e w1 ⟨rfl, hw1⟩
        obtain rfl := hw1
        rw [Int.toNat_natCast, HT.out]
        go_wp2_with fail
        go_quiet ((first | exact Calls.quiet_of_same (plus_nat r sn r1 hs1 _) | exact Calls.quiet_of_same (plus_nat y on y1 ho1 _)))
        go_wp2_with fail
        have H := HST.out
        exact ⟨⟨r ^^^ sn, y ^^^ on, rfl, rfl, by omega, H.2.1, Lib.hid ⟨H.2.2.1.trans hP.out.1, H.2.2.2.trans hP.out.2⟩, Lib.hid (by obtain ⟨m, rfl⟩ := HW.out; exact ⟨m + nq, by simp⟩)⟩, by simp [intOf]; exact H.1⟩
theorem Lf_b {y : Nat} (h : y < 65536) : Lf y < 65536 := Nim.x_b (Nim.mul_b h h) h
theorem Lf_zero : Lf 0 = 0 := by decide +kernel
theorem top_table : Nim.all16 (fun i => Nat.beq (Lf (2 ^ i) >>> 15) 0) = true := by decide +kernel
theorem Lf_top : ∀ y, y < 65536 → Lf y >>> 15 = 0 :=
  Nim.lin_ext (fun y => Lf y >>> 15) (fun _ => 0) (fun a b _ _ => by rw [Lf_xor, Nim.shr_xor]) (fun a b _ _ => rfl) (by decide +kernel) (fun i hi => Nat.eq_of_beq_eq_true (Nim.all16_at top_table i hi))
theorem red_top {r y a : Nat} (hy : y < 65536) (h : r ^^^ Lf y = a ^^^ Lf 0) : r / 32768 = a / 32768 := by
  rw [Lf_zero, Nat.xor_zero] at h
  have h2 := congrArg (· >>> 15) h
  simp only [Nim.shr_xor, Lf_top y hy, Nat.xor_zero] at h2
  simpa [Nat.shiftRight_eq_div_pow] using h2
theorem half_yes {r y a : Nat} (ha : a < 32768) (hy : y < 65536) (h : r ^^^ Lf y = a ^^^ Lf 0) (he : y % 2 = 0) (hr : r = 0 ∨ 32768 ≤ r) : r = 0 ∧ y = Nim.half a := by
  have ht := red_top hy h
  have h0 : r = 0 := by omega
  subst h0
  rw [Lf_zero, Nat.xor_zero, Nat.zero_xor] at h
  refine ⟨rfl, ?_⟩
  rw [← h]
  have e := Nim.half_of y hy
  rw [show Nim.mul y y ^^^ y = Lf y from rfl] at e
  rw [e]
  unfold Nim.even
  rw [Nat.shiftLeft_eq, Nat.shiftRight_eq_div_pow]
  omega
theorem half_no {r y a : Nat} (ha : 32768 ≤ a) (hy : y < 65536) (h : r ^^^ Lf y = a ^^^ Lf 0) : r ≠ 0 := by
  have ht := red_top hy h
  omega
/-- what both answer -/
def halfV (a : Nat) : Value := if a < 32768 then .tuple #[.int .u16 (Nim.half a : Nat), .int .i64 0] else .tuple #[.int .u16 0, .int .i64 6]
set_option maxRecDepth 100000 in
set_option maxHeartbeats 1000000 in
theorem impl_HalfRoot (a : Nat) (a1 : a < 65536) (w : World) : Calls Try.prog 78 #[.int .u16 a] w fun e w' => e = .returned (halfV a) ∧ Below w.heap.size w w' := by
  go_enter Try.func78, Try.ntmps78
  go_wp2_with fail
  refine (halfSolver_any _).mono ?_
  rintro e w1 ⟨rfl, hS, hO, hF, hb⟩
  obtain ⟨g, hg⟩ : ∃ g, g = w.heap.size := ⟨_, rfl⟩
  rw [← hg] at hS hO hF ⊢
  have g3 : w1.cell? ⟨g + 1 + 1, 0, none⟩ = some (.func (.func 159) #[] #[.pointer (some ⟨g, 0, none⟩), .pointer (some ⟨g + 1, 0, none⟩)]) := cell_of_row _ _ _ _ _ _ hF
  have HS := Lib.hid hS; have HO := Lib.hid hO; have HF := Lib.hid hF; have HB := Lib.hid hb; have HG := Lib.hid hg
  clear hS hO hF hb hg
  go_wp2_with fail
  go_in
  go_wp2_with fail
  refine (reduce_any a 0 a1 (by decide) g _ HS.out HO.out).mono ?_
  rintro e w2 ⟨⟨r, y, rfl, hP, y1, r1, hr⟩, m, rfl⟩
  by_cases ha : a < 32768
  · obtain ⟨rfl, hy⟩ := half_yes ha y1 hP.out.1 hP.out.2 hr
    have HV := Lib.hid (show halfV a = .tuple #[.int .u16 (y : Nat), .int .i64 0] from by unfold halfV; rw [if_pos ha, ← hy])
    clear ha hy hr
    go_wp2_with fail
    go_ret2
    exact ⟨by rw [HV.out]; rfl, bdrewN HB.out m⟩
  · have hr0 := half_no (Nat.le_of_not_lt ha) y1 hP.out.1
    have hb : ((r : Int) == 0) = false := by rw [beq_eq_false_iff_ne]; omega
    have HV := Lib.hid (show halfV a = .tuple #[.int .u16 0, .int .i64 6] from by unfold halfV; rw [if_neg ha])
    clear ha hr hr0
    go_wp2_with fail
    go_ret2
    exact ⟨by rw [HV.out]; rfl, bdrewN HB.out m⟩
end Go.Proofs.Ytjbaeomjinnlhaa
