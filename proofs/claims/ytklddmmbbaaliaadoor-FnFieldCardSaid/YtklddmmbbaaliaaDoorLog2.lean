/-
  LogOf, of the program.
-/
import Derived.Test.YtklddmmbbaaliaaDoorLog
namespace Go.Proofs.YtklddmmbbaaliaaDoor
set_option linter.unusedVariables false
set_option linter.unusedSimpArgs false
open Go.ChangeShapes Go.WideShapes Go.ChangeAt Go.RowKit Go.Maps

def an (a b : Int) : Nat → Int
  | 0 => a
  | n + 1 => mulI (an a b n) b
def bk (x : Int) : Int := pwI 1 (pj x 256) 65534
theorem bk_b (x : Int) (x1 : x < 65536) : 0 ≤ bk x ∧ bk x < 65536 := pwI_b _ _ (pj_b x x1 256).2
theorem an_b (a b : Int) (a0 : 0 ≤ a) (a1 : a < 65536) (b1 : b < 65536) (n : Nat) : 0 ≤ an a b n ∧ an a b n < 65536 := by
  induction n with
  | zero => exact ⟨a0, a1⟩
  | succ n ih => exact mulI_b _ _ ih.2 b1
def hitN (x a : Int) (n : Nat) : Bool := (idx x (an a (bk x) n) 256).isSome
/-- what both answer, where the base is not 0 -/
def logV (x a : Int) : Value :=
  match firstAt (hitN x a) 256 0 with
  | some n => .tuple #[.int .i64 ((n : Int) * 256 + (((idx x (an a (bk x) n) 256).getD 0 : Nat) : Int)), .int .i64 0]
  | none => .tuple #[.int .i64 0, .int .i64 6]
theorem logV_some {x a : Int} {n j : Nat} (hn : n < 256) (hall : ∀ i, i < n → hitN x a i = false) (h : idx x (an a (bk x) n) 256 = some j) :
    logV x a = .tuple #[.int .i64 ((n : Int) * 256 + (j : Int)), .int .i64 0] := by
  unfold logV
  rw [firstAt_some (hitN x a) n (by unfold hitN; rw [h]; rfl) 256 0 (Nat.zero_le _) (by omega) (fun i _ hi => hall i hi)]
  simp only [h, Option.getD_some]
theorem logV_none {x a : Int} (hall : ∀ i, i < 256 → hitN x a i = false) : logV x a = .tuple #[.int .i64 0, .int .i64 6] := by
  unfold logV
  rw [firstAt_none (hitN x a) 256 0 (fun i _ hi => hall i (by omega))]
theorem hits_step {x a : Int} {k : Nat} (h : ∀ j, j < k → hitN x a j = false) (e : hitN x a k = false) : ∀ j, j < k + 1 → hitN x a j = false := by
  intro j hj
  by_cases h1 : j < k
  · exact h j h1
  · rw [show j = k from by omega]; exact e
theorem lit_inj {c j : Int} (h : (DataW.lit (.int .i64 c) : DataW Unit) = .lit (.int .i64 j)) : c = j := by
  injection h with h; injection h
theorem idx_lt {x a : Int} {k j : Nat} (h : idx x a k = some j) : j < k := by
  induction k with
  | zero => cases h
  | succ k ih =>
    unfold idx at *
    rw [firstAt_snoc] at h
    cases e : firstAt (isAt x a) k 0 with
    | some i => rw [e] at h; simp only [Option.some.injEq] at h; subst h; have := ih e; omega
    | none =>
      rw [e] at h
      cases e2 : isAt x a (0 + k) with
      | true => simp only [e2, cond_true, Option.some.injEq] at h; omega
      | false => simp only [e2, cond_false] at h; cases h

set_option maxRecDepth 100000 in
set_option maxHeartbeats 1000000 in
theorem impl_LogOf (x a : Int) (x0 : 0 ≤ x) (x1 : x < 65536) (a0 : 0 ≤ a) (a1 : a < 65536) (hx : ¬ x = 0) (w : World) :
    Calls Tryd.prog 41 #[.int .u16 x, .int .u16 a] w fun e w' => e = .returned (logV x a) ∧ Below w.heap.size w w' := by
  have hx0 := beq0_no hx
  clear hx
  go_enter Tryd.func41, Tryd.ntmps41
  go_wp2_with fail
  refine (firstPowers_any x x0 x1 _).mono ?_
  rintro e w1 ⟨rfl, ⟨D, hown, hmf⟩, hb⟩
  have HMF := Lib.hid hmf; have HB := Lib.hid hb
  clear hmf hb
  have hpb := pj_b x x1 256
  have p0 := hpb.1
  have p1 := hpb.2
  clear hpb
  go_wp2_with fail
  refine (inverse_any _ p0 p1 _).mono ?_
  rintro e w' ⟨⟨b, rfl, hbk, b0, b1⟩, rfl⟩
  clear p0 p1
  go_wp2_with fail
  go_loop [26, 1] (fun i y => ∃ (n : Nat) (z : Int), i = .int .i64 n ∧ y = .int .u16 z ∧ n ≤ 256 ∧ 0 ≤ z ∧ z < 65536 ∧ Hid (z = an a (bk x) n) ∧ Hid (∀ j, j < n → hitN x a j = false)) (fun i _ => 256 - (intOf i).toNat)
  case atStart => exact ⟨0, a, rfl, rfl, by omega, a0, a1, Lib.hid rfl, Lib.hid (fun j hj => absurd hj (by omega))⟩
  case round =>
    obtain ⟨n, z, rfl, rfl, hn, z0, z1, hz, hall⟩ := hrel
    by_cases hlt : n < 256
    · have hkey : keyOf Tryd.prog 24 (.int .u16 z) = some (.int .u16 z) := keyOf_int_mk Tryd.underlying24 (wf16 z0 z1)
      have hm := HMF.out.2 z z0 z1
      cases hj : idx x z 256 with
      | some j =>
        rw [hj] at hm
        have HF : Hid (Maps.has D (.int .u16 z) = true) := Lib.hid hm.1
        have HJ := Lib.hid (hm.2 j rfl)
        have HV := Lib.hid (logV_some hlt hall.out (by rw [← hz.out]; exact hj))
        have hjl := idx_lt hj
        clear hm hj
        go_wp2_with (at_lookup; refine wpList_lookup_own_ok_int _ rfl _ _ 104 rfl 24 2 .i64 keyed25 Tryd.underlying104 Tryd.underlying2 (zero2 _) w.heap.size 256 _ rfl hown _ _ rfl hkey ?_; intro c hat hwc; rw [HF.out]; obtain rfl : c = (j : Int) := lit_inj (hat.symm.trans HJ.out))
        go_ret2
        exact ⟨by rw [HV.out]; rfl, HB.out⟩
      | none =>
        rw [hj] at hm
        have HF : Hid (Maps.has D (.int .u16 z) = false) := Lib.hid hm.1
        have HV := Lib.hid (hits_step hall.out (show hitN x a n = false from by unfold hitN; rw [← hz.out, hj]; rfl))
        clear hm hj
        go_wp2_with (at_lookup; refine wpList_lookup_own_ok_int _ rfl _ _ 104 rfl 24 2 .i64 keyed25 Tryd.underlying104 Tryd.underlying2 (zero2 _) w.heap.size 256 _ rfl hown _ _ rfl hkey ?_; intro c hat hwc; rw [HF.out])
        refine (times_any _ _ z0 z1 b0 b1 _).mono ?_
        rintro e w' ⟨⟨z', rfl, hz', z0', z1'⟩, rfl⟩
        clear hat
        go_wp2_with fail
        go_round
        case rel => exact ⟨n + 1, z', by go_num, rfl, by omega, z0', z1', Lib.hid (by rw [hz'.out, hz.out, hbk.out]; rfl), HV⟩
        case measure => simp [intOf]; omega
    · have HV := Lib.hid (logV_none (fun j hj => hall.out j (by omega)))
      go_wp2_with fail
      go_ret2
      exact ⟨by rw [HV.out]; rfl, HB.out⟩
end Go.Proofs.YtklddmmbbaaliaaDoor
