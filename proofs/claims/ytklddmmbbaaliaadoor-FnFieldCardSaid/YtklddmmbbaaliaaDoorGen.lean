/-
  The least generators: a table of orders, and the contracts of LeastGenerator and OrderOf.
-/
import Derived.Test.YtklddmmbbaaliaaDoorOrd
import Derived.Test.YtklddmmbbaaliaaDoorFast
namespace Go.Proofs.YtklddmmbbaaliaaDoor
set_option linter.unusedVariables false
set_option linter.unusedSimpArgs false
open Go.ChangeShapes Go.WideShapes Go.ChangeAt Go.RowKit

def pwf : Nat → Nat → Nat → Nat → Nat
  | 0, o, _, _ => o
  | f+1, o, a, n => bif Nat.beq n 0 then o else pwf f (bif Nat.beq (n % 2) 1 then Nim.fm 4 o a else o) (Nim.fm 4 a a) (n / 2)
theorem nbeq_no {a b : Nat} (h : ¬ a = b) : Nat.beq a b = false := by
  cases e : Nat.beq a b
  · rfl
  · exact absurd (Nat.eq_of_beq_eq_true e) h
theorem nbeq_yes {a b : Nat} (h : a = b) : Nat.beq a b = true := by subst h; exact Nat.beq_refl a
theorem pwf_eq (f : Nat) : ∀ o a n : Nat, n < 2^f → o < 65536 → a < 65536 → pwf f o a n = pwl o a n := by
  induction f with
  | zero => intro o a n hn _ _; rw [show n = 0 from by simpa using hn, pwl_zero]; rfl
  | succ f ih =>
    intro o a n hn ho ha
    have hm := Nim.mul_lt 4 (by decide) 65536 rfl (a := a) (b := a) ha ha
    have hn2 : n / 2 < 2^f := by rw [Nat.pow_succ] at hn; omega
    rw [pwf, Nim.fm_mul a a ha ha]
    by_cases h : n = 0
    · subst h; rw [pwl_zero]; rfl
    · rw [nbeq_no h, cond_false]
      by_cases h2 : n % 2 = 1
      · rw [nbeq_yes h2, cond_true, Nim.fm_mul o a ho ha, pwl_odd o a n h h2]
        exact ih _ _ _ hn2 (Nim.mul_lt 4 (by decide) 65536 rfl ho ha) hm
      · rw [nbeq_no h2, cond_false, pwl_even o a n h h2]
        exact ih _ _ _ hn2 ho hm
def ordFs (m p n : Nat) : Nat := bif Nat.beq (pwf 16 1 m (n / p)) 1 then n / p else n
def ordF (m : Nat) : Nat := ordFs m 257 (ordFs m 17 (ordFs m 5 (ordFs m 3 65535)))
theorem ordFs_le (m p n : Nat) : ordFs m p n ≤ n := by
  unfold ordFs
  cases Nat.beq (pwf 16 1 m (n / p)) 1
  · exact Nat.le_refl _
  · exact Nat.div_le_self _ _
theorem ordFs_eq (m p n : Nat) (hm : m < 65536) (hn : n ≤ 65535) : ordStep (m : Int) (p : Int) (n : Int) = ((ordFs m p n : Nat) : Int) := by
  have hd : n / p ≤ n := Nat.div_le_self _ _
  have e : pwI 1 (m : Int) ((n : Int) / (p : Int)) = ((pwf 16 1 m (n / p) : Nat) : Int) := by
    rw [pwf_eq 16 1 m (n / p) (by omega) (by omega) hm]
    unfold pwI
    rw [← Int.natCast_ediv, Int.toNat_natCast, Int.toNat_natCast]; rfl
  unfold ordStep ordFs
  rw [e]
  by_cases h : pwf 16 1 m (n / p) = 1
  · rw [nbeq_yes h, cond_true, h, if_pos (by rfl : ((1 : Nat) : Int) = 1), Int.natCast_ediv]
  · rw [nbeq_no h, cond_false, if_neg (by omega)]
theorem ordF_eq (m : Nat) (hm : m < 65536) : ordI (m : Int) = ((ordF m : Nat) : Int) := by
  have l1 := ordFs_le m 3 65535
  have l2 := ordFs_le m 5 (ordFs m 3 65535)
  have l3 := ordFs_le m 17 (ordFs m 5 (ordFs m 3 65535))
  show ordStep _ 257 (ordStep _ 17 (ordStep _ 5 (ordStep _ 3 65535))) = _
  have e1 : ordStep (m : Int) 3 65535 = _ := ordFs_eq m 3 65535 hm (by omega)
  have e2 : ordStep (m : Int) 5 _ = _ := ordFs_eq m 5 (ordFs m 3 65535) hm (by omega)
  have e3 : ordStep (m : Int) 17 _ = _ := ordFs_eq m 17 (ordFs m 5 (ordFs m 3 65535)) hm (by omega)
  have e4 : ordStep (m : Int) 257 _ = _ := ordFs_eq m 257 (ordFs m 17 (ordFs m 5 (ordFs m 3 65535))) hm (by omega)
  rw [e1, e2, e3, e4]; rfl
theorem tab_no (u k : Nat) (ht : (List.range k).all (fun i => !Nat.beq (ordF (i + 2) % u) 0) = true) (m : Int) (h0 : 2 ≤ m) (h1 : m < k + 2) (hk : k ≤ 1000) : ordI m % u ≠ 0 := by
  obtain ⟨n, rfl⟩ := Int.eq_ofNat_of_zero_le (by omega : 0 ≤ m)
  have h := List.all_eq_true.1 ht (n - 2) (List.mem_range.2 (by omega))
  rw [show n - 2 + 2 = n from by omega] at h
  rw [ordF_eq n (by omega)]
  have h2 : ¬ ordF n % u = 0 := by
    intro e
    rw [nbeq_yes e] at h; cases h
  omega
theorem table1 : ordF 2 = 3 := by decide +kernel
theorem table2 : (List.range 2).all (fun i => !Nat.beq (ordF (i + 2) % 15) 0) = true := by decide +kernel
theorem table2g : ordF 4 = 15 := by decide +kernel
theorem table3 : (List.range 16).all (fun i => !Nat.beq (ordF (i + 2) % 255) 0) = true := by decide +kernel
theorem table3g : ordF 18 = 255 := by decide +kernel
theorem table4 : (List.range 256).all (fun i => !Nat.beq (ordF (i + 2) % 65535) 0) = true := by decide +kernel
theorem table4g : ordF 258 = 65535 := by decide +kernel
theorem gen_no_1 (m : Int) (h0 : 2 ≤ m) (h1 : m < 2) : ordI m % 3 ≠ 0 := by omega
theorem gen_yes_1 : ordI 2 = 3 := (ordF_eq 2 (by decide)).trans (congrArg _ table1)
theorem gen_no_2 (m : Int) (h0 : 2 ≤ m) (h1 : m < 4) : ordI m % 15 ≠ 0 := tab_no 15 2 table2 m h0 h1 (by decide)
theorem gen_yes_2 : ordI 4 = 15 := (ordF_eq 4 (by decide)).trans (congrArg _ table2g)
theorem gen_no_3 (m : Int) (h0 : 2 ≤ m) (h1 : m < 18) : ordI m % 255 ≠ 0 := tab_no 255 16 table3 m h0 h1 (by decide)
theorem gen_yes_3 : ordI 18 = 255 := (ordF_eq 18 (by decide)).trans (congrArg _ table3g)
theorem gen_no_4 (m : Int) (h0 : 2 ≤ m) (h1 : m < 258) : ordI m % 65535 ≠ 0 := tab_no 65535 256 table4 m h0 h1 (by decide)
theorem gen_yes_4 : ordI 258 = 65535 := (ordF_eq 258 (by decide)).trans (congrArg _ table4g)

end Go.Proofs.YtklddmmbbaaliaaDoor
