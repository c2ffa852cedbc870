/-
  PolyAt: of the model and of the program.
-/
import Derived.Test.YtnpadkkjaeblfaaPvB
namespace Go.Proofs.Ytnpadkkjaeblfaa
set_option linter.unusedVariables false
set_option linter.unusedSimpArgs false
open Go.ChangeShapes Go.WideShapes Go.ChangeAt Go.RowKit

def atI (zs : List Int) (x : Int) : Int := if okP zs then atP zs x else 0
theorem atI_yes {zs : List Int} {x : Int} (h : okP zs = true) : atI zs x = atP zs x := by unfold atI; rw [if_pos h]
theorem atI_no {zs : List Int} {x : Int} (h : okP zs = false) : atI zs x = 0 := by unfold atI; rw [if_neg (by rw [h]; decide)]
set_option maxHeartbeats 2000000 in
theorem l05At_any (v : Value) (zs : List Int) (x : Int) (hn : zs.length ≤ 1048576) (x0 : 0 ≤ x) (x1 : x < 65536) (w : World) (h : NS w v zs) :
    Calls Try.prog 106 #[v, .int .u16 x] w fun e w' => e = .returned (.int .u16 (atP zs x)) ∧ ∃ m, w' = w.drewN m := by
  have HN := Lib.hid h
  have HU := Lib.hid (inU_of h)
  obtain ⟨A, c, rfl, _, _⟩ := h
  obtain ⟨V, hV⟩ : ∃ V, V = atP zs x := ⟨_, rfl⟩
  rw [← hV]
  have HV := Lib.hid hV
  clear hV
  go_enter Try.func106, Try.ntmps106
  go_wp2_with fail
  go_loopw [5, 6] (fun s y wr => ∃ (t : Int) (k m : Nat), s = .int .u16 t ∧ y = .int .i64 ((zs.length : Int) - 1 - (k : Int)) ∧ k ≤ zs.length ∧ 0 ≤ t ∧ t < 65536 ∧ wr = w.drewN m ∧ Hid (t = hornL x (backK zs k))) (fun _ y _ => (intOf y + 1).toNat)
  case atStart => exact ⟨0, 0, 0, rfl, by first | rfl | simp, Nat.zero_le _, by omega, by omega, rfl, Lib.hid rfl⟩
  case round =>
    obtain ⟨t, k, m, rfl, rfl, hk, t0, t1, rfl, HT⟩ := hrel
    by_cases hlt : k < zs.length
    · obtain ⟨i, hi⟩ : ∃ i, i = zs.length - 1 - k := ⟨_, rfl⟩
      have hmi : (zs.length : Int) - 1 - (k : Int) = (i : Int) := by omega
      have hmi2 : ((zs.length - 1 - k : Nat) : Int) = (i : Int) := by omega
      obtain ⟨b, off, rfl, hlb, hcell⟩ := HN.out.spot.2 (by omega)
      have q1 : w.cell? ⟨b, off + i, none⟩ = _ := hcell i (by omega)
      have i1 : (i : Int) < (zs.length : Int) := by omega
      have T1 : decide (0 ≤ (i : Int)) = true := by simp
      have r := HU.out.at i
      obtain ⟨y, hy⟩ : ∃ y, y = zs.getD i 0 := ⟨_, rfl⟩
      rw [← hy] at q1 r
      obtain ⟨r0, r1⟩ := r
      have hst : hornL x (backK zs (k + 1)) = xorI (mulI t x) y := by
        rw [← backK_snoc, hornL_snoc, hmi2, ← hi, ← hy, ← HT.out]
        congr 1
        omega
      have HST := Lib.hid hst
      have hnx : (i : Int) - 1 = (zs.length : Int) - 1 - ((k + 1 : Nat) : Int) := by omega
      have HNX := Lib.hid hnx
      have r3 := mulI_u t x t1 x1
      obtain ⟨r30, r31⟩ := r3
      obtain ⟨q, hq⟩ : ∃ q, q = mulI t x := ⟨_, rfl⟩
      have hc : ∀ u : World, Calls Try.prog 121 #[.int .u16 t, .int .u16 x] u fun e u' => e = .returned (.int .u16 q) ∧ u' = u := by rw [hq]; exact fun u => ltimes_v t x t0 t1 x0 x1 u
      have HC := Lib.hid hc
      rw [← hq] at HST r30 r31
      have hbx := bits_xor q y r30 r31 r0 r1
      have hxu := xorI_u q y r31 r1
      obtain ⟨z, hz⟩ : ∃ z, z = xorI q y := ⟨_, rfl⟩
      rw [← hz] at HST hbx hxu
      rw [hmi]
      clear hst hi hmi hmi2 hnx hy hcell hq hc hz HT
      go_wp2_with fail
      go_quiet (exact (HC.out _).mono (fun e w' h => ⟨h.1, _, h.2⟩))
      go_wp2_with fail
      exact ⟨⟨z, k + 1, m + nq, by first | rfl | rw [hbx], by rw [← HNX.out], by omega, hxu.1, hxu.2, by simp, Lib.hid HST.out.symm⟩, by first | (simp [intOf]; done) | (simp [intOf]; omega)⟩
    · obtain rfl : k = zs.length := by omega
      have T1 : decide (0 ≤ (zs.length : Int) - 1 - (zs.length : Int)) = false := by simp; omega
      have HE : Hid (t = V) := Lib.hid (by rw [HT.out, HV.out]; rfl)
      go_wp2_with fail
      go_ret
      exact ⟨by rw [HE.out]; rfl, m, rfl⟩
set_option maxHeartbeats 1000000 in
theorem spec_PolyAt (v : Value) (zs : List Int) (x : Int) (hn : zs.length ≤ 1048576) (x0 : 0 ≤ x) (x1 : x < 65536) (w : World) (h : NC w v zs) :
    Calls Try.prog 52 #[v, .int .u16 x] w fun e w' => e = .returned (.tuple #[.int .u16 (atI zs x), .int .i64 (okC zs)]) ∧ Below w.heap.size w w' := by
  have HN := Lib.hid h.ns
  clear h
  by_cases ho : okP zs = true
  · obtain ⟨V, hV⟩ : ∃ V, V = atP zs x := ⟨_, rfl⟩
    rw [atI_yes ho, okC_yes ho, ← hV]
    have HV := Lib.hid hV
    clear hV
    go_enter Try.func52, Try.ntmps52
    go_wp2_with fail
    refine (l05Ok_any _ zs hn _ HN.out).mono ?_
    rintro e w' ⟨rfl, hw⟩
    obtain rfl := hw.symm
    rw [ho]
    clear ho
    go_wp2_with fail
    refine (l05At_any _ zs x hn x0 x1 _ HN.out).mono ?_
    rintro e w1 ⟨rfl, m, rfl⟩
    rw [← HV.out]
    go_wp2_with fail
    go_ret2
    exact ⟨rfl, bdrewN (Below.refl _ w) m⟩
  · have ho' : okP zs = false := by simpa using ho
    rw [atI_no ho', okC_no ho']
    go_enter Try.func52, Try.ntmps52
    go_wp2_with fail
    refine (l05Ok_any _ zs hn _ HN.out).mono ?_
    rintro e w' ⟨rfl, hw⟩
    obtain rfl := hw.symm
    rw [ho']
    clear ho ho'
    go_wp2_with fail
    go_ret2
    exact ⟨rfl, Below.refl _ w⟩
set_option maxHeartbeats 1000000 in
theorem impl_PolyAt (v : Value) (zs : List Int) (x : Int) (hn : zs.length ≤ 1048576) (x0 : 0 ≤ x) (x1 : x < 65536) (w : World) (h : NC w v zs) :
    Calls Try.prog 53 #[v, .int .u16 x] w fun e w' => e = .returned (.tuple #[.int .u16 (atI zs x), .int .i64 (okC zs)]) ∧ Below w.heap.size w w' := by
  have HN := Lib.hid h.ns
  have HC := Lib.hid (check1 v zs hn w h.ns)
  obtain ⟨A, c, rfl, hca⟩ := h.form
  have HB1 := Lib.hid ((Below.refl w.heap.size w).alloc (Nat.le_refl _) (.cells #[.slice A zs.length c] 25))
  clear h
  by_cases ho : okP zs = true
  · obtain ⟨V, hV⟩ : ∃ V, V = atP zs x := ⟨_, rfl⟩
    rw [atI_yes ho, okC_yes ho, ← hV]
    have HV := Lib.hid hV
    clear hV
    go_enter Try.func53, Try.ntmps53
    go_wp2_with fail
    refine HC.out.mono ?_
    rintro e w' ⟨rfl, rfl⟩
    rw [okC_yes ho]
    clear ho
    go_wp2_with fail
    refine (at_any _ zs x hn x0 x1 _ (HN.out.below HB1.out)).mono ?_
    rintro e w1 ⟨rfl, hb⟩
    have HB := Lib.hid (bchain HB1.out hb)
    rw [← HV.out]
    clear hb
    go_wp2_with fail
    go_ret2
    exact ⟨rfl, HB.out⟩
  · have ho' : okP zs = false := by simpa using ho
    rw [atI_no ho', okC_no ho']
    go_enter Try.func53, Try.ntmps53
    go_wp2_with fail
    refine HC.out.mono ?_
    rintro e w' ⟨rfl, rfl⟩
    rw [okC_no ho']
    clear ho ho'
    go_wp2_with fail
    go_ret2
    exact ⟨rfl, HB1.out⟩
end Go.Proofs.Ytnpadkkjaeblfaa
