/-
  The statement Rows.FnFieldSaid for every input the law returns true; the walk is ours, the rest is the guide's template at this function's number and types.
  Conditions: none.
-/
import Derived.Test.YtklddmmbbaaliaaDoorRows
import Derived.WalkKit
import Derived.ProofKit
import Derived.OpenShut
import Derived.Test.YtklddmmbbaaliaaDoorHead
import Derived.Test.YtklddmmbbaaliaaDoorOpen



import Derived.Test.YtklddmmbbaaliaaDoorCards
import Derived.Test.YtklddmmbbaaliaaDoorTie
import Derived.LaidMore

import Derived.Stop.Joined
import Derived.SevenTiedAt

import Derived.Test.YtklddmmbbaaliaaDoorFldN
import Derived.Test.YtklddmmbbaaliaaDoorDrawF
import Derived.Test.YtklddmmbbaaliaaDoorRead
import Derived.Outline
namespace Go.Proofs.YtklddmmbbaaliaaDoor.fnField
open Go.ChangeShapes Go.WideShapes Go.ChangeAt Go.RowKit
set_option linter.unusedVariables false
set_option linter.unusedSimpArgs false

theorem own : ownKnob Tryd.prog.godebug = none := by kernel_rfl
theorem door_met (os : Os) (args : Array Value) : laidMetH Tryd.prog Rows.fnFieldRow.laid ((World.doorLaid Tryd.prog 4000 os).forCall (fun _ _ => 0) ⟨#[], args, []⟩).memory :=
  laidMetH_of_parts3 (fuel := 10) (laidMet_of_run' 10 (by kernel_rfl) (by kernel_rfl)) (by kernel_rfl) (by kernel_rfl)
theorem prime_cells (w : World) : ∀ i, i < 4 → ∃ p : Nat, p ∈ [3, 5, 17, 257] ∧ (w.alloc (.cells #[.int .i64 3, .int .i64 5, .int .i64 17, .int .i64 257] 2)).cell? ⟨w.heap.size, i, none⟩ = some (.int .i64 (p : Int)) := by
  intro i hi
  have h := fun j => cell_of_row _ _ j _ _ _ (heap_alloc_new w (.cells #[.int .i64 3, .int .i64 5, .int .i64 17, .int .i64 257] 2))
  rcases (show i = 0 ∨ i = 1 ∨ i = 2 ∨ i = 3 by omega) with rfl | rfl | rfl | rfl
  · exact ⟨3, by simp, (h 0).trans rfl⟩
  · exact ⟨5, by simp, (h 1).trans rfl⟩
  · exact ⟨17, by simp, (h 2).trans rfl⟩
  · exact ⟨257, by simp, (h 3).trans rfl⟩

set_option maxRecDepth 100000 in
set_option maxHeartbeats 10000000 in
theorem walk (w : World) (a0 : Value) (z0 : List Int) (a1 : Value) (z1 : List Int) (w0 : KS .u8 w a0 z0) (w1 : KS .u8 w a1 z1) (hL : laidMetH Tryd.prog Rows.fnFieldRow.laid w) :
    Calls Tryd.prog 7 #[a0, a1] w fun e w' => e = .returned (.bool true) ∧ Below w.heap.size w w' := by
  have HT := Lib.hid (errs_of_laid hL).1
  clear hL
  have HB0 := Lib.hid (BY.of_ks w0)
  have HB1 := Lib.hid (BY.of_ks w1)
  have HK0 := Lib.hid w0
  obtain ⟨A0, c0, rfl, -, -, -⟩ := w0
  obtain ⟨A1, c1, rfl, -, -, -⟩ := w1
  by_cases hlong : 3000 < z0.length ∨ 3000 < z1.length
  · go_enter Tryd.func7, Tryd.ntmps7
    go_wp2_with fail
    refine (a2Long_yes _ _ _ _ _ _ hlong _).mono ?_
    rintro e w1 ⟨rfl, rfl⟩
    go_wp2_with fail
    go_ret
    exact ⟨rfl, Below.refl _ _⟩
  have l0 : z0.length ≤ 3000 := by omega
  have l1 : z1.length ≤ 3000 := by omega
  clear hlong
  obtain ⟨i0, hi, hz0, hz1, hz2⟩ := info_parts infoB
  have HI := Lib.hid (And.intro hi (And.intro hz0 (And.intro hz1 hz2)))
  clear hi hz0 hz1 hz2
  go_enter Tryd.func7, Tryd.ntmps7
  go_wp2_with fail
  refine (a2Long_no _ _ _ _ _ _ l0 l1 _).mono ?_
  rintro e w1 ⟨rfl, rfl⟩
  go_wp2_with fail
  refine (A2Nim_any _ _ HB0.out).mono ?_
  rintro e w2 ⟨⟨a, ha, rfl⟩, hb2⟩
  have HX2 := Lib.hid hb2
  clear hb2
  go_wp2_with fail
  refine (A2Nim_any _ _ (HB1.out.below HX2.out)).mono ?_
  rintro e w3 ⟨⟨b, hb, rfl⟩, hb3⟩
  have HX3 := Lib.hid (HX2.out.trans (hb3.mono HX2.out.size))
  clear hb3 HX2
  have hsz3 := HX3.out.size
  have HL3 : Hid ((w3.alloc (.cells #[.int .u8 9] 5)).ownsRow w3.heap.size 5 1 (.slice (some ⟨w3.heap.size, 0, none⟩) 1 1) 1 ([9].map (Value.int .u8))) := Lib.hid
    ⟨by simp, .inr ⟨w3.heap.size, 1, #[.int .u8 9], rfl, by omega, heap_alloc_new w3 _, Nat.le_refl _, by unfold maxLen; omega, rfl, by simp⟩⟩
  have HK3 := Lib.hid (HK0.out.below8 (HX3.out.alloc hsz3 (.cells #[.int .u8 9] 5)))
  go_wp2_with (at_builtin; refine wpList_append_ks rfl _ _ 38 rfl w3.heap.size 5 i0 (.int .u8 0) Tryd.underlying38 HI.out.1 HI.out.2.1 HI.out.2.2.1 HI.out.2.2.2 rfl _ 1 ([9].map (Value.int .u8)) rfl HL3.out _ z0 rfl HK3.out (by omega) (by simp) ?_; intro v4 w4 hown4 hgrow4)
  have HY4 : Hid (BY w4 v4) := Lib.hid (BY.of_own (zs := [9] ++ z0) (by rw [List.map_append, List.length_append]; exact hown4) (by
    intro z hz
    rcases List.mem_append.1 hz with q | q
    · simp at q; omega
    · exact HK0.out.bytes z q))
  have HX4 : Hid (Below w.heap.size w w4) := Lib.hid (((HX3.out.alloc hsz3 _).grown hgrow4 (by rw [World.size_alloc]; exact Nat.le_succ_of_le hsz3) (fun k hk => by have e := Option.some.inj hk; rw [← e]; exact hsz3)))
  clear HK3 HL3 hown4 hgrow4 hsz3
  refine (A2Nim_any _ _ HY4.out).mono ?_
  rintro e w5 ⟨⟨c, hc, rfl⟩, hb5⟩
  have HX5 := Lib.hid (HX4.out.trans (hb5.mono HX4.out.size))
  clear hb5 HX4 HX3 HY4
  obtain ⟨ab, hab⟩ : ∃ p, Nim.mul a b = p := ⟨_, rfl⟩
  obtain ⟨bc, hbc⟩ : ∃ p, Nim.mul b c = p := ⟨_, rfl⟩
  obtain ⟨ac, hac⟩ : ∃ p, Nim.mul a c = p := ⟨_, rfl⟩
  obtain ⟨abc, habc⟩ : ∃ p, Nim.mul ab c = p := ⟨_, rfl⟩
  obtain ⟨s, hs⟩ : ∃ p, a ^^^ b = p := ⟨_, rfl⟩
  obtain ⟨sc, hsc⟩ : ∃ p, Nim.mul s c = p := ⟨_, rfl⟩
  have lab : ab < 65536 := hab ▸ Nim.mul_b ha hb
  have lbc : bc < 65536 := hbc ▸ Nim.mul_b hb hc
  have lac : ac < 65536 := hac ▸ Nim.mul_b ha hc
  have ls : s < 65536 := hs ▸ Nim.x_b ha hb
  have Hab := Lib.hid hab
  have Hba := Lib.hid (show Nim.mul b a = ab by rw [Nim.mul_comm, hab])
  have Hbc := Lib.hid hbc
  have Hac := Lib.hid hac
  have Habc := Lib.hid habc
  have Habc' := Lib.hid (show Nim.mul a bc = abc by rw [← hbc, ← Nim.mul_assoc ha hb hc, hab, habc])
  have Hs := Lib.hid hs
  have Hsc := Lib.hid hsc
  have Hsc' := Lib.hid (show ac ^^^ bc = sc by rw [← hsc, ← hs, Nim.mul_xor_left, hac, hbc])
  clear hab hbc hac habc hs hsc
  go_wp2_with (first | ((with_reducible refine (impl_tN a b ab ha hb Hab _).mono ?_); rintro e w' ⟨rfl, rfl⟩) | ((with_reducible refine (spec_tN a b ab ha hb Hab _).mono ?_); rintro e w' ⟨rfl, rfl⟩) | ((with_reducible refine (spec_tN b c bc hb hc Hbc _).mono ?_); rintro e w' ⟨rfl, rfl⟩) | ((with_reducible refine (spec_tN a c ac ha hc Hac _).mono ?_); rintro e w' ⟨rfl, rfl⟩) | ((with_reducible refine (impl_tN b a ab hb ha Hba _).mono ?_); rintro e w' ⟨rfl, rfl⟩) | ((with_reducible refine (impl_tN ab c abc lab hc Habc _).mono ?_); rintro e w' ⟨rfl, rfl⟩) | ((with_reducible refine (spec_tN a bc abc ha lbc Habc' _).mono ?_); rintro e w' ⟨rfl, rfl⟩) | ((with_reducible refine (impl_pN a b s ha hb Hs _).mono ?_); rintro e w' ⟨rfl, rfl⟩) | ((with_reducible refine (impl_tN s c sc ls hc Hsc _).mono ?_); rintro e w' ⟨rfl, rfl⟩) | ((with_reducible refine (impl_pN ac bc sc lac lbc Hsc' _).mono ?_); rintro e w' ⟨rfl, rfl⟩) | ((with_reducible refine (impl_p0 a ha _).mono ?_); rintro e w' ⟨rfl, rfl⟩) | ((with_reducible refine (impl_t1 a ha _).mono ?_); rintro e w' ⟨rfl, rfl⟩) | ((with_reducible refine (impl_t0 a ha _).mono ?_); rintro e w' ⟨rfl, rfl⟩))
  obtain ⟨la, hla⟩ : ∃ p, lev a = p := ⟨_, rfl⟩
  obtain ⟨lb, hlb⟩ : ∃ p, lev b = p := ⟨_, rfl⟩
  obtain ⟨lp, hlp⟩ : ∃ p, lev ab = p := ⟨_, rfl⟩
  obtain ⟨lx, hlx⟩ : ∃ p, lev s = p := ⟨_, rfl⟩
  obtain ⟨lm, hlm⟩ : ∃ p, max la lb = p := ⟨_, rfl⟩
  have ml4 : lm ≤ 4 := by have h1 := lev_le4 a; have h2 := lev_le4 b; omega
  have mla : la ≤ lm := by omega
  have mlb : lb ≤ lm := by omega
  have mlp : lp ≤ lm := by rw [← hlp, ← Hab.out]; exact lev_mul ha hb ml4 (by omega) (by omega)
  have mlx : lx ≤ lm := by rw [← hlx, ← Hs.out]; exact lev_xor ha hb ml4 (by omega) (by omega)
  have hmx : max (la : Int) (lb : Int) = (lm : Int) := by omega
  have Tp : decide ((lm : Int) < (lp : Int)) = false := by simp; omega
  have Tx : decide ((lm : Int) < (lx : Int)) = false := by simp; omega
  have hxs : bits .xor .u16 (a : Int) (b : Int) = (s : Int) := by rw [bits_xor _ _ (by omega) (by omega) (by omega) (by omega), xorI_nat, Hs.out]
  have Hla := Lib.hid hla
  have Hlb := Lib.hid hlb
  have Hlp := Lib.hid hlp
  have Hlx := Lib.hid hlx
  clear hla hlb hlp hlx hlm
  go_wp2_with (first | ((with_reducible refine (spec_lN a la ha Hla _).mono ?_); rintro e w' ⟨rfl, rfl⟩) | ((with_reducible refine (spec_lN b lb hb Hlb _).mono ?_); rintro e w' ⟨rfl, rfl⟩) | ((with_reducible refine (impl_lN a la ha Hla _).mono ?_); rintro e w' ⟨rfl, rfl⟩) | ((with_reducible refine (spec_lN ab lp lab Hlp _).mono ?_); rintro e w' ⟨rfl, rfl⟩) | ((with_reducible refine (spec_lN s lx ls Hlx _).mono ?_); rintro e w' ⟨rfl, rfl⟩))
  clear Tp Tx hmx mla mlb mlp mlx ml4 hxs
  obtain ⟨sq, hsq⟩ : ∃ p, Nim.mul a a = p := ⟨_, rfl⟩
  obtain ⟨rt, hrt⟩ : ∃ p, Nim.npow a 32768 = p := ⟨_, rfl⟩
  have lsq : sq < 65536 := hsq ▸ Nim.mul_b ha ha
  have lrt : rt < 65536 := hrt ▸ Nim.npow_b ha _
  have Hrs := Lib.hid (show Nim.npow sq 32768 = a by rw [← hsq]; exact root_sq ha)
  have Hsr := Lib.hid (show Nim.mul rt rt = a by rw [← hrt]; exact sq_root ha)
  have Hsq := Lib.hid hsq
  have Hrt := Lib.hid hrt
  clear hsq hrt
  go_wp2_with (first | ((with_reducible refine (impl_sN a sq ha Hsq _).mono ?_); rintro e w' ⟨rfl, rfl⟩) | ((with_reducible refine (spec_tN a a sq ha ha Hsq _).mono ?_); rintro e w' ⟨rfl, rfl⟩) | ((with_reducible refine (impl_rN sq a lsq Hrs _).mono ?_); rintro e w' ⟨rfl, rfl⟩) | ((with_reducible refine (impl_rN a rt ha Hrt _).mono ?_); rintro e w' ⟨rfl, rfl⟩) | ((with_reducible refine (impl_sN rt a lrt Hsr _).mono ?_); rintro e w' ⟨rfl, rfl⟩))
  refine (a2At_any _ _ (HB1.out.below HX5.out) 0 256 (by omega) (by omega) (by omega)).mono ?_
  rintro e w6 ⟨⟨q1, hq1, rfl⟩, rfl⟩
  go_wp2_with fail
  refine (a2At_any _ _ (HB0.out.below HX5.out) 0 256 (by omega) (by omega) (by omega)).mono ?_
  rintro e w6 ⟨⟨q2, hq2, rfl⟩, rfl⟩
  go_wp2_with fail
  obtain ⟨n, hn⟩ : ∃ n, n = 7 * q1 + q2 := ⟨_, rfl⟩
  have hn1 : (7 : Int) * (q1 : Int) + (q2 : Int) = (n : Int) := by omega
  have hn2 : n ≤ 2040 := by omega
  rw [hn1]
  refine (a2At_any _ _ (HB0.out.below HX5.out) 1 256 (by omega) (by omega) (by omega)).mono ?_
  rintro e w6 ⟨⟨q3, hq3, rfl⟩, rfl⟩
  obtain ⟨m, hm⟩ : ∃ m, m = 100 * q3 := ⟨_, rfl⟩
  have hm1 : (100 : Int) * (q3 : Int) = (m : Int) := by omega
  have hm2 : m ≤ 25500 := by omega
  clear hn hm
  obtain ⟨nm, hnm⟩ : ∃ k, n + m = k := ⟨_, rfl⟩
  have hnm1 : (n : Int) + (m : Int) = (nm : Int) := by omega
  have hnm2 : nm ≤ 100000 := by omega
  obtain ⟨x, hx⟩ : ∃ p, Nim.npow a n = p := ⟨_, rfl⟩
  obtain ⟨y, hy⟩ : ∃ p, Nim.npow a m = p := ⟨_, rfl⟩
  obtain ⟨z, hz⟩ : ∃ p, Nim.npow a nm = p := ⟨_, rfl⟩
  have lx' : x < 65536 := hx ▸ Nim.npow_b ha _
  have ly' : y < 65536 := hy ▸ Nim.npow_b ha _
  have Hxy := Lib.hid (show Nim.mul x y = z by rw [← hx, ← hy, ← hz, ← hnm, Nim.npow_add ha])
  have Hx := Lib.hid hx
  have Hy := Lib.hid hy
  have Hz := Lib.hid hz
  clear hx hy hz hnm
  go_wp2_with (first | ((with_reducible refine (impl_wN a n x ha (by omega) Hx _).mono ?_); rintro e w' ⟨rfl, rfl⟩) | ((with_reducible refine (impl_wN a m y ha (by omega) Hy _).mono ?_); rintro e w' ⟨rfl, rfl⟩) | ((with_reducible refine (impl_wN a nm z ha (by omega) Hz _).mono ?_); rintro e w' ⟨rfl, rfl⟩) | ((with_reducible refine (spec_wN a n x ha (by omega) Hx _).mono ?_); rintro e w' ⟨rfl, rfl⟩) | ((with_reducible refine (spec_tN x y z lx' ly' Hxy _).mono ?_); rintro e w' ⟨rfl, rfl⟩))
  clear hn1 hm1 hnm1
  obtain ⟨st, hst⟩ : ∃ st : ByteArray, st = ⟨(nimT a).toArray⟩ := ⟨_, rfl⟩
  have hst2 : st.data.toList = nimT a := by rw [hst]
  have hst3 : st.size ≤ 281474976710656 := by
    have h1 := dd_le a (by omega)
    have h2 : st.size = (nimT a).length := by rw [hst]; rfl
    have h3 : (nimT a).length = (Lib.decDigits a).length + 1 := by unfold nimT; simp
    omega
  have HST := Lib.hid hst
  have HST2 := Lib.hid hst2
  clear hst hst2
  refine (impl_NimText a ha _ (HT.out.below HX5.out)).mono ?_
  rintro e w7 ⟨rfl, hb7⟩
  rw [← HST.out]
  have HX7 := Lib.hid (HX5.out.trans (hb7.mono HX5.out.size))
  clear hb7
  go_wp2_with fail
  refine (impl_ReadNim_yes st hst3 a ha HST2.out _ (HT.out.below HX7.out)).mono ?_
  rintro e w8 ⟨rfl, hb8⟩
  have HX8 := Lib.hid (HX7.out.trans (hb8.mono HX7.out.size))
  clear hb8 HX5 HX7 hst3
  by_cases ha0 : a = 0
  · have HA0 := Lib.hid ha0
    have T0 : ((a : Int) == 0) = true := by rw [beq_iff_eq]; omega
    clear ha0
    go_wp2_with (first | ((with_reducible refine (impl_i0 a HA0 _).mono ?_); rintro e w' ⟨rfl, rfl⟩) | ((with_reducible refine (impl_o0 b a HA0 _).mono ?_); rintro e w' ⟨rfl, rfl⟩) | ((with_reducible refine (impl_d0 a HA0 _).mono ?_); rintro e w' ⟨rfl, rfl⟩))
    go_ret
    exact ⟨rfl, HX8.out⟩
  · have HA0 : Hid (a ≠ 0) := Lib.hid ha0
    have T0 : ((a : Int) == 0) = false := by rw [beq_eq_false_iff_ne]; omega
    obtain ⟨i, hi⟩ : ∃ p, Nim.npow a 65534 = p := ⟨_, rfl⟩
    obtain ⟨ov, hov⟩ : ∃ p, Nim.mul b i = p := ⟨_, rfl⟩
    obtain ⟨o, ho⟩ : ∃ p, Nim.ordN a = p := ⟨_, rfl⟩
    obtain ⟨k, hk⟩ : ∃ k, n % o = k := ⟨_, rfl⟩
    have li : i < 65536 := hi ▸ Nim.npow_b ha _
    have lov : ov < 65536 := hov ▸ Nim.mul_b hb li
    have hai : Nim.mul a i = 1 := by rw [← hi]; exact Nim.mul_inv ha ha0
    have Hai := Lib.hid hai
    have Hova := Lib.hid (show Nim.mul ov a = b by rw [← hov, Nim.mul_assoc hb li ha, Nim.mul_comm i a, hai, Nim.mul_comm, Nim.mul_one_left hb])
    have o0 : 0 < o := ho ▸ Nim.ordN_pos a
    have o1 : o ≤ 65535 := ho ▸ Nim.ordN_le a
    have Hwo := Lib.hid (show Nim.npow a o = 1 by rw [← ho]; exact Nim.ordN_one ha ha0)
    have ho65 : 65535 % o = 0 := by rw [← ho]; exact Nat.mod_eq_zero_of_dvd (Nim.ordN_dvd a)
    have To1 : (65535 : Int) % (o : Int) = 0 := by have q := Int.natCast_emod 65535 o; rw [ho65] at q; exact q.symm
    have To2 : (n : Int) % (o : Int) = (k : Int) := by rw [← hk]; exact (Int.natCast_emod n o).symm
    have To3 : ((o : Int) == 0) = false := by rw [beq_eq_false_iff_ne]; omega
    have To4 : ¬ (o : Int) = 0 := by omega
    have k1 : k ≤ 2040 := by rw [← hk]; exact Nat.le_trans (Nat.mod_le _ _) hn2
    have Hwk := Lib.hid (show Nim.npow a k = x by rw [← Hx.out, ← hk, ← ho]; exact Nim.npow_mod ha (Nim.ordN_one ha ha0))
    have Hnk := Lib.hid (show n % Nim.ordN a = k by rw [ho, hk])
    have Hi := Lib.hid hi
    have Hov := Lib.hid hov
    have Ho := Lib.hid ho
    have Hneed := Lib.hid (show ∀ p, p ∈ [3, 5, 17, 257] → p ∣ o → Nim.npow a (o / p) ≠ 1 by rw [← ho]; exact Nim.ordN_need ha)
    clear hi hov ho hk hai ho65 ha0
    go_wp2_with (first | ((with_reducible refine (impl_iN a i ha HA0 Hi _).mono ?_); rintro e w' ⟨rfl, rfl⟩) | ((with_reducible refine (impl_oN b a i ov ha hb HA0 Hi Hov _).mono ?_); rintro e w' ⟨rfl, rfl⟩) | ((with_reducible refine (impl_dN a o ha HA0 Ho _).mono ?_); rintro e w' ⟨rfl, rfl⟩))
    refine (spec_dN a o ha HA0 Ho _).mono ?_
    rintro e w9 ⟨rfl, hb9⟩
    have HX9 := Lib.hid (HX8.out.trans (hb9.mono HX8.out.size))
    clear hb9 HX8
    go_wp2_with (first | ((with_reducible refine (impl_wN a o 1 ha (by omega) Hwo _).mono ?_); rintro e w' ⟨rfl, rfl⟩))
    refine (impl_gN a n x k ha lx' HA0 Hx Hnk _).mono ?_
    rintro e w10 ⟨rfl, hb10⟩
    have HX10 := Lib.hid (HX9.out.trans (hb10.mono HX9.out.size))
    clear hb10 HX9
    go_wp2_with (first | ((with_reducible refine (impl_wN a k x ha (by omega) Hwk _).mono ?_); rintro e w' ⟨rfl, rfl⟩) | ((with_reducible refine (spec_tN a i 1 ha li Hai _).mono ?_); rintro e w' ⟨rfl, rfl⟩) | ((with_reducible refine (spec_tN ov a b lov ha Hova _).mono ?_); rintro e w' ⟨rfl, rfl⟩))
    have HCL := Lib.hid (prime_cells w10)
    have HX11 := Lib.hid (HX10.out.alloc HX10.out.size (.cells #[.int .i64 3, .int .i64 5, .int .i64 17, .int .i64 257] 2))
    generalize w10.alloc (.cells #[.int .i64 3, .int .i64 5, .int .i64 17, .int .i64 257] 2) = w11 at HCL HX11 ⊢
    clear HX10 To1 To2 T0 Hab Hba Hbc Hac Habc Habc' Hs Hsc Hsc' Hla Hlb Hlp Hlx Hrs Hsr Hsq Hrt Hxy Hx Hy Hz Hwo Hwk Hnk Hi Hov Hova Hai Ho HST HST2 HI HB0 HB1 HK0 HT
    go_loopw [41] (fun y wr => ∃ i : Nat, y = .int .i64 (i : Int) ∧ i ≤ 4 ∧ w11 = wr) (fun y _ => 4 - (intOf y).toNat)
    case atStart => exact ⟨0, rfl, by omega, rfl⟩
    case round =>
      obtain ⟨j, rfl, hj, rfl⟩ := hrel
      by_cases hlt : j < 4
      · have T1 : decide ((j : Int) < 4) = true := by simp; omega
        have j1 : (j : Int) < 4 := by omega
        obtain ⟨p, hp, hcell⟩ := HCL.out j hlt
        have hneed := Hneed.out p hp
        have p0 : 3 ≤ p ∧ p ≤ 257 := by simp only [List.mem_cons, List.not_mem_nil, or_false] at hp; omega
        obtain ⟨p1, p2⟩ := p0
        have P1 : ((p : Int) == 0) = false := by rw [beq_eq_false_iff_ne]; omega
        have P2 : ¬ (p : Int) = 0 := by omega
        obtain ⟨r, hr⟩ : ∃ r, o % p = r := ⟨_, rfl⟩
        have hr1 : (o : Int) % (p : Int) = (r : Int) := by rw [← hr]; exact (Int.natCast_emod o p).symm
        by_cases hd : r = 0
        · obtain ⟨q, hq⟩ : ∃ q, o / p = q := ⟨_, rfl⟩
          have hq1 : (o : Int) / (p : Int) = (q : Int) := by rw [← hq]; exact (Int.natCast_ediv o p).symm
          have hq2 : q ≤ 65535 := by rw [← hq]; exact Nat.le_trans (Nat.div_le_self _ _) o1
          obtain ⟨t, ht⟩ : ∃ t, Nim.npow a q = t := ⟨_, rfl⟩
          have ht1 : t ≠ 1 := by
            rw [← ht, ← hq]
            exact hneed (Nat.dvd_of_mod_eq_zero (by rw [hr, hd]))
          have T3 : ((t : Int) == 1) = false := by rw [beq_eq_false_iff_ne]; omega
          have Ht := Lib.hid ht
          subst hd
          have T2 : (((0 : Nat) : Int) == 0) = true := rfl
          clear ht hq hr hneed hp ht1
          go_wp2_with (first | ((with_reducible refine (impl_wN a q t ha (by omega) Ht _).mono ?_); rintro e w' ⟨rfl, rfl⟩))
          exact ⟨⟨j + 1, by go_num, by omega, by first | trivial | rfl⟩, by simp [intOf]; omega⟩
        · have T2 : ((r : Int) == 0) = false := by rw [beq_eq_false_iff_ne]; omega
          clear hr hneed hp hd
          go_wp2_with fail
          exact ⟨⟨j + 1, by go_num, by omega, by first | trivial | rfl⟩, by simp [intOf]; omega⟩
      · obtain rfl : j = 4 := by omega
        go_wp2_with fail
        go_ret
        exact ⟨rfl, HX11.out⟩

set_option maxRecDepth 100000 in
theorem lifted (os : Os) (started : os.Started) (H : Type) (enc : TypeId × Value → H) :
    ReturnsInHanded {} Tryd.checked os 7 .any (fun w args => (Rows.fnFieldSpec.pre enc Tryd.prog Tryd.f7 Rows.fnFieldRow.domain false w args ∧ laidMetH Tryd.prog Rows.fnFieldRow.laid w) ∧ sizedMet enc Tryd.prog Tryd.f7 (OpenSpec.ofChange Rows.fnFieldSpec) false w args)
      (Rows.fnFieldSpec.post enc Tryd.prog Tryd.f7 false true false false) := by
  refine returnsInHanded_of_change_and (C := Tryd.checked) (X := fun w _ => laidMetH Tryd.prog Rows.fnFieldRow.laid w) (fun _ _ _ hh h => h.of_heap hh) own started (by kernel_rfl) Tryd.func7
    (ChangeSpec.witness_shaped (enc := enc) (C := Tryd.checked) (os := os) (X := fun w _ => laidMetH Tryd.prog Rows.fnFieldRow.laid w) false (World.doorLaid Tryd.prog 4000 os) #[.slice none 0 0, .slice none 0 0] 8 rfl (World.shaped_of_RefB (by kernel_rfl) (by kernel_rfl)) (by kernel_rfl) (by kernel_rfl) (by kernel_rfl) (door_met os _)) ?_
  intro W base args ds gs before hval0 hW _ _ hL _
  have hval : ∀ (j : Nat) t v, Tryd.f7.params[j]? = some t → args[j]? = some v → Value.okWide Tryd.prog W .any base t v := hval0
  have hW' := hW
  obtain ⟨p, q, hA0, hV, rfl, hfz, hnd⟩ := hW
  have hA : DataW.TrodAll enc Tryd.prog W 0 (fun _ => true) true Tryd.f7.params.toList args.toList ds p := hA0
  rw [Tryd.params7] at hA hval
  obtain ⟨v0, vs0, d0, ds0, p0, q0, hargs, rfl, rfl, h0, r0⟩ := trodAll_cons hA
  obtain ⟨v1, vs1, d1, ds1, p1, q1, rfl, rfl, rfl, h1, r1⟩ := trodAll_cons r0
  obtain ⟨rfl, rfl, rfl⟩ := trodAll_nil r1
  obtain rfl : args = #[v0, v1] := by cases args; simp_all
  obtain ⟨rfl, rfl⟩ := trodVars_none hV
  obtain ⟨z0, w0, g0⟩ := open_row Tryd.underlying38 Tryd.underlying5 (by kernel_rfl) (hval 0 38 v0 rfl rfl) h0
  obtain ⟨a0, ha0⟩ : ∃ y, y = v0 := ⟨_, rfl⟩
  subst ha0
  obtain ⟨z1, w1, g1⟩ := open_row Tryd.underlying38 Tryd.underlying5 (by kernel_rfl) (hval 1 38 v1 rfl rfl) h1
  obtain ⟨a1, ha1⟩ : ∃ y, y = v1 := ⟨_, rfl⟩
  subst ha1
  clear hA0 hval0
  simp only [List.append_nil, List.nil_append] at hW'
  refine (walk W a0 z0 a1 z1 w0 w1 hL).mono fun e W' ⟨he, hg⟩ => ?_
  subst he
  exact ⟨_, rfl, law_post rfl rfl hW' hg (fun _ _ _ => (trodAll_cons_mk (shut_bool Tryd.underlying4 _) trodAll_mk0)) (fun sp hsp => by have t := (trodAll_cons_mk (g0 W' hg sp (fun q hq => hsp q (by simp [hq]))) (trodAll_cons_mk (g1 W' hg sp (fun q hq => hsp q (by simp [hq]))) trodAll_mk0)); simp only [List.append_nil, List.nil_append] at t; exact t) (ok_one (by kernel_rfl) rfl (okWide_bool_mk Tryd.underlying4 _))⟩

theorem over : Rows.fnFieldRow.holds Tryd.pinned (OpenSpec.ofChange Rows.fnFieldSpec) :=
  OpenClaim.holds_of_wide 7 Tryd.f7 rfl rfl rfl rfl rfl rfl rfl ⟨rfl, rfl, rfl, rfl, rfl⟩ rfl rfl rfl rfl rfl (by kernel_rfl) Tryd.func7 (joinedBy 7 Tryd.f7 Rows.fnFieldSpec Rows.fnFieldRow (by kernel_rfl))
    (of_decide_eq_true (by kernel_rfl)) (by unfold Func.isWrapper; first | (rw [if_pos (by decide +kernel)]; kernel_rfl) | (rw [if_neg (by decide +kernel)]; exact ⟨rfl, rfl⟩))
    (fun os started H enc _ => lifted os started H enc)

/-- the statement -/
theorem proved : Rows.FnFieldCardSaid :=
  Claim7.holds_tied_plain_at .later [] [.data, .data, .data, .sentinel, .sentinel] true (true, "c543b37fbccc467cc8084a48a07c1237361c59837c6c8b939cf9a745f5fff814") true
    over (fun _ h => by cases h) (by kernel_rfl) (fun _ h => by cases h) fnField_row_tie rfl ⟨rfl, rfl⟩ (by kernel_rfl) rfl
    (fun f fn hf hfn => by
      obtain rfl : f = 7 := Option.some.inj ((show Tryd.prog.funcNamed "loop.example/g01307/laws.FnField" = some 7 by kernel_rfl).symm.trans hf) |>.symm
      obtain rfl : fn = Tryd.f7 := (Option.some.inj (Tryd.func7.symm.trans hfn)).symm
      exact ⟨by kernel_rfl, fun j t ht => by
        rw [Tryd.params7] at ht
        have hm : t ∈ [38, 38] := by simpa using Array.mem_of_getElem? ht
        have hall : ([38, 38].all fun u => !Tryd.prog.wantsStandIn u) = true := by kernel_rfl
        exact (show Tryd.prog.wantsStandIn t = false by simpa using List.all_eq_true.1 hall t hm)⟩)
    (by kernel_rfl)
end Go.Proofs.YtklddmmbbaaliaaDoor.fnField
