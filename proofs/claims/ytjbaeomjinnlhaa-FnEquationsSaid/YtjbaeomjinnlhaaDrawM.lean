/-
  What is drawn from bytes: a source's next byte, a number below n, a nimber.
-/
import Derived.Test.YtjbaeomjinnlhaaLawM
import Derived.Deep.RegionHeld
namespace Go.Proofs.Ytjbaeomjinnlhaa
set_option linter.unusedVariables false
set_option linter.unusedSimpArgs false
open Go.ChangeShapes Go.WideShapes Go.ChangeAt Go.RowKit
/-- a source of bytes, in a block of its own -/
def SRC (w : World) (g at' : Nat) : Prop := ∃ (A : Option Addr) (n c : Nat) (seed : Int), w.heap[g]? = some (.cells #[.slice A n c, .int .i64 (at' : Int), .int .u64 seed] 174 (0, 0)) ∧ n ≤ 9223372036854775807 ∧
  (0 < n → ∃ b off, A = some ⟨b, off, none⟩ ∧ b < g ∧ ∀ i, i < n → ∃ z : Nat, z < 256 ∧ w.cell? ⟨b, off + i, none⟩ = some (.int .u8 (z : Int)))
theorem wrap64_small (m : Int) : 0 ≤ IntKind.wrap .u64 m ∧ IntKind.wrap .u64 m < 18446744073709551616 := by
  simp only [IntKind.wrap, show IntKind.u64.bits = 64 from rfl, show IntKind.u64.signed = false from rfl]
  constructor <;> (simp; omega)
theorem and255 (m : Int) : ∃ z : Nat, z < 256 ∧ bits .and .u64 m 255 = (z : Int) := by
  have hb : (BitVec.ofInt 64 m &&& BitVec.ofInt 64 255).toNat ≤ 255 := by
    rw [BitVec.toNat_and, show (BitVec.ofInt 64 255).toNat = 255 from rfl]
    exact Nat.and_le_right
  refine ⟨(BitVec.ofInt 64 m &&& BitVec.ofInt 64 255).toNat, by omega, ?_⟩
  show IntKind.u64.wrap (((BitVec.ofInt 64 m &&& BitVec.ofInt 64 255).toNat : Nat) : Int) = _
  generalize (BitVec.ofInt 64 m &&& BitVec.ofInt 64 255).toNat = q at hb ⊢
  simp only [IntKind.wrap, show IntKind.u64.bits = 64 from rfl, show IntKind.u64.signed = false from rfl]
  simp; omega
theorem src_put {w0 : World} {g : Nat} {s a e : Value} {t : TypeId} (h : w0.heap[g]? = some (.cells #[s, a, e] t (0, 0))) (a' e' : Value) : ((w0.setCell ⟨g, 1, none⟩ a').setCell ⟨g, 2, none⟩ e').heap[g]? = some (.cells #[s, a', e'] t (0, 0)) := by
  rw [heap_setCell_same _ g 2 _ _ _ (heap_setCell_same w0 g 1 _ _ _ h)]; rfl
theorem src_other {w0 : World} {g k : Nat} (h : k ≠ g) (a' e' : Value) : ((w0.setCell ⟨g, 1, none⟩ a').setCell ⟨g, 2, none⟩ e').heap[k]? = w0.heap[k]? := by
  rw [heap_setCell_other _ _ _ _ (by simpa using h), heap_setCell_other _ _ _ _ (by simpa using h)]
/-- the source alone is written -/
def FRM (g : Nat) (w w' : World) : Prop := Below g w w' ∧ ∀ k, k < w.heap.size → k ≠ g → w'.heap[k]? = w.heap[k]?
theorem FRM.trans {g : Nat} {a b c : World} (h : FRM g a b) (h' : FRM g b c) : FRM g a c :=
  ⟨h.1.trans h'.1, fun k hk hg => (h'.2 k (Nat.lt_of_lt_of_le hk h.1.size) hg).trans (h.2 k hk hg)⟩
theorem FRM.cell {g : Nat} {a b : World} (h : FRM g a b) {k o : Nat} (hk : k < a.heap.size) (hg : k ≠ g) : b.cell? ⟨k, o, none⟩ = a.cell? ⟨k, o, none⟩ := by
  unfold World.cell?
  rw [h.2 k hk hg]
theorem SRC.below {w w' : World} {g a : Nat} (h : SRC w g a) (hb : Below w.heap.size w w') : SRC w' g a := by
  obtain ⟨A, n, c, seed, h1, h2, h3⟩ := h
  have hlt : g < w.heap.size := (Array.getElem?_eq_some_iff.1 h1).1
  refine ⟨A, n, c, seed, (hb.block g hlt).trans h1, h2, fun hn => ?_⟩
  obtain ⟨b, off, e, hb', hc⟩ := h3 hn
  refine ⟨b, off, e, hb', fun i hi => ?_⟩
  obtain ⟨z, hz, hcell⟩ := hc i hi
  exact ⟨z, hz, (hb.cell (p := ⟨b, off + i, none⟩) (by show b < w.heap.size; omega)).trans hcell⟩
set_option maxRecDepth 100000 in
set_option maxHeartbeats 2000000 in
theorem next_any (g at' : Nat) (hat : at' ≤ 1073741824) (w : World) (h : SRC w g at') :
    Calls Try.prog 184 #[.pointer (some ⟨g, 0, none⟩)] w fun e w' => (∃ z : Nat, z < 256 ∧ e = .returned (.int .i64 (z : Int))) ∧ SRC w' g (at' + 1) ∧ FRM g w w' := by
  obtain ⟨A, n, c, seed, hb, hn, hcode⟩ := h
  have c0 : w.cell? ⟨g, 0, none⟩ = some (.slice A n c) := cell_of_row _ _ _ _ _ _ hb
  have c1 : w.cell? ⟨g, 1, none⟩ = some (.int .i64 (at' : Int)) := cell_of_row _ _ _ _ _ _ hb
  have c2 : w.cell? ⟨g, 2, none⟩ = some (.int .u64 seed) := cell_of_row _ _ _ _ _ _ hb
  have f1 : w.frozen? ⟨g, 1, none⟩ = false := by unfold World.frozen?; rw [hb]; simp
  have f2 : w.frozen? ⟨g, 2, none⟩ = false := by unfold World.frozen?; rw [hb]; simp
  have HB := Lib.hid hb
  have HC := Lib.hid hcode
  clear hb hcode
  by_cases hlt : at' < n
  · obtain ⟨b, off, rfl, hbg, hcell⟩ := HC.out (by omega)
    obtain ⟨z, hz, h1⟩ := hcell at' hlt
    have T1 : decide ((at' : Int) < (n : Int)) = true := by simp; omega
    have T1' : decide (at' < n) = true := by simp; omega
    have i1 : (at' : Int) < (n : Int) := by omega
    have HCL := Lib.hid hcell
    clear hcell
    go_enter Try.func184, Try.ntmps184
    go_wp2_with fail
    go_quiet (fail)
    go_wp2_with fail
    go_quiet (fail)
    go_wp2_with fail
    obtain ⟨S, hS⟩ : ∃ S, S = IntKind.wrap .u64 (IntKind.wrap .u64 (IntKind.wrap .u64 (seed * 6364136223846793005) + (z : Int)) + 1442695040888963407) := ⟨_, rfl⟩
    rw [← hS]
    generalize hwd : w.drewN _ = w0
    have hb0 : w0.heap[g]? = some (.cells #[.slice (some ⟨b, off, none⟩) n c, .int .i64 (at' : Int), .int .u64 seed] 174 (0, 0)) := by rw [← hwd]; exact HB.out
    have hp := src_put hb0 (.int .i64 ((at' : Int) + 1)) (.int .u64 S)
    have hbl : Below g w w0 := by rw [← hwd]; exact ⟨rfl, rfl, rfl, Nat.le_refl _, fun k hk => rfl⟩
    have hfr : ∀ k, k < w.heap.size → k ≠ g → ((w0.setCell ⟨g, 1, none⟩ (.int .i64 ((at' : Int) + 1))).setCell ⟨g, 2, none⟩ (.int .u64 S)).heap[k]? = w.heap[k]? := fun k hk hg => (src_other hg _ _).trans (by rw [← hwd]; rfl)
    have hbl2 := (hbl.setCell (p := ⟨g, 1, none⟩) (Nat.le_refl _) (.int .i64 ((at' : Int) + 1))).setCell (p := ⟨g, 2, none⟩) (Nat.le_refl _) (.int .u64 S)
    generalize ((w0.setCell ⟨g, 1, none⟩ (.int .i64 ((at' : Int) + 1))).setCell ⟨g, 2, none⟩ (.int .u64 S)) = w6 at hp hbl2 hfr ⊢
    have HFR := Lib.hid hfr
    have HP := Lib.hid hp
    have HBL := Lib.hid hbl2
    clear hp hbl2 hbl hb0 hwd hS hfr c0 c1 c2 f1 f2 h1
    have c0 : w6.cell? ⟨g, 0, none⟩ = some (.slice (some ⟨b, off, none⟩) n c) := cell_of_row _ _ _ _ _ _ HP.out
    have c1 : w6.cell? ⟨g, 1, none⟩ = some (.int .i64 ((at' : Int) + 1)) := cell_of_row _ _ _ _ _ _ HP.out
    have T2 : decide ((at' : Int) + 1 ≤ (n : Int)) = true := by simp; omega
    go_quiet (fail)
    go_wp2_with fail
    go_ret
    refine ⟨⟨z, hz, rfl⟩, ⟨some ⟨b, off, none⟩, n, c, S, by rw [show (((at' + 1 : Nat) : Int)) = (at' : Int) + 1 from by omega]; exact HP.out, hn, fun _ => ⟨b, off, rfl, hbg, fun i hi => ?_⟩⟩, ⟨⟨HBL.out.os, HBL.out.tape, HBL.out.output, HBL.out.size, HBL.out.block⟩, HFR.out⟩⟩
    obtain ⟨z2, hz2, h2⟩ := HCL.out i hi
    exact ⟨z2, hz2, (HBL.out.cell (p := ⟨b, off + i, none⟩) hbg).trans h2⟩
  · have T1 : decide ((at' : Int) < (n : Int)) = false := by simp; omega
    have T1' : decide (at' < n) = false := by simp; omega
    go_enter Try.func184, Try.ntmps184
    go_wp2_with fail
    go_quiet (fail)
    go_wp2_with fail
    obtain ⟨S, hS⟩ : ∃ S, S = IntKind.wrap .u64 (IntKind.wrap .u64 (IntKind.wrap .u64 (seed * 6364136223846793005)) + 1442695040888963407) := ⟨_, rfl⟩
    have hS0 : 0 ≤ S ∧ S < 18446744073709551616 := by rw [hS]; exact wrap64_small _
    rw [← hS]
    generalize hwd : w.drewN _ = w0
    have hb0 : w0.heap[g]? = some (.cells #[.slice A n c, .int .i64 (at' : Int), .int .u64 seed] 174 (0, 0)) := by rw [← hwd]; exact HB.out
    have hp := src_put hb0 (.int .i64 ((at' : Int) + 1)) (.int .u64 S)
    have hbl : Below g w w0 := by rw [← hwd]; exact ⟨rfl, rfl, rfl, Nat.le_refl _, fun k hk => rfl⟩
    have hfr : ∀ k, k < w.heap.size → k ≠ g → ((w0.setCell ⟨g, 1, none⟩ (.int .i64 ((at' : Int) + 1))).setCell ⟨g, 2, none⟩ (.int .u64 S)).heap[k]? = w.heap[k]? := fun k hk hg => (src_other hg _ _).trans (by rw [← hwd]; rfl)
    have hbl2 := (hbl.setCell (p := ⟨g, 1, none⟩) (Nat.le_refl _) (.int .i64 ((at' : Int) + 1))).setCell (p := ⟨g, 2, none⟩) (Nat.le_refl _) (.int .u64 S)
    generalize ((w0.setCell ⟨g, 1, none⟩ (.int .i64 ((at' : Int) + 1))).setCell ⟨g, 2, none⟩ (.int .u64 S)) = w6 at hp hbl2 hfr ⊢
    have HFR := Lib.hid hfr
    have HP := Lib.hid hp
    have HBL := Lib.hid hbl2
    clear hp hbl2 hbl hb0 hwd hS hfr c0 c1 c2 f1 f2
    obtain ⟨s, rfl⟩ : ∃ s : Nat, S = s := ⟨S.toNat, by omega⟩
    have c0 : w6.cell? ⟨g, 0, none⟩ = some (.slice A n c) := cell_of_row _ _ _ _ _ _ HP.out
    have c1 : w6.cell? ⟨g, 1, none⟩ = some (.int .i64 ((at' : Int) + 1)) := cell_of_row _ _ _ _ _ _ HP.out
    have c2 : w6.cell? ⟨g, 2, none⟩ = some (.int .u64 (s : Int)) := cell_of_row _ _ _ _ _ _ HP.out
    have T2 : decide ((at' : Int) + 1 ≤ (n : Int)) = false := by simp; omega
    go_quiet (fail)
    go_wp2_with fail
    obtain ⟨z, hz, hze⟩ := and255 ((s : Int) / 1099511627776)
    have hw : wrap64 (bits .and .u64 ((s : Int) / 1099511627776) 255) = (z : Int) := by rw [hze]; unfold wrap64; omega
    have HW := Lib.hid hw
    clear hze hw
    go_ret
    refine ⟨⟨z, hz, congrArg (fun x => Ending.returned (.int .i64 x)) HW.out⟩, ⟨A, n, c, (s : Int), by rw [show (((at' + 1 : Nat) : Int)) = (at' : Int) + 1 from by omega]; exact HP.out, hn, fun hpos => ?_⟩, ⟨⟨HBL.out.os, HBL.out.tape, HBL.out.output, HBL.out.size, HBL.out.block⟩, HFR.out⟩⟩
    obtain ⟨b, off, e, hbg, hcell⟩ := HC.out hpos
    refine ⟨b, off, e, hbg, fun i hi => ?_⟩
    obtain ⟨z2, hz2, h2⟩ := hcell i hi
    exact ⟨z2, hz2, (HBL.out.cell (p := ⟨b, off + i, none⟩) hbg).trans h2⟩
set_option maxHeartbeats 1000000 in
theorem pick_any (n : Nat) (h2 : 2 ≤ n) (h3 : n ≤ 65536) (g at' : Nat) (hat : at' ≤ 1073741823) (w : World) (h : SRC w g at') :
    Calls Try.prog 166 #[.pointer (some ⟨g, 0, none⟩), .int .i64 (n : Int)] w fun e w' => (∃ z : Nat, z < n ∧ e = .returned (.int .i64 (z : Int))) ∧ (∃ a', a' ≤ at' + 2 ∧ SRC w' g a') ∧ FRM g w w' := by
  have HS := Lib.hid h
  clear h
  have t1 : decide ((n : Int) ≤ 1) = false := by simp; omega
  have hn0 : ¬ ((n : Int) = 0) := by omega
  have hn1 : ((n : Int) == 0) = false := by simp; omega
  by_cases hb : 200 < n
  · have t2 : decide ((200 : Int) < (n : Int)) = true := by simp; omega
    have t2' : decide (200 < n) = true := by simp; omega
    clear hb
    go_enter Try.func166, Try.ntmps166
    go_wp2_with fail
    refine (next_any g at' (by omega) w HS.out).mono ?_
    rintro e w1 ⟨⟨x, hx, rfl⟩, hs1, hb1⟩
    have H1 := Lib.hid (And.intro hs1 hb1)
    clear hs1 hb1
    go_wp2_with fail
    refine (next_any g (at' + 1) (by omega) _ H1.out.1).mono ?_
    rintro e w2 ⟨⟨y, hy, rfl⟩, hs2, hb2⟩
    have H2 := Lib.hid (And.intro hs2 (H1.out.2.trans hb2))
    clear hs2 hb2
    go_wp2_with fail
    go_ret
    exact ⟨⟨(x * 256 + y) % n, Nat.mod_lt _ (by omega), congrArg (fun q => Ending.returned (Value.int .i64 q)) (show ((x : Int) * 256 + (y : Int)) % (n : Int) = (((x * 256 + y) % n : Nat) : Int) from by rw [Int.natCast_emod, Int.natCast_add, Int.natCast_mul]; rfl)⟩, ⟨at' + 1 + 1, by omega, H2.out.1⟩, H2.out.2⟩
  · have t2 : decide ((200 : Int) < (n : Int)) = false := by simp; omega
    have t2' : decide (200 < n) = false := by simp; omega
    clear hb
    go_enter Try.func166, Try.ntmps166
    go_wp2_with fail
    refine (next_any g at' (by omega) w HS.out).mono ?_
    rintro e w1 ⟨⟨x, hx, rfl⟩, hs1, hb1⟩
    have H1 := Lib.hid (And.intro hs1 hb1)
    clear hs1 hb1
    go_wp2_with fail
    go_ret
    exact ⟨⟨x % n, Nat.mod_lt _ (by omega), by norm_cast⟩, ⟨at' + 1, by omega, H1.out.1⟩, H1.out.2⟩
set_option maxHeartbeats 1000000 in
theorem among_any (g at' : Nat) (hat : at' ≤ 1073741823) (b : Nat) (zs : List Int) (h2 : 2 ≤ zs.length) (h3 : zs.length ≤ 65536) (w : World) (hbg : b < w.heap.size) (h : SRC w g at') (hc : ∀ i, i < zs.length → ∀ w' : World, FRM g w w' → w'.cell? ⟨b, i, none⟩ = some (.int .i64 (zs.getD i 0))) :
    Calls Try.prog 169 #[.pointer (some ⟨g, 0, none⟩), .slice (some ⟨b, 0, none⟩) zs.length zs.length] w fun e w' => (∃ i, i < zs.length ∧ e = .returned (.int .i64 (zs.getD i 0))) ∧ (∃ a', a' ≤ at' + 2 ∧ SRC w' g a') ∧ FRM g w w' := by
  have HS := Lib.hid h
  have HC := Lib.hid hc
  clear h hc
  go_enter Try.func169, Try.ntmps169
  go_wp2_with fail
  refine (pick_any zs.length h2 h3 g at' hat w HS.out).mono ?_
  rintro e w1 ⟨⟨i, hi, rfl⟩, hs, hb⟩
  have q1 := HC.out i hi w1 hb
  obtain ⟨x, hx⟩ : ∃ x, zs.getD i 0 = x := ⟨_, rfl⟩
  rw [hx] at q1
  have HX := Lib.hid hx
  clear hx
  have H := Lib.hid (And.intro hs hb)
  have i1 : (i : Int) < (zs.length : Int) := by omega
  clear hs hb
  go_wp2_with fail
  go_ret
  exact ⟨⟨i, hi, by rw [HX.out]; rfl⟩, H.out.1, H.out.2⟩
set_option maxRecDepth 100000 in
set_option maxHeartbeats 4000000 in
theorem l01Any_any (g at' : Nat) (hat : at' ≤ 1073741000) (w : World) (h : SRC w g at') :
    Calls Try.prog 145 #[.pointer (some ⟨g, 0, none⟩)] w fun e w' => (∃ u : Nat, u < 65536 ∧ e = .returned (.int .u16 (u : Int))) ∧ (∃ a', a' ≤ at' + 4 ∧ SRC w' g a') ∧ FRM g w w' := by
  have HS := Lib.hid h
  clear h
  go_enter Try.func145, Try.ntmps145
  go_wp2_with fail
  refine (pick_any 6 (by omega) (by omega) g at' (by omega) w HS.out).mono ?_
  rintro e w1 ⟨⟨z, hz, rfl⟩, ⟨a1, ha1, hs1⟩, hb1⟩
  have H1 := Lib.hid (And.intro hs1 hb1)
  clear hs1 hb1
  rcases (show z = 0 ∨ z = 1 ∨ z = 2 ∨ z = 3 ∨ z = 4 ∨ z = 5 by omega) with rfl | rfl | rfl | rfl | rfl | rfl
  · go_wp2_with fail
    refine (pick_any 4 (by omega) (by omega) g a1 (by omega) w1 H1.out.1).mono ?_
    rintro e w2 ⟨⟨u, hu, rfl⟩, ⟨a2, ha2, hs2⟩, hb2⟩
    have H2 := Lib.hid (And.intro hs2 (H1.out.2.trans hb2))
    have hu2 : u < 65536 := by omega
    clear hs2 hb2
    go_wp2_with fail
    go_ret
    exact ⟨⟨u, hu2, rfl⟩, ⟨a2, by omega, H2.out.1⟩, H2.out.2⟩
  · go_wp2_with fail
    refine (pick_any 16 (by omega) (by omega) g a1 (by omega) w1 H1.out.1).mono ?_
    rintro e w2 ⟨⟨u, hu, rfl⟩, ⟨a2, ha2, hs2⟩, hb2⟩
    have H2 := Lib.hid (And.intro hs2 (H1.out.2.trans hb2))
    have hu2 : u < 65536 := by omega
    clear hs2 hb2
    go_wp2_with fail
    go_ret
    exact ⟨⟨u, hu2, rfl⟩, ⟨a2, by omega, H2.out.1⟩, H2.out.2⟩
  · go_wp2_with fail
    refine (pick_any 256 (by omega) (by omega) g a1 (by omega) w1 H1.out.1).mono ?_
    rintro e w2 ⟨⟨u, hu, rfl⟩, ⟨a2, ha2, hs2⟩, hb2⟩
    have H2 := Lib.hid (And.intro hs2 (H1.out.2.trans hb2))
    have hu2 : u < 65536 := by omega
    clear hs2 hb2
    go_wp2_with fail
    go_ret
    exact ⟨⟨u, hu2, rfl⟩, ⟨a2, by omega, H2.out.1⟩, H2.out.2⟩
  · go_wp2_with fail
    refine (pick_any 256 (by omega) (by omega) g a1 (by omega) w1 H1.out.1).mono ?_
    rintro e w2 ⟨⟨u, hu, rfl⟩, ⟨a2, ha2, hs2⟩, hb2⟩
    have H2 := Lib.hid (And.intro hs2 (H1.out.2.trans hb2))
    have hu2 : u < 65536 := by omega
    clear hs2 hb2
    go_wp2_with fail
    go_ret
    exact ⟨⟨u, hu2, rfl⟩, ⟨a2, by omega, H2.out.1⟩, H2.out.2⟩
  · go_wp2_with fail
    obtain ⟨zs, hzs⟩ : ∃ zs : List Int, zs = [0, 1, 2, 4, 16, 256, 65535, 32768] := ⟨_, rfl⟩
    have hl : zs.length = 8 := by rw [hzs]; rfl
    have hsm : ∀ i, i < 8 → 0 ≤ zs.getD i 0 ∧ zs.getD i 0 < 65536 := by rw [hzs]; decide
    have hat2 : ∀ i, i < 8 → (#[Value.int .i64 0, .int .i64 1, .int .i64 2, .int .i64 4, .int .i64 16, .int .i64 256, .int .i64 65535, .int .i64 32768] : Array Value)[i]? = some (.int .i64 (zs.getD i 0)) := fun i hi => by
      rw [hzs]
      rcases (show i = 0 ∨ i = 1 ∨ i = 2 ∨ i = 3 ∨ i = 4 ∨ i = 5 ∨ i = 6 ∨ i = 7 by omega) with rfl | rfl | rfl | rfl | rfl | rfl | rfl | rfl <;> rfl
    have hgs : g < w1.heap.size := by
      obtain ⟨_, _, _, _, h1, _⟩ := H1.out.1
      exact (Array.getElem?_eq_some_iff.1 h1).1
    have hsz : w1.heap.size < (w1.alloc (.cells #[Value.int .i64 0, .int .i64 1, .int .i64 2, .int .i64 4, .int .i64 16, .int .i64 256, .int .i64 65535, .int .i64 32768] 2)).heap.size := by rw [World.size_alloc]; omega
    have hfr : FRM g w1 (w1.alloc (.cells #[Value.int .i64 0, .int .i64 1, .int .i64 2, .int .i64 4, .int .i64 16, .int .i64 256, .int .i64 65535, .int .i64 32768] 2)) := ⟨(⟨rfl, rfl, rfl, Nat.le_refl _, fun k hk => rfl⟩ : Below g w1 w1).alloc (by omega) _, fun k hk hg => heap_alloc_old _ _ hk⟩
    have hsr := H1.out.1.below ((Below.refl _ w1).alloc (Nat.le_refl _) (.cells #[Value.int .i64 0, .int .i64 1, .int .i64 2, .int .i64 4, .int .i64 16, .int .i64 256, .int .i64 65535, .int .i64 32768] 2))
    have hcl := fun i (hi : i < 8) => (cell_of_row _ _ i _ _ _ (heap_alloc_new w1 (.cells #[Value.int .i64 0, .int .i64 1, .int .i64 2, .int .i64 4, .int .i64 16, .int .i64 256, .int .i64 65535, .int .i64 32768] 2))).trans (hat2 i hi)
    generalize w1.alloc (.cells #[Value.int .i64 0, .int .i64 1, .int .i64 2, .int .i64 4, .int .i64 16, .int .i64 256, .int .i64 65535, .int .i64 32768] 2) = wa at hsz hfr hsr hcl ⊢
    have hcall := among_any g a1 (by omega) w1.heap.size zs (by omega) (by omega) wa hsz hsr (fun i hi w' hw => (hw.cell hsz (by omega)).trans (hcl i (by omega)))
    rw [hl] at hcall
    have HFR := Lib.hid hfr
    have HCALL := Lib.hid hcall
    have HSM := Lib.hid hsm
    clear hzs hl hsm hat2 hsz hfr hsr hcl hcall
    refine HCALL.out.mono ?_
    rintro e w2 ⟨⟨i, hi, rfl⟩, ⟨a2, ha2, hs2⟩, hb2⟩
    have hsi := HSM.out i hi
    obtain ⟨u, hu⟩ : ∃ u : Nat, zs.getD i 0 = u := ⟨(zs.getD i 0).toNat, by omega⟩
    rw [hu] at hsi ⊢
    have H2 := Lib.hid (And.intro hs2 ((H1.out.2.trans HFR.out).trans hb2))
    have hu2 : u < 65536 := by omega
    clear hs2 hb2 hu
    go_wp2_with fail
    go_ret
    exact ⟨⟨u, hu2, rfl⟩, ⟨a2, by omega, H2.out.1⟩, H2.out.2⟩
  · go_wp2_with fail
    refine (pick_any 65536 (by omega) (by omega) g a1 (by omega) w1 H1.out.1).mono ?_
    rintro e w2 ⟨⟨u, hu, rfl⟩, ⟨a2, ha2, hs2⟩, hb2⟩
    have H2 := Lib.hid (And.intro hs2 (H1.out.2.trans hb2))
    have hu2 : u < 65536 := by omega
    clear hs2 hb2
    go_wp2_with fail
    go_ret
    exact ⟨⟨u, hu2, rfl⟩, ⟨a2, by omega, H2.out.1⟩, H2.out.2⟩
/-- the value is a slice of bytes that can be read -/
def BY (w : World) (v : Value) : Prop := ∃ (A : Option Addr) (n c : Nat), v = .slice A n c ∧ n ≤ 9223372036854775807 ∧
  (0 < n → ∃ b off, A = some ⟨b, off, none⟩ ∧ b < w.heap.size ∧ ∀ i, i < n → ∃ z : Nat, z < 256 ∧ w.cell? ⟨b, off + i, none⟩ = some (.int .u8 (z : Int)))
theorem BY.below {w w' : World} {v : Value} (h : BY w v) (hb : Below w.heap.size w w') : BY w' v := by
  obtain ⟨A, n, c, e, hn, hc⟩ := h
  refine ⟨A, n, c, e, hn, fun hp => ?_⟩
  obtain ⟨b, off, e, hb', hcell⟩ := hc hp
  refine ⟨b, off, e, Nat.lt_of_lt_of_le hb' hb.size, fun i hi => ?_⟩
  obtain ⟨z, hz, h1⟩ := hcell i hi
  exact ⟨z, hz, (hb.cell (p := ⟨b, off + i, none⟩) hb').trans h1⟩
theorem l00From_any (v : Value) (w : World) (h : BY w v) :
    Calls Try.prog 144 #[v] w fun e w' => e = .returned (.pointer (some ⟨w.heap.size, 0, none⟩)) ∧ SRC w' w.heap.size 0 ∧ Below w.heap.size w w' := by
  obtain ⟨A, n, c, rfl, hn, hc⟩ := h
  have HC := Lib.hid hc
  clear hc
  go_enter Try.func144, Try.ntmps144
  go_wp2_with fail
  go_ret
  have hb : Below w.heap.size w (w.alloc (.cells #[.slice A n c, .int .i64 0, .int .u64 0] 174)) := (Below.refl _ w).alloc (Nat.le_refl _) _
  refine ⟨rfl, ⟨A, n, c, 0, heap_alloc_new w _, hn, fun hp => ?_⟩, hb⟩
  obtain ⟨b, off, e, hb', hcell⟩ := HC.out hp
  refine ⟨b, off, e, hb', fun i hi => ?_⟩
  obtain ⟨z, hz, h1⟩ := hcell i hi
  exact ⟨z, hz, (hb.cell (p := ⟨b, off + i, none⟩) hb').trans h1⟩
theorem A2Nim_any (v : Value) (w : World) (h : BY w v) :
    Calls Try.prog 89 #[v] w fun e w' => (∃ u : Nat, u < 65536 ∧ e = .returned (.int .u16 (u : Int))) ∧ Below w.heap.size w w' := by
  have HY := Lib.hid h
  obtain ⟨A, n, c, rfl, hn, hc⟩ := h
  clear hc
  go_enter Try.func89, Try.ntmps89
  go_wp2_with fail
  refine (l00From_any _ w HY.out).mono ?_
  rintro e w1 ⟨rfl, hs, hb⟩
  have H1 := Lib.hid (And.intro hs hb)
  clear hs hb
  go_wp2_with fail
  refine (l01Any_any w.heap.size 0 (by omega) w1 H1.out.1).mono ?_
  rintro e w2 ⟨⟨u, hu, rfl⟩, _, hf⟩
  have HB := Lib.hid (H1.out.2.trans hf.1)
  clear hf
  go_wp2_with fail
  go_ret
  exact ⟨⟨u, hu, rfl⟩, HB.out⟩
theorem a2At_any (v : Value) (w : World) (h : BY w v) (i m : Nat) (hm : 1 ≤ m) (hm2 : m ≤ 1048576) (hi : i ≤ 1048576) :
    Calls Try.prog 95 #[v, .int .i64 (i : Int), .int .i64 (m : Int)] w fun e w' => (∃ z : Nat, z < m ∧ e = .returned (.int .i64 (z : Int))) ∧ w' = w := by
  obtain ⟨A, n, c, rfl, hn, hc⟩ := h
  have HC := Lib.hid hc
  clear hc
  have t2 : decide ((m : Int) < 1) = false := by simp; omega
  have hm1 : ((m : Int) == 0) = false := by simp; omega
  have hm0 : ¬ ((m : Int) = 0) := by omega
  by_cases hlt : i < n
  · obtain ⟨b, off, rfl, hb, hcell⟩ := HC.out (by omega)
    obtain ⟨z, hz, h1⟩ := hcell i hlt
    have t1 : decide ((n : Int) ≤ (i : Int)) = false := by simp; omega
    have t1' : decide (n ≤ i) = false := by simp; omega
    have i1 : (i : Int) < (n : Int) := by omega
    clear hcell
    go_enter Try.func95, Try.ntmps95
    go_wp2_with fail
    go_ret
    exact ⟨⟨z % m, Nat.mod_lt _ (by omega), congrArg (fun q => Ending.returned (Value.int .i64 q)) (show (z : Int) % (m : Int) = ((z % m : Nat) : Int) from by rw [Int.natCast_emod])⟩, rfl⟩
  · have t1 : decide ((n : Int) ≤ (i : Int)) = true := by simp; omega
    have t1' : decide (n ≤ i) = true := by simp; omega
    go_enter Try.func95, Try.ntmps95
    go_wp2_with fail
    go_ret
    exact ⟨⟨0, by omega, rfl⟩, rfl⟩
end Go.Proofs.Ytjbaeomjinnlhaa
