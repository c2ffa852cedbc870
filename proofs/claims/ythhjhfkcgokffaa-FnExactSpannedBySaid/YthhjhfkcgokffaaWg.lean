/-
  The checks that come first where there is a base: openBase.
-/
import Derived.Test.YthhjhfkcgokffaaWf
namespace Go.Proofs.Ythhjhfkcgokffaa
set_option linter.unusedVariables false
set_option linter.unusedSimpArgs false
open Go.ChangeShapes Go.WideShapes Go.ChangeAt Go.RowKit

theorem alloc_cell1 (w : World) (x : Value) (T : TypeId) : (w.alloc (.cells #[x] T)).cell? ⟨w.heap.size, 0, none⟩ = some x := cell_of_row _ _ _ _ _ _ (heap_alloc_new w _)
theorem alloc_free1 (w : World) (x : Value) (T : TypeId) (o : Nat) : (w.alloc (.cells #[x] T)).frozen? ⟨w.heap.size, o, none⟩ = false := by
  unfold World.frozen?
  rw [heap_alloc_new]
  simp
set_option maxHeartbeats 1000000 in
theorem openBase_bad (n : Int) (hb : baB n = false) (v : Value) (w : World) :
    Calls Try.prog 75 #[.int .i64 n, v] w fun e w' => e = .returned (.tuple #[.int .i64 0, .int .i64 2]) ∧ Below w.heap.size w w' := by
  have hmf : ∀ (fn : Fn) (first cap : Array Value) (w : World), (Instr.makeFunc fn first cap).run Try.prog w = .ok (.func fn first cap) w := fun _ _ _ _ => rfl
  have HB := Lib.hid hb
  clear hb
  go_enter_defers Try.func75, Try.ntmps75
  go_wp2_with fail
  refine (baseOf_no n HB.out _).mono ?_
  rintro e w' ⟨rfl, rfl⟩
  refine leaves_cons (f := 127) (args := #[.pointer (some ⟨w.heap.size, 0, none⟩)]) (by simp) (by simp [go_sem]) ?_
  refine (rec_panicking ⟨w.heap.size, 0, none⟩ 0 [] _ (alloc_cell1 _ _ _) (alloc_free1 _ _ _ _)).mono ?_
  rintro e u' w'' ⟨rfl, rfl, rfl⟩
  have hc : (((w.alloc (.cells #[.int .i64 0] 2)).alloc (.cells #[] 138)).setCell ⟨w.heap.size, 0, none⟩ (.int .i64 2)).cell? ⟨w.heap.size, 0, none⟩ = some (.int .i64 2) := by
    refine World.cell?_setCell_same (u := .int .i64 0) _ _ _ ?_
    exact (((Below.refl _ (w.alloc (.cells #[.int .i64 0] 2))).alloc (Nat.le_refl _) _).cell (p := ⟨w.heap.size, 0, none⟩) (by rw [World.size_alloc]; exact Nat.lt_succ_self _)).trans (alloc_cell1 _ _ _)
  simp [Leaves, settle, results, Try.results75, go_sem, hc]
  exact ((Below.refl _ w).alloc (Nat.le_refl _) _).alloc (by simp) _
theorem opC_good {n : Int} {gs : List (List Int)} (hb : baB n = true) (h : wsB n gs = true) : opC n gs = 0 ∧ opB n gs = n := by
  have e : opC n gs = 0 := by unfold opC; rw [if_pos hb, if_pos h]
  exact ⟨e, by unfold opB; rw [if_pos e]⟩
theorem opC_inv {n : Int} {gs : List (List Int)} (hb : baB n = true) (h : wsB n gs = false) : opC n gs = 1 ∧ opB n gs = 0 := by
  have e : opC n gs = 1 := by unfold opC; rw [if_pos hb, if_neg (by rw [h]; decide)]
  exact ⟨e, by unfold opB; rw [if_neg (by rw [e]; decide)]⟩
theorem opC_base {n : Int} {gs : List (List Int)} (hb : baB n = false) : opC n gs = 2 ∧ opB n gs = 0 := by
  have e : opC n gs = 2 := by unfold opC; rw [if_neg (by rw [hb]; decide)]
  exact ⟨e, by unfold opB; rw [if_neg (by rw [e]; decide)]⟩
set_option maxHeartbeats 2000000 in
theorem openBase_good (n : Int) (hb : baB n = true) (v : Value) (gs : List (List Int)) (hn : gs.length ≤ 2097152) (hm : ∀ i, i < gs.length → (gs.getD i []).length ≤ 1048576) (w : World) (h : WS w v gs) :
    Calls Try.prog 75 #[.int .i64 n, v] w fun e w' => e = .returned (.tuple #[.int .i64 (opB n gs), .int .i64 (opC n gs)]) ∧ Below w.heap.size w w' := by
  have hmf : ∀ (fn : Fn) (first cap : Array Value) (w : World), (Instr.makeFunc fn first cap).run Try.prog w = .ok (.func fn first cap) w := fun _ _ _ _ => rfl
  have HB := Lib.hid hb
  have HW := Lib.hid h
  obtain ⟨A, c, us, rfl, hc, hu⟩ := h.open
  have hnb : -9223372036854775808 ≤ n ∧ n ≤ 9223372036854775807 := by rcases baB_cases hb with rfl | rfl | rfl | rfl <;> omega
  obtain ⟨w2, hw2⟩ : ∃ w2, w2 = (w.alloc (.cells #[.int .i64 0] 2)).alloc (.cells #[.int .i64 n] 72) := ⟨_, rfl⟩
  have hsz2 : w2.heap.size = w.heap.size + 2 := by rw [hw2]; simp
  have hb2 : Below w.heap.size w w2 := by rw [hw2]; exact ((Below.refl _ w).alloc (Nat.le_refl _) _).alloc (by simp) _
  have hcode2 : w2.cell? ⟨w.heap.size, 0, none⟩ = some (.int .i64 0) := by
    rw [hw2]
    refine (((Below.refl _ (w.alloc (.cells #[.int .i64 0] 2))).alloc (Nat.le_refl _) _).cell (p := ⟨w.heap.size, 0, none⟩) ?_).trans (alloc_cell1 _ _ _)
    simp
  have hfree2 : w2.frozen? ⟨w.heap.size, 0, none⟩ = false := by
    rw [hw2]
    refine (((Below.refl _ (w.alloc (.cells #[.int .i64 0] 2))).alloc (Nat.le_refl _) _).frozen (p := ⟨w.heap.size, 0, none⟩) ?_).trans (alloc_free1 _ _ _ _)
    simp
  have hbase2 : w2.cell? ⟨w.heap.size + 1, 0, none⟩ = some (.int .i64 n) := by
    rw [hw2]
    have := alloc_cell1 (w.alloc (.cells #[.int .i64 0] 2)) (.int .i64 n) 72
    rwa [World.size_alloc] at this
  have hc2 : 0 < gs.length → ∃ b off, A = some ⟨b, off, none⟩ ∧ b < w2.heap.size ∧ ∀ i, i < gs.length → w2.cell? ⟨b, off + i, none⟩ = some (us i) := fun h0 => by
    obtain ⟨b, off, e, hlt, hcell⟩ := hc h0
    exact ⟨b, off, e, Nat.lt_of_lt_of_le hlt hb2.size, fun i hi => (hb2.cell (p := ⟨b, off + i, none⟩) hlt).trans (hcell i hi)⟩
  have htest : TestAt 128 #[.pointer (some ⟨w.heap.size + 1, 0, none⟩)] us (bd n gs) gs.length w2 := by
    intro i W hi hW
    refine (isBad_any n hnb.1 hnb.2 (w.heap.size + 1) (us i) (gs.getD i []) (hm i hi) W ((hu i hi).below (bchain hb2 hW)) ((hW.cell (p := ⟨w.heap.size + 1, 0, none⟩) (by rw [hsz2]; show w.heap.size + 1 < _; omega)).trans hbase2)).mono ?_
    rintro e w' ⟨rfl, rfl⟩
    exact ⟨rfl, Below.refl _ _⟩
  have hg : ∀ args w, (callFunc 128 args).run Try.prog w = .ok (.enter 128 args) w := enters_of Try.func128 (by kernel_rfl) rfl
  have hcf := containsFuncW_any A gs.length c hn 128 #[.pointer (some ⟨w.heap.size + 1, 0, none⟩)] hg us (bd n gs) w2 hc2 htest
  have hall := bd_any n gs
  obtain ⟨bv, hbv⟩ : ∃ bv, bv = anyN (bd n gs) gs.length := ⟨_, rfl⟩
  rw [← hbv] at hcf hall
  obtain ⟨vb, hvb⟩ : ∃ vb, vb = opB n gs := ⟨_, rfl⟩
  obtain ⟨vc, hvc⟩ : ∃ vc, vc = opC n gs := ⟨_, rfl⟩
  rw [← hvb, ← hvc]
  have HCF := Lib.hid hcf
  have HW2 := Lib.hid hw2
  have HB2 := Lib.hid hb2
  have HSZ := Lib.hid hsz2
  have HC2 := Lib.hid hcode2
  have HF2 := Lib.hid hfree2
  have HN2 := Lib.hid hbase2
  have HM := Lib.hid hm
  clear hcf hw2 hb2 hsz2 hcode2 hfree2 hbase2 hbv htest hc2 hu hc h hg hnb hm
  cases bv with
  | true =>
    have hws : wsB n gs = false := by unfold wsB; rw [← hall]; rfl
    obtain ⟨e1, e2⟩ := opC_inv hb hws
    rw [e1] at hvc
    rw [e2] at hvb
    subst hvc
    subst hvb
    clear hall hws e1 e2 hb
    go_enter_defers Try.func75, Try.ntmps75
    go_wp2_with fail
    refine (baseOf_yes n HB.out _).mono ?_
    rintro e w' ⟨rfl, rfl⟩
    go_wp2_with fail
    rw [← HW2.out]
    refine HCF.out.mono ?_
    rintro e w3 ⟨rfl, hb3⟩
    have HB3 := Lib.hid (HB2.out.trans (hb3.mono HB2.out.size))
    have hcode := (hb3.cell (p := ⟨w.heap.size, 0, none⟩) (by rw [HSZ.out]; show w.heap.size < _; omega)).trans HC2.out
    have hfree := (hb3.frozen (p := ⟨w.heap.size, 0, none⟩) (by rw [HSZ.out]; show w.heap.size < _; omega)).trans HF2.out
    clear hb3
    go_wp2_with fail
    refine leaves_cons (f := 127) (args := #[.pointer (some ⟨w.heap.size, 0, none⟩)]) (by simp) (by simp [go_sem]) ?_
    refine (rec_idle ⟨w.heap.size, 0, none⟩ _).mono ?_
    rintro e u' w'' ⟨rfl, rfl, rfl⟩
    have hcs : (w3.setCell ⟨w.heap.size, 0, none⟩ (.int .i64 1)).cell? ⟨w.heap.size, 0, none⟩ = some (.int .i64 1) := World.cell?_setCell_same (u := .int .i64 0) _ _ _ hcode
    simp [Leaves, settle, results, Try.results75, go_sem, hcs]
    exact HB3.out.setCell (p := ⟨w.heap.size, 0, none⟩) (Nat.le_refl _) _
  | false =>
    have hlw : wsB n gs = lnB gs := by unfold wsB; rw [← hall]; rfl
    cases hln : lnB gs with
    | true =>
      obtain ⟨e1, e2⟩ := opC_good hb (hlw.trans hln)
      rw [e1] at hvc
      rw [e2] at hvb
      subst hvc
      subst hvb
      have HLN := Lib.hid hln
      clear hall hlw e1 e2 hb hln
      go_enter_defers Try.func75, Try.ntmps75
      go_wp2_with fail
      refine (baseOf_yes vb HB.out _).mono ?_
      rintro e w' ⟨rfl, rfl⟩
      go_wp2_with fail
      rw [← HW2.out]
      refine HCF.out.mono ?_
      rintro e wa ⟨rfl, hba⟩
      have HBA := Lib.hid hba
      clear hba
      go_wp2_with fail
      refine (haveOne_any _ gs hn HM.out _ (HW.out.below (bchain HB2.out HBA.out))).mono ?_
      rintro e w3 ⟨rfl, hbb⟩
      rw [HLN.out]
      have hb3 := bchain HBA.out hbb
      have HB3 := Lib.hid (HB2.out.trans (hb3.mono HB2.out.size))
      have hcode := (hb3.cell (p := ⟨w.heap.size, 0, none⟩) (by rw [HSZ.out]; show w.heap.size < _; omega)).trans HC2.out
      have hfree := (hb3.frozen (p := ⟨w.heap.size, 0, none⟩) (by rw [HSZ.out]; show w.heap.size < _; omega)).trans HF2.out
      have hbase := (hb3.cell (p := ⟨w.heap.size + 1, 0, none⟩) (by rw [HSZ.out]; show w.heap.size + 1 < _; omega)).trans HN2.out
      clear hb3 hbb
      go_wp2_with fail
      refine leaves_cons (f := 127) (args := #[.pointer (some ⟨w.heap.size, 0, none⟩)]) (by simp) (by simp [go_sem]) ?_
      refine (rec_idle ⟨w.heap.size, 0, none⟩ _).mono ?_
      rintro e u' w'' ⟨rfl, rfl, rfl⟩
      have hcs : (w3.setCell ⟨w.heap.size, 0, none⟩ (.int .i64 0)).cell? ⟨w.heap.size, 0, none⟩ = some (.int .i64 0) := World.cell?_setCell_same (u := .int .i64 0) _ _ _ hcode
      simp [Leaves, settle, results, Try.results75, go_sem, hcs]
      exact HB3.out.setCell (p := ⟨w.heap.size, 0, none⟩) (Nat.le_refl _) _
    | false =>
      obtain ⟨e1, e2⟩ := opC_inv hb (hlw.trans hln)
      rw [e1] at hvc
      rw [e2] at hvb
      subst hvc
      subst hvb
      have HLN := Lib.hid hln
      clear hall hlw e1 e2 hb hln
      go_enter_defers Try.func75, Try.ntmps75
      go_wp2_with fail
      refine (baseOf_yes n HB.out _).mono ?_
      rintro e w' ⟨rfl, rfl⟩
      go_wp2_with fail
      rw [← HW2.out]
      refine HCF.out.mono ?_
      rintro e wa ⟨rfl, hba⟩
      have HBA := Lib.hid hba
      clear hba
      go_wp2_with fail
      refine (haveOne_any _ gs hn HM.out _ (HW.out.below (bchain HB2.out HBA.out))).mono ?_
      rintro e w3 ⟨rfl, hbb⟩
      rw [HLN.out]
      have hb3 := bchain HBA.out hbb
      have HB3 := Lib.hid (HB2.out.trans (hb3.mono HB2.out.size))
      have hcode := (hb3.cell (p := ⟨w.heap.size, 0, none⟩) (by rw [HSZ.out]; show w.heap.size < _; omega)).trans HC2.out
      have hfree := (hb3.frozen (p := ⟨w.heap.size, 0, none⟩) (by rw [HSZ.out]; show w.heap.size < _; omega)).trans HF2.out
      clear hb3 hbb
      go_wp2_with fail
      refine leaves_cons (f := 127) (args := #[.pointer (some ⟨w.heap.size, 0, none⟩)]) (by simp) (by simp [go_sem]) ?_
      refine (rec_idle ⟨w.heap.size, 0, none⟩ _).mono ?_
      rintro e u' w'' ⟨rfl, rfl, rfl⟩
      have hcs : (w3.setCell ⟨w.heap.size, 0, none⟩ (.int .i64 1)).cell? ⟨w.heap.size, 0, none⟩ = some (.int .i64 1) := World.cell?_setCell_same (u := .int .i64 0) _ _ _ hcode
      simp [Leaves, settle, results, Try.results75, go_sem, hcs]
      exact HB3.out.setCell (p := ⟨w.heap.size, 0, none⟩) (Nat.le_refl _) _
theorem openBase_any (n : Int) (v : Value) (gs : List (List Int)) (hn : gs.length ≤ 2097152) (hm : ∀ i, i < gs.length → (gs.getD i []).length ≤ 1048576) (w : World) (h : WS w v gs) :
    Calls Try.prog 75 #[.int .i64 n, v] w fun e w' => e = .returned (.tuple #[.int .i64 (opB n gs), .int .i64 (opC n gs)]) ∧ Below w.heap.size w w' := by
  by_cases hb : baB n = true
  · exact openBase_good n hb v gs hn hm w h
  · have hb' : baB n = false := by simpa using hb
    rw [(opC_base hb').1, (opC_base hb').2]
    exact openBase_bad n hb' v w
/-- with one word, and with none -/
def op1B (n : Int) (zs : List Int) : Int := if op1 n zs = 0 then n else 0
theorem openBase_one (n : Int) (v : Value) (zs : List Int) (hn : zs.length ≤ 1048576) (w : World) (h : NS w v zs) :
    Calls Try.prog 75 #[.int .i64 n, .slice (some ⟨w.heap.size, 0, none⟩) 1 1] (w.alloc (.cells #[v] 25)) fun e w' => e = .returned (.tuple #[.int .i64 (op1B n zs), .int .i64 (op1 n zs)]) ∧ Below w.heap.size w w' := by
  have hb : Below w.heap.size w (w.alloc (.cells #[v] 25)) := (Below.refl _ _).alloc (Nat.le_refl _) _
  have e1 : opB n [zs] = op1B n zs := by unfold opB op1B; rw [opC_one]
  rw [← opC_one, ← e1]
  refine (openBase_any n (.slice (some ⟨w.heap.size, 0, none⟩) 1 1) [zs] (by simp) (fun i hi => ?_) _ (WS.row (vs := [v]) (gs := [zs]) (heap_alloc_new w _) (by simp) 1 (fun i hi => ?_))).mono ?_
  · obtain rfl : i = 0 := by simp at hi; exact hi
    simpa using hn
  · obtain rfl : i = 0 := by simp at hi; exact hi
    exact ⟨v, rfl, by simpa using h.below hb⟩
  · rintro e w' ⟨rfl, hb2⟩
    exact ⟨rfl, bchain hb hb2⟩
def op0 (n : Int) : Int := if baB n then 0 else 2
def op0B (n : Int) : Int := if baB n then n else 0
theorem openBase_nil (n : Int) (w : World) :
    Calls Try.prog 75 #[.int .i64 n, .slice none 0 0] w fun e w' => e = .returned (.tuple #[.int .i64 (op0B n), .int .i64 (op0 n)]) ∧ Below w.heap.size w w' := by
  have e0 : opC n [] = op0 n := opC_nil n
  have e1 : opB n [] = op0B n := by
    unfold opB op0B
    rw [e0]
    unfold op0
    by_cases h : baB n = true
    · rw [if_pos h, if_pos h]; rfl
    · rw [if_neg h, if_neg h]; rfl
  rw [← e0, ← e1]
  exact openBase_any n _ [] (by simp) (fun i hi => by simp at hi) w (WS.nil _ _ _)
end Go.Proofs.Ythhjhfkcgokffaa
