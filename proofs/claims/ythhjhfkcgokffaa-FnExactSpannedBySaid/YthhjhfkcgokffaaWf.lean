/-
  Bases: a number that is none panics, and is recovered; which words are valid.
-/
import Derived.Test.YthhjhfkcgokffaaWc
import Derived.Defers
import Derived.Recover
import Derived.Laws.Pointers
import Derived.WalkLawsBesides
namespace Go.Proofs.Ythhjhfkcgokffaa
set_option linter.unusedVariables false
set_option linter.unusedSimpArgs false
open Go.ChangeShapes Go.WideShapes Go.ChangeAt Go.RowKit

set_option maxHeartbeats 1000000 in
theorem maxW_any (v : Value) (zs : List Int) (h0 : 0 < zs.length) (hn : zs.length ≤ 1048576) (w : World) (h : NS w v zs) :
    Calls Try.prog 153 #[v] w fun e w' => e = .returned (.int .u16 (mxI zs (zs.length - 1))) ∧ w = w' := by
  have HU := Lib.hid (inU_of h)
  obtain ⟨A, c, rfl, _, hc⟩ := h
  obtain ⟨b, off, rfl, hlb, hcell⟩ := hc h0
  obtain ⟨t, ht⟩ : ∃ t, t = mxI zs (zs.length - 1) := ⟨_, rfl⟩
  rw [← ht]
  have HT := Lib.hid ht
  have q0 : w.cell? ⟨b, off, none⟩ = some (.int .u16 (zs.getD 0 0)) := hcell 0 h0
  obtain ⟨x0, hx0⟩ : ∃ x, x = zs.getD 0 0 := ⟨_, rfl⟩
  rw [← hx0] at q0
  have HX0 := Lib.hid hx0
  have HC := Lib.hid hcell
  have i0 : (0 : Int) < (zs.length : Int) := by omega
  have T0 : decide ((zs.length : Int) < 1) = false := by simp; omega
  clear ht hc hcell hx0
  go_enter Try.func153, Try.ntmps153
  go_wp2_with fail
  go_loop [4, 3] (fun y o => ∃ (k : Nat) (x : Int), y = .int .i64 ((k + 1 : Nat) : Int) ∧ k + 1 ≤ zs.length ∧ o = .int .u16 x ∧ Hid (x = mxI zs k)) (fun y _ => zs.length + 1 - (intOf y).toNat)
  case atStart => exact ⟨0, x0, rfl, h0, rfl, Lib.hid HX0.out⟩
  case round =>
    clear HX0 q0
    obtain ⟨k, x, rfl, hk, rfl, HX⟩ := hrel
    by_cases hlt : k + 1 < zs.length
    · have i1 : ((k + 1 : Nat) : Int) < (zs.length : Int) := by omega
      have q1 := HC.out (k + 1) hlt
      have hst : mxI zs (k + 1) = if mxI zs k < zs.getD (k + 1) 0 then zs.getD (k + 1) 0 else mxI zs k := rfl
      rw [← HX.out] at hst
      obtain ⟨y, hy⟩ : ∃ y, y = zs.getD (k + 1) 0 := ⟨_, rfl⟩
      rw [← hy] at q1 hst
      have HST := Lib.hid hst
      clear hst hy
      go_wp2_with fail
      exact ⟨⟨k + 1, _, by go_num, by omega, rfl, Lib.hid HST.out.symm⟩, by simp [intOf]; omega⟩
    · have hke : k = zs.length - 1 := by omega
      have T1 : decide (((k + 1 : Nat) : Int) < (zs.length : Int)) = false := by simp; omega
      have HKE := Lib.hid hke
      clear hke
      go_wp2_with fail
      go_ret
      exact ⟨by rw [HT.out, HX.out, HKE.out]; rfl, rfl⟩
theorem isLen_any (n : Nat) (hn : n ≤ 1048576) (w : World) :
    Calls Try.prog 92 #[.int .i64 (n : Int)] w fun e w' => e = .returned (.bool (decide (1 ≤ n) && decide (n ≤ 7))) ∧ w = w' := by
  by_cases h1 : 1 ≤ n
  · have T1 : decide ((1 : Int) ≤ (n : Int)) = true := by simp; omega
    rw [decide_eq_true h1]
    by_cases h7 : n ≤ 7
    · have T2 : decide ((n : Int) ≤ 7) = true := by simp; omega
      rw [decide_eq_true h7]
      go_enter Try.func92, Try.ntmps92
      go_wp2_with fail
      go_ret
      exact ⟨rfl, rfl⟩
    · have T2 : decide ((n : Int) ≤ 7) = false := by simp; omega
      rw [decide_eq_false h7]
      go_enter Try.func92, Try.ntmps92
      go_wp2_with fail
      go_ret
      exact ⟨rfl, rfl⟩
  · have T1 : decide ((1 : Int) ≤ (n : Int)) = false := by simp; omega
    rw [decide_eq_false h1]
    go_enter Try.func92, Try.ntmps92
    go_wp2_with fail
    go_ret
    exact ⟨rfl, rfl⟩
theorem baseOf_yes (n : Int) (h : baB n = true) (w : World) :
    Calls Try.prog 98 #[.int .i64 n] w fun e w' => e = .returned (.int .i64 n) ∧ w = w' := by
  rcases baB_cases h with rfl | rfl | rfl | rfl
  all_goals
    go_enter Try.func98, Try.ntmps98
    go_wp2_with fail
    go_ret
    exact ⟨rfl, rfl⟩
theorem baseOf_no (n : Int) (h : baB n = false) (w : World) :
    Calls Try.prog 98 #[.int .i64 n] w fun e w' => e = .panicked [{ v := .iface 138 (.agg #[]), recovered := false }] ∧ w = w' := by
  obtain ⟨h1, h2, h3, h4⟩ := baB_no h
  have T1 : (n == 2) = false := beq_eq_false_iff_ne.2 h1
  have T2 : (n == 4) = false := beq_eq_false_iff_ne.2 h2
  have T3 : (n == 16) = false := beq_eq_false_iff_ne.2 h3
  have T4 : (n == 256) = false := beq_eq_false_iff_ne.2 h4
  clear h1 h2 h3 h4 h
  go_enter Try.func98, Try.ntmps98
  go_wp2_with fail
  exact ⟨rfl, rfl, rfl⟩
theorem noBase_code (w : World) : Calls Try.prog 210 #[.agg #[]] w fun e w' => e = .returned (.int .i64 2) ∧ w' = w.alloc (.cells #[] 138) := by
  go_enter Try.func210, Try.ntmps210
  go_wp2_with fail
  go_ret
  exact ⟨rfl, rfl⟩
set_option maxRecDepth 100000 in
theorem rec_idle (p : Addr) (w : World) :
    CallsD Try.prog 127 #[.pointer (some p)] .returning w fun e u' w' => e = .returned (.tuple #[]) ∧ u' = .returning ∧ w' = w := by
  have hta : ∀ w, Sem.run Try.prog (Instr.typeAssert Value.nilIface 20 124 true) w = .ok (.tuple #[.nilIface, .bool false]) w := fun _ => by kernel_rfl
  refine callsD_of_wpS Try.func127 rfl fun c₀ cs hu => ?_
  simp only [Try.ntmps127, List.size_toArray, List.length_cons, List.length_nil, Nat.reduceAdd, Nat.reduceSub, Array.replicate_succ, Array.replicate_zero, List.push_toArray, List.append_toArray, List.nil_append, List.cons_append]
  apply wpS_seq
  apply wpS_region
  simp [wpOpsS, go_sem, recoverD, hu, Exit.thenS, hta]
  apply wpS_seq
  apply wpS_region
  simp [wpOpsS, go_sem, Exit.thenS]
  refine wpS_cond (t := false) (by simp [Act.eval]) ?_
  simp only [Bool.false_eq_true, if_false]
  refine wpS_of_wp (wp_skip ?_)
  cases c₀
  simp_all [bodyPostS, results, Try.results127]
set_option maxRecDepth 100000 in
theorem rec_panicking (p : Addr) (x : Int) (older : List PanicEntry) (w : World) (hc : w.cell? p = some (.int .i64 x)) (hz : w.frozen? p = false) :
    CallsD Try.prog 127 #[.pointer (some p)] (.panicking ({ v := .iface 138 (.agg #[]), recovered := false } :: older)) w fun e u' w' =>
      e = .returned (.tuple #[]) ∧ u' = .panicking ({ v := .iface 138 (.agg #[]), recovered := true } :: older) ∧ w' = (w.alloc (.cells #[] 138)).setCell p (.int .i64 2) := by
  have hm : ∀ w, Sem.run Try.prog (method 318 138 (Value.agg #[]) "loop.example/g01307/impl.code") w = .ok (210, .agg #[]) w := fun _ => by kernel_rfl
  have he : ∀ args w, Sem.run Try.prog (callFunc 210 args) w = .ok (.enter 210 args) w := enters_of Try.func210 (by kernel_rfl) rfl
  have htb : ∀ w, Sem.run Try.prog (Instr.typeAssert (Value.iface 138 (.agg #[])) 20 124 true) w = .ok (.tuple #[.iface 138 (.agg #[]), .bool true]) w := fun _ => by kernel_rfl
  refine callsD_of_wpS Try.func127 rfl fun c₀ cs hu => ?_
  simp only [Try.ntmps127, List.size_toArray, List.length_cons, List.length_nil, Nat.reduceAdd, Nat.reduceSub, Array.replicate_succ, Array.replicate_zero, List.push_toArray, List.append_toArray, List.nil_append, List.cons_append]
  apply wpS_seq
  apply wpS_region
  simp [wpOpsS, go_sem, recoverD, hu, Exit.thenS, htb]
  apply wpS_seq
  apply wpS_region
  simp [wpOpsS, go_sem, Exit.thenS]
  refine wpS_cond (t := true) (by simp [Act.eval]) ?_
  simp only [if_true]
  apply wpS_region
  simp [wpOpsS, go_sem, hm, he]
  have hc2 : (w.alloc (.cells #[] 138)).cell? p = some (.int .i64 x) := (((Below.refl _ w).alloc (Nat.le_refl _) _).cell (block_of_cell hc)).trans hc
  have hz2 : (w.alloc (.cells #[] 138)).frozen? p = false := (((Below.refl _ w).alloc (Nat.le_refl _) _).frozen (block_of_cell hc)).trans hz
  refine (noBase_code w).mono ?_
  rintro e w' ⟨rfl, rfl⟩
  simp [go_sem, hc2, hz2, bodyPostS, results, Try.results127]
set_option maxHeartbeats 1000000 in
theorem hasWord_any (n : Int) (n0 : -9223372036854775808 ≤ n) (n1 : n ≤ 9223372036854775807) (v : Value) (zs : List Int) (hn : zs.length ≤ 1048576) (w : World) (h : NS w v zs) :
    Calls Try.prog 129 #[.int .i64 n, v] w fun e w' => e = .returned (.bool (wdB n zs)) ∧ w = w' := by
  have HN := Lib.hid h
  have HU := Lib.hid (inU_of h)
  obtain ⟨A, c, rfl⟩ := h.form
  clear h
  obtain ⟨bv, hbv⟩ : ∃ bv, bv = wdB n zs := ⟨_, rfl⟩
  rw [← hbv]
  by_cases h1 : 1 ≤ zs.length
  · by_cases h7 : zs.length ≤ 7
    · rw [wdB_yes h1 h7, ← ltAll_max (by omega)] at hbv
      have hm := mxI_u HU.out (zs.length - 1)
      have hcm := isLen_any zs.length hn w
      rw [decide_eq_true h1, decide_eq_true h7] at hcm
      have hmx := maxW_any _ zs (by omega) hn w HN.out
      obtain ⟨t, ht⟩ : ∃ t, t = mxI zs (zs.length - 1) := ⟨_, rfl⟩
      rw [← ht] at hbv hm hmx
      obtain ⟨m0, m1⟩ := hm
      have HM := Lib.hid hmx
      have HL := Lib.hid hcm
      clear ht hmx hcm h1 h7
      go_enter Try.func129, Try.ntmps129
      go_wp2_with fail
      refine HL.out.mono ?_
      rintro e w' ⟨rfl, rfl⟩
      go_wp2_with fail
      refine HM.out.mono ?_
      rintro e w' ⟨rfl, rfl⟩
      go_wp2_with fail
      go_ret
      exact ⟨by rw [hbv]; rfl, rfl⟩
    · rw [wdB_long h7] at hbv
      have hcm := isLen_any zs.length hn w
      rw [decide_eq_true h1, decide_eq_false h7] at hcm
      subst hbv
      have HL := Lib.hid hcm
      clear hcm h1 h7
      go_enter Try.func129, Try.ntmps129
      go_wp2_with fail
      refine HL.out.mono ?_
      rintro e w' ⟨rfl, rfl⟩
      go_wp2_with fail
      go_ret
      exact ⟨rfl, rfl⟩
  · rw [wdB_short h1] at hbv
    have hcm := isLen_any zs.length hn w
    rw [decide_eq_false h1] at hcm
    subst hbv
    have HL := Lib.hid hcm
    clear hcm h1
    go_enter Try.func129, Try.ntmps129
    go_wp2_with fail
    refine HL.out.mono ?_
    rintro e w' ⟨rfl, rfl⟩
    go_wp2_with fail
    go_ret
    exact ⟨rfl, rfl⟩
theorem isBad_any (n : Int) (n0 : -9223372036854775808 ≤ n) (n1 : n ≤ 9223372036854775807) (b : Nat) (v : Value) (zs : List Int) (hn : zs.length ≤ 1048576) (w : World) (h : NS w v zs) (hb : w.cell? ⟨b, 0, none⟩ = some (.int .i64 n)) :
    Calls Try.prog 128 #[v, .pointer (some ⟨b, 0, none⟩)] w fun e w' => e = .returned (.bool (!wdB n zs)) ∧ w = w' := by
  have HN := Lib.hid h
  obtain ⟨A, c, rfl⟩ := h.form
  clear h
  obtain ⟨bv, hbv⟩ : ∃ bv, bv = wdB n zs := ⟨_, rfl⟩
  rw [← hbv]
  have HB := Lib.hid hbv
  clear hbv
  go_enter Try.func128, Try.ntmps128
  go_wp2_with fail
  refine (hasWord_any n n0 n1 _ zs hn _ HN.out).mono ?_
  rintro e w' ⟨rfl, rfl⟩
  rw [← HB.out]
  go_wp2_with fail
  go_ret
  exact ⟨rfl, rfl⟩
/-- which words are not valid -/
def bd (n : Int) (gs : List (List Int)) (i : Nat) : Bool := !wdB n (gs.getD i [])
theorem bd_any (n : Int) (gs : List (List Int)) : (!anyN (bd n gs) gs.length) = gs.all (wdB n) := by
  by_cases h : gs.all (wdB n) = true
  · rw [h, anyN_no]; · rfl
    intro i hi
    rw [List.all_eq_true] at h
    have := h gs[i] (List.getElem_mem hi)
    unfold bd
    simp [List.getD, hi, this]
  · have h' : gs.all (wdB n) = false := by simpa using h
    rw [h']
    rw [List.all_eq_false] at h'
    obtain ⟨zs, hz, h2⟩ := h'
    obtain ⟨i, hi, rfl⟩ := List.mem_iff_getElem.1 hz
    rw [anyN_yes (k := i) hi]; · rfl
    unfold bd
    simp [List.getD, hi]
    simpa using h2
def opB (n : Int) (gs : List (List Int)) : Int := if opC n gs = 0 then n else 0
end Go.Proofs.Ythhjhfkcgokffaa
