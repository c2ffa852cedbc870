/-
  DividePoly: a divisor that is 0 panics, and is recovered; of the model and of the program.
-/
import Derived.Defers
import Derived.Recover
import Derived.Laws.Pointers
import Derived.WalkLawsBesides
import Derived.Test.YtnpadkkjaeblfaaPvO
namespace Go.Proofs.Ytnpadkkjaeblfaa
set_option linter.unusedVariables false
set_option linter.unusedSimpArgs false
open Go.ChangeShapes Go.WideShapes Go.ChangeAt Go.RowKit

theorem alloc_cell1 (w : World) (x : Value) (T : TypeId) : (w.alloc (.cells #[x] T)).cell? ⟨w.heap.size, 0, none⟩ = some x := cell_of_row _ _ _ _ _ _ (heap_alloc_new w _)
theorem alloc_free1 (w : World) (x : Value) (T : TypeId) (o : Nat) : (w.alloc (.cells #[x] T)).frozen? ⟨w.heap.size, o, none⟩ = false := by
  unfold World.frozen?
  rw [heap_alloc_new]
  simp
theorem PO.farset {w : World} {B b : Nat} {v : Value} {zs : List Int} (h : PO w B v zs) (hb : b < B) (x : Value) : PO (w.setCell ⟨b, 0, none⟩ x) B v zs := by
  obtain ⟨A, c, rfl, h1, h2, hz, h3, h4⟩ := h
  refine ⟨A, c, rfl, h1, h2, hz, h3, fun hn => ?_⟩
  obtain ⟨g, k, rfl, ho⟩ := h4 hn
  refine ⟨g, k, rfl, ho.kept (row := some b) ⟨rfl, rfl, rfl, by simp [World.setCell], fun j _ hj => Below.heap_setCell _ _ _ _ (fun e => hj (by rw [e]))⟩ (.inr ?_)⟩
  rcases ho.2 with ⟨e, h0⟩ | ⟨g', cap, cur, e, hb', hg', _⟩
  · omega
  · cases e
    intro e
    have e2 : g = b := by simpa [Value.ownBlock] using e
    omega
/-- marks in one answer leave the other -/
theorem MK.apart {w w' : World} {v u : Value} {zs ys : List Int} {B : Nat} (h : MK w w' v zs) (hs : 0 < zs.length → 0 < ys.length → ∀ k, v.ownBlock = some k → u.ownBlock = some k → False) (hu : PO w B u ys) : PO w' B u ys := by
  rcases h with rfl | ⟨hn, k, hk, hg⟩
  · exact hu
  · obtain ⟨A, c, rfl, h1, h2, hz, h3, h4⟩ := hu
    refine ⟨A, c, rfl, h1, h2, hz, h3, fun hn2 => ?_⟩
    obtain ⟨g, k', rfl, ho⟩ := h4 hn2
    refine ⟨g, k', rfl, ho.kept hg (.inr ?_)⟩
    intro e
    exact hs hn hn2 k hk (by simpa [Value.ownBlock] using e)
theorem zd_code (w : World) : Calls Try.prog 168 #[.agg #[]] w fun e w' => e = .returned (.int .i64 4) ∧ w' = w.alloc (.cells #[] 134) := by
  go_enter Try.func168, Try.ntmps168
  go_wp2_with fail
  go_ret
  exact ⟨rfl, rfl⟩
set_option maxRecDepth 100000 in
theorem rec_idle (p : Addr) (w : World) :
    CallsD Try.prog 136 #[.pointer (some p)] .returning w fun e u' w' => e = .returned (.tuple #[]) ∧ u' = .returning ∧ w' = w := by
  have hta : ∀ w, Sem.run Try.prog (Instr.typeAssert Value.nilIface 20 114 true) w = .ok (.tuple #[.nilIface, .bool false]) w := fun _ => by kernel_rfl
  refine callsD_of_wpS Try.func136 rfl fun c₀ cs hu => ?_
  simp only [Try.ntmps136, List.size_toArray, List.length_cons, List.length_nil, Nat.reduceAdd, Nat.reduceSub, Array.replicate_succ, Array.replicate_zero, List.push_toArray, List.append_toArray, List.nil_append, List.cons_append]
  apply wpS_seq
  apply wpS_region
  simp [wpOpsS, go_sem, recoverD, hu, Exit.thenS, hta]
  apply wpS_seq
  apply wpS_region
  simp [wpOpsS, go_sem, Exit.thenS]
  refine wpS_cond (t := false) (by simp [Act.eval]) ?_
  simp only [Bool.false_eq_true, if_false]
  refine wpS_of_wp (wp_skip ?_)
  cases c₀
  simp_all [bodyPostS, results, Try.results136]
set_option maxRecDepth 100000 in
theorem rec_panicking (p : Addr) (x : Int) (older : List PanicEntry) (w : World) (hc : w.cell? p = some (.int .i64 x)) (hz : w.frozen? p = false) :
    CallsD Try.prog 136 #[.pointer (some p)] (.panicking ({ v := .iface 134 (.agg #[]), recovered := false } :: older)) w fun e u' w' =>
      e = .returned (.tuple #[]) ∧ u' = .panicking ({ v := .iface 134 (.agg #[]), recovered := true } :: older) ∧ w' = (w.alloc (.cells #[] 134)).setCell p (.int .i64 4) := by
  have hm : ∀ w, Sem.run Try.prog (method 251 134 (Value.agg #[]) "loop.example/g01307/impl.code") w = .ok (168, .agg #[]) w := fun _ => by kernel_rfl
  have he : ∀ args w, Sem.run Try.prog (callFunc 168 args) w = .ok (.enter 168 args) w := enters_of Try.func168 (by kernel_rfl) rfl
  have htb : ∀ w, Sem.run Try.prog (Instr.typeAssert (Value.iface 134 (.agg #[])) 20 114 true) w = .ok (.tuple #[.iface 134 (.agg #[]), .bool true]) w := fun _ => by kernel_rfl
  refine callsD_of_wpS Try.func136 rfl fun c₀ cs hu => ?_
  simp only [Try.ntmps136, List.size_toArray, List.length_cons, List.length_nil, Nat.reduceAdd, Nat.reduceSub, Array.replicate_succ, Array.replicate_zero, List.push_toArray, List.append_toArray, List.nil_append, List.cons_append]
  apply wpS_seq
  apply wpS_region
  simp [wpOpsS, go_sem, recoverD, hu, Exit.thenS, htb]
  apply wpS_seq
  apply wpS_region
  simp [wpOpsS, go_sem, Exit.thenS]
  refine wpS_cond (t := true) (by simp [Act.eval]) ?_
  simp only [if_true]
  apply wpS_region
  simp [wpOpsS, go_sem, hm, he]
  have hc2 : (w.alloc (.cells #[] 134)).cell? p = some (.int .i64 x) := (((Below.refl _ w).alloc (Nat.le_refl _) _).cell (block_of_cell hc)).trans hc
  have hz2 : (w.alloc (.cells #[] 134)).frozen? p = false := (((Below.refl _ w).alloc (Nat.le_refl _) _).frozen (block_of_cell hc)).trans hz
  refine (zd_code w).mono ?_
  rintro e w' ⟨rfl, rfl⟩
  simp [go_sem, hc2, hz2, bodyPostS, results, Try.results136]
theorem divide_zero (v : Value) (A' : Option Addr) (c' : Nat) (w : World) :
    Calls Try.prog 143 #[v, .slice A' 0 c'] w fun e w' => e = .panicked [{ v := .iface 134 (.agg #[]), recovered := false }] ∧ w' = w.alloc (.cells #[.slice A' 0 c'] 25) := by
  go_enter Try.func143, Try.ntmps143
  go_wp2_with fail
  exact ⟨rfl, rfl, rfl⟩
theorem over_zero (v : Value) (A' : Option Addr) (c' : Nat) (w : World) :
    Calls Try.prog 119 #[v, .slice A' 0 c'] w fun e w' => e = .panicked [{ v := .iface 134 (.agg #[]), recovered := false }] ∧ w' = w.alloc (.cells #[.slice A' 0 c'] 25) := by
  go_enter Try.func119, Try.ntmps119
  go_wp2_with fail
  refine (divide_zero v A' c' _).mono ?_
  rintro e w' ⟨rfl, rfl⟩
  exact ⟨rfl, rfl, rfl⟩
set_option maxHeartbeats 1000000 in
theorem tryOver_zero (v : Value) (A' : Option Addr) (c' : Nat) (w : World) :
    Calls Try.prog 102 #[v, .slice A' 0 c'] w fun e w' => e = .returned (.tuple #[.slice none 0 0, .slice none 0 0, .int .i64 4]) ∧ Below w.heap.size w w' := by
  have hmf : ∀ (fn : Fn) (first cap : Array Value) (w : World), (Instr.makeFunc fn first cap).run Try.prog w = .ok (.func fn first cap) w := fun _ _ _ _ => rfl
  obtain ⟨w1, hw1⟩ : ∃ w1, w1 = w.alloc (.cells #[.int .i64 0] 2) := ⟨_, rfl⟩
  have hb1 : Below w.heap.size w w1 := by rw [hw1]; exact (Below.refl _ w).alloc (Nat.le_refl _) _
  have hs1 : w1.heap.size = w.heap.size + 1 := by rw [hw1]; simp
  have c1 : w1.cell? ⟨w.heap.size, 0, none⟩ = some (.int .i64 0) := by rw [hw1]; exact alloc_cell1 _ _ _
  have f1 : w1.frozen? ⟨w.heap.size, 0, none⟩ = false := by rw [hw1]; exact alloc_free1 _ _ _ _
  have hb2 : Below w1.heap.size w1 (w1.alloc (.cells #[.slice A' 0 c'] 25)) := (Below.refl _ w1).alloc (Nat.le_refl _) _
  have c2 := (hb2.cell (p := ⟨w.heap.size, 0, none⟩) (by rw [hs1]; exact Nat.lt_succ_self _)).trans c1
  have f2 := (hb2.frozen (p := ⟨w.heap.size, 0, none⟩) (by rw [hs1]; exact Nat.lt_succ_self _)).trans f1
  have HW := Lib.hid hw1
  have HB := Lib.hid (bchain hb1 hb2)
  clear hb1 hb2 hs1 c1 f1
  go_enter_defers Try.func102, Try.ntmps102
  go_wp2_with fail
  rw [← HW.out]
  refine (over_zero v A' c' _).mono ?_
  rintro e w' ⟨rfl, rfl⟩
  generalize w1.alloc (.cells #[.slice A' 0 c'] 25) = w2 at c2 f2 HB ⊢
  clear hw1 HW
  refine leaves_cons (f := 136) (args := #[.pointer (some ⟨w.heap.size, 0, none⟩)]) (by simp) (by simp [go_sem]) ?_
  refine (rec_panicking ⟨w.heap.size, 0, none⟩ 0 [] _ c2 f2).mono ?_
  rintro e u' w'' ⟨rfl, rfl, rfl⟩
  have hb4 : Below w2.heap.size w2 (w2.alloc (.cells #[] 134)) := (Below.refl _ w2).alloc (Nat.le_refl _) _
  have hc : ((w2.alloc (.cells #[] 134)).setCell ⟨w.heap.size, 0, none⟩ (.int .i64 4)).cell? ⟨w.heap.size, 0, none⟩ = some (.int .i64 4) := by
    refine World.cell?_setCell_same (u := .int .i64 0) _ _ _ ?_
    exact (hb4.cell (p := ⟨w.heap.size, 0, none⟩) (block_of_cell c2)).trans c2
  simp [Leaves, settle, results, Try.results102, go_sem, hc]
  exact (bchain HB.out hb4).setCell (p := ⟨w.heap.size, 0, none⟩) (Nat.le_refl _) _
set_option maxHeartbeats 1000000 in
theorem tryOver_any (v u : Value) (xs ys : List Int) (hn : xs.length ≤ 1000) (hn2 : ys.length ≤ 1000) (w : World) (h : NC w v xs) (h' : NC w u ys)
    (hta : topP xs) (hn1 : 1 ≤ ys.length) (ht : ys.getD (ys.length - 1) 0 ≠ 0) :
    Calls Try.prog 102 #[v, u] w fun e w' => ∃ q r, e = .returned (.tuple #[q, r, .int .i64 0]) ∧ PO w' w.heap.size q (pQuo xs ys) ∧ PO w' w.heap.size r (pRem xs ys) ∧ Below w.heap.size w w' ∧ SEP q (pQuo xs ys) r (pRem xs ys) := by
  have hmf : ∀ (fn : Fn) (first cap : Array Value) (w : World), (Instr.makeFunc fn first cap).run Try.prog w = .ok (.func fn first cap) w := fun _ _ _ _ => rfl
  obtain ⟨w1, hw1⟩ : ∃ w1, w1 = w.alloc (.cells #[.int .i64 0] 2) := ⟨_, rfl⟩
  have hb1 : Below w.heap.size w w1 := by rw [hw1]; exact (Below.refl _ w).alloc (Nat.le_refl _) _
  have hs1 : w1.heap.size = w.heap.size + 1 := by rw [hw1]; simp
  have c1 : w1.cell? ⟨w.heap.size, 0, none⟩ = some (.int .i64 0) := by rw [hw1]; exact alloc_cell1 _ _ _
  have f1 : w1.frozen? ⟨w.heap.size, 0, none⟩ = false := by rw [hw1]; exact alloc_free1 _ _ _ _
  have HO := Lib.hid (over_sep v u xs ys hn hn2 w1 (h.below hb1) (h'.below hb1) hta hn1 ht)
  obtain ⟨A, c, rfl, _⟩ := h.form
  obtain ⟨A', c', rfl, _⟩ := h'.form
  have HW := Lib.hid hw1
  have HB1 := Lib.hid hb1
  have HS1 := Lib.hid hs1
  have HC1 := Lib.hid c1
  have HF1 := Lib.hid f1
  clear hb1 hs1 c1 f1 h h'
  go_enter_defers Try.func102, Try.ntmps102
  go_wp2_with fail
  rw [← HW.out]
  refine HO.out.mono ?_
  rintro e w3 ⟨q, r, rfl, hq, hr, hb3, hs⟩
  have c2 := (hb3.cell (p := ⟨w.heap.size, 0, none⟩) (by rw [HS1.out]; exact Nat.lt_succ_self _)).trans HC1.out
  have f2 := (hb3.frozen (p := ⟨w.heap.size, 0, none⟩) (by rw [HS1.out]; exact Nat.lt_succ_self _)).trans HF1.out
  obtain ⟨D1, k1, rfl, _⟩ := hq.form
  obtain ⟨D2, k2, rfl, _⟩ := hr.form
  have HQ := Lib.hid ((hq.farset (b := w.heap.size) (by rw [HS1.out]; omega) (.int .i64 0)).lower HB1.out.size)
  have HR := Lib.hid ((hr.farset (b := w.heap.size) (by rw [HS1.out]; omega) (.int .i64 0)).lower HB1.out.size)
  have HB := Lib.hid ((bchain HB1.out hb3).setCell (p := ⟨w.heap.size, 0, none⟩) (Nat.le_refl _) (.int .i64 0))
  have HSS := Lib.hid hs
  clear hq hr hb3 hs
  go_wp2_with fail
  refine leaves_cons (f := 136) (args := #[.pointer (some ⟨w.heap.size, 0, none⟩)]) (by simp) (by simp [go_sem]) ?_
  refine (rec_idle ⟨w.heap.size, 0, none⟩ _).mono ?_
  rintro e u' w'' ⟨rfl, rfl, rfl⟩
  have hcs : (w3.setCell ⟨w.heap.size, 0, none⟩ (.int .i64 0)).cell? ⟨w.heap.size, 0, none⟩ = some (.int .i64 0) := World.cell?_setCell_same (u := .int .i64 0) _ _ _ c2
  simp [Leaves, settle, results, Try.results102, go_sem, hcs]
  exact ⟨_, _, ⟨rfl, rfl⟩, HQ.out, HR.out, HB.out, HSS.out⟩
def dvO (a b : List Int) : Bool := (okP a && okP b) && decide (1 ≤ b.length)
def dvQ (a b : List Int) : List Int := if dvO a b then pQuo a b else []
def dvR (a b : List Int) : List Int := if dvO a b then pRem a b else []
def dvC (a b : List Int) : Int := if (okP a && okP b) then (if b.length = 0 then 4 else 0) else okC2 a b
theorem dv_yes {a b : List Int} (h : (okP a && okP b) = true) (h0 : 1 ≤ b.length) : dvQ a b = pQuo a b ∧ dvR a b = pRem a b ∧ dvC a b = 0 := by
  have e : dvO a b = true := by unfold dvO; rw [h, decide_eq_true h0]; rfl
  unfold dvQ dvR dvC
  rw [if_pos e, if_pos e, if_pos h, if_neg (by omega)]
  exact ⟨rfl, rfl, rfl⟩
theorem dv_zero {a b : List Int} (h : (okP a && okP b) = true) (h0 : b.length = 0) : dvQ a b = [] ∧ dvR a b = [] ∧ dvC a b = 4 := by
  have e : dvO a b = false := by unfold dvO; rw [h, decide_eq_false (show ¬ 1 ≤ b.length by omega)]; rfl
  unfold dvQ dvR dvC
  rw [if_neg (by rw [e]; decide), if_neg (by rw [e]; decide), if_pos h, if_pos h0]
  exact ⟨rfl, rfl, rfl⟩
theorem dv_no {a b : List Int} (h : (okP a && okP b) = false) : dvQ a b = [] ∧ dvR a b = [] ∧ dvC a b = okC2 a b := by
  have e : dvO a b = false := by unfold dvO; rw [h]; rfl
  unfold dvQ dvR dvC
  rw [if_neg (by rw [e]; decide), if_neg (by rw [e]; decide), if_neg (by rw [h]; decide)]
  exact ⟨rfl, rfl, rfl⟩
theorem pRemS_le (a b : List Int) : (pRem a b).length ≤ a.length := by
  unfold pRem
  split
  · exact Nat.le_refl _
  · rw [pTrim_len]
    refine Nat.le_trans (trimN_le _ _) ?_
    rw [tab_len]
    exact Nat.le_refl _
theorem pQuoS_le (a b : List Int) : (pQuo a b).length ≤ a.length + 1 := by
  rw [pQuo_tab, tab_len]
  unfold quoM
  omega
theorem dv_len (a b : List Int) : (dvQ a b).length ≤ 22 ∧ (dvR a b).length ≤ 22 := by
  unfold dvQ dvR
  by_cases e : dvO a b = true
  · rw [if_pos e, if_pos e]
    have h : okP a = true := by unfold dvO at e; simp only [Bool.and_eq_true] at e; exact e.1.1
    have := okP_len h
    have := pRemS_le a b
    have := pQuoS_le a b
    omega
  · rw [if_neg e, if_neg e]; simp
theorem SEP.nil (q r : Value) (ys : List Int) : SEP q [] r ys := fun h => by simp at h
set_option maxHeartbeats 1000000 in
theorem spec_DividePoly (v u : Value) (xs ys : List Int) (hn : xs.length ≤ 1048576) (hn2 : ys.length ≤ 1048576) (w : World) (h : NC w v xs) (h' : NC w u ys) :
    Calls Try.prog 46 #[v, u] w fun e w' => ∃ q r, e = .returned (.tuple #[q, r, .int .i64 (dvC xs ys)]) ∧ PO w' w.heap.size q (dvQ xs ys) ∧ PO w' w.heap.size r (dvR xs ys) ∧ Below w.heap.size w w' := by
  have HN := Lib.hid h.ns
  have HN' := Lib.hid h'.ns
  have HC := Lib.hid (check2 v u xs ys hn hn2 w h.ns h'.ns)
  obtain ⟨A, c, rfl, hca⟩ := h.form
  obtain ⟨A', c', rfl, hca'⟩ := h'.form
  have HB1 := Lib.hid ((Below.refl w.heap.size w).alloc (Nat.le_refl _) (.cells #[.slice A xs.length c, .slice A' ys.length c'] 25))
  have HU := Lib.hid h.inU
  have HU' := Lib.hid h'.inU
  clear h h'
  by_cases ho : (okP xs && okP ys) = true
  · have HY := Lib.hid ho
    have hl1 : xs.length ≤ 21 := okP_len (by rw [Bool.and_eq_true] at ho; exact ho.1)
    have hl2 : ys.length ≤ 21 := okP_len (by rw [Bool.and_eq_true] at ho; exact ho.2)
    go_enter Try.func46, Try.ntmps46
    go_wp2_with fail
    refine (l05Both_any _ _ xs ys hn hn2 _ HN.out HN'.out).mono ?_
    rintro e w' ⟨rfl, rfl⟩
    rw [okC2_yes ho]
    clear ho
    by_cases h0 : ys.length = 0
    · have E := Lib.hid (dv_zero HY.out h0)
      have T1 : ((ys.length : Int) == 0) = true := by rw [h0]; rfl
      clear h0
      go_wp2_with fail
      go_ret3
      exact ⟨_, _, by rw [E.out.2.2]; rfl, by rw [E.out.1]; exact PO.nil _ _ _ _ (by first | exact Nat.zero_le _ | simp) (fun e => by first | rfl | cases e), by rw [E.out.2.1]; exact PO.nil _ _ _ _ (by first | exact Nat.zero_le _ | simp) (fun e => by first | rfl | cases e), (((Below.refl _ _).alloc (Nat.le_refl _) _).alloc (by simp) _)⟩
    · have E := Lib.hid (dv_yes HY.out (by omega))
      have T1 : ((ys.length : Int) == 0) = false := by rw [beq_eq_false_iff_ne]; omega
      have hn1 : 1 ≤ ys.length := by omega
      have HTP : Hid (topP xs ∧ topP ys) := Lib.hid (by have := HY.out; rw [Bool.and_eq_true] at this; exact ⟨okP_top this.1, okP_top this.2⟩)
      have HNE := Lib.hid (top_ne HTP.out.2 h0)
      clear h0
      go_wp2_with fail
      refine (l05Divide_any _ _ xs ys (by omega) (by omega) _ ⟨A, c, rfl, hca, HN.out⟩ ⟨A', c', rfl, hca', HN'.out⟩ HTP.out.1 hn1 HNE.out).mono ?_
      rintro e w2 ⟨q, r, rfl, hq, hr, hb⟩
      obtain ⟨D1, k1, rfl, _⟩ := hq.form
      obtain ⟨D2, k2, rfl, _⟩ := hr.form
      have HQ := Lib.hid hq
      have HR := Lib.hid hr
      have HB := Lib.hid hb
      clear hq hr hb
      go_wp2_with fail
      go_ret3
      exact ⟨_, _, by rw [E.out.2.2]; rfl, by rw [E.out.1]; exact HQ.out, by rw [E.out.2.1]; exact HR.out, HB.out⟩
  · have ho' : (okP xs && okP ys) = false := by simpa using ho
    have HO2 := Lib.hid (dv_no ho')
    have hcc : okC2 xs ys = 1 := okC2_no ho'
    rw [hcc] at HO2
    have HO := Lib.hid ho'
    go_enter Try.func46, Try.ntmps46
    go_wp2_with fail
    refine (l05Both_any _ _ xs ys hn hn2 _ HN.out HN'.out).mono ?_
    rintro e w' ⟨rfl, rfl⟩
    rw [okC2_no ho']
    clear ho ho' hcc
    go_wp2_with fail
    go_ret3
    exact ⟨_, _, by rw [HO2.out.2.2]; rfl, by rw [HO2.out.1]; exact PO.nil _ _ _ _ (by first | exact Nat.zero_le _ | simp) (fun e => by first | rfl | cases e), by rw [HO2.out.2.1]; exact PO.nil _ _ _ _ (by first | exact Nat.zero_le _ | simp) (fun e => by first | rfl | cases e), (((Below.refl _ _).alloc (Nat.le_refl _) _).alloc (by simp) _)⟩
set_option maxHeartbeats 1000000 in
theorem impl_DividePoly (v u : Value) (xs ys : List Int) (hn : xs.length ≤ 1048576) (hn2 : ys.length ≤ 1048576) (w : World) (h : NC w v xs) (h' : NC w u ys) :
    Calls Try.prog 47 #[v, u] w fun e w' => ∃ q r, e = .returned (.tuple #[q, r, .int .i64 (dvC xs ys)]) ∧ PO w' w.heap.size q (dvQ xs ys) ∧ PO w' w.heap.size r (dvR xs ys) ∧ Below w.heap.size w w' ∧ SEP q (dvQ xs ys) r (dvR xs ys) := by
  have HN := Lib.hid h.ns
  have HN' := Lib.hid h'.ns
  have HC := Lib.hid (check2 v u xs ys hn hn2 w h.ns h'.ns)
  obtain ⟨A, c, rfl, hca⟩ := h.form
  obtain ⟨A', c', rfl, hca'⟩ := h'.form
  have HB1 := Lib.hid ((Below.refl w.heap.size w).alloc (Nat.le_refl _) (.cells #[.slice A xs.length c, .slice A' ys.length c'] 25))
  have HU := Lib.hid h.inU
  have HU' := Lib.hid h'.inU
  clear h h'
  by_cases ho : (okP xs && okP ys) = true
  · have HY := Lib.hid ho
    have hl1 : xs.length ≤ 21 := okP_len (by rw [Bool.and_eq_true] at ho; exact ho.1)
    have hl2 : ys.length ≤ 21 := okP_len (by rw [Bool.and_eq_true] at ho; exact ho.2)
    go_enter Try.func47, Try.ntmps47
    go_wp2_with fail
    refine HC.out.mono ?_
    rintro e w' ⟨rfl, rfl⟩
    rw [okC2_yes ho]
    clear ho
    by_cases h0 : ys.length = 0
    · have E := Lib.hid (dv_zero HY.out h0)
      have HB1z := HB1
      rw [h0] at HB1z ⊢
      clear h0
      go_wp2_with fail
      refine (tryOver_zero _ _ _ _).mono ?_
      rintro e w2 ⟨rfl, hb⟩
      have HB := Lib.hid (bchain HB1z.out hb)
      clear hb
      go_wp2_with fail
      go_ret3
      exact ⟨_, _, by rw [E.out.2.2]; rfl, by rw [E.out.1]; exact PO.nil _ _ _ _ (by first | exact Nat.zero_le _ | simp) (fun e => by first | rfl | cases e), by rw [E.out.2.1]; exact PO.nil _ _ _ _ (by first | exact Nat.zero_le _ | simp) (fun e => by first | rfl | cases e), HB.out, by rw [E.out.1]; exact SEP.nil _ _ _⟩
    · have E := Lib.hid (dv_yes HY.out (by omega))
      have hn1 : 1 ≤ ys.length := by omega
      have HTP : Hid (topP xs ∧ topP ys) := Lib.hid (by have := HY.out; rw [Bool.and_eq_true] at this; exact ⟨okP_top this.1, okP_top this.2⟩)
      have HNE := Lib.hid (top_ne HTP.out.2 h0)
      clear h0
      go_wp2_with fail
      refine (tryOver_any _ _ xs ys (by omega) (by omega) _ (NC.below ⟨A, c, rfl, hca, HN.out⟩ HB1.out) (NC.below ⟨A', c', rfl, hca', HN'.out⟩ HB1.out) HTP.out.1 hn1 HNE.out).mono ?_
      rintro e w2 ⟨q, r, rfl, hq, hr, hb, hs⟩
      obtain ⟨D1, k1, rfl, _⟩ := hq.form
      obtain ⟨D2, k2, rfl, _⟩ := hr.form
      have HQ := Lib.hid (hq.lower HB1.out.size)
      have HR := Lib.hid (hr.lower HB1.out.size)
      have HB := Lib.hid (bchain HB1.out hb)
      have HSS := Lib.hid hs
      clear hq hr hb hs
      go_wp2_with fail
      go_ret3
      exact ⟨_, _, by rw [E.out.2.2]; rfl, by rw [E.out.1]; exact HQ.out, by rw [E.out.2.1]; exact HR.out, HB.out, by rw [E.out.1, E.out.2.1]; exact HSS.out⟩
  · have ho' : (okP xs && okP ys) = false := by simpa using ho
    have HO2 := Lib.hid (dv_no ho')
    have hcc : okC2 xs ys = 1 := okC2_no ho'
    rw [hcc] at HO2
    have HO := Lib.hid ho'
    go_enter Try.func47, Try.ntmps47
    go_wp2_with fail
    refine HC.out.mono ?_
    rintro e w' ⟨rfl, rfl⟩
    rw [okC2_no ho']
    clear ho ho' hcc
    go_wp2_with fail
    go_ret3
    exact ⟨_, _, by rw [HO2.out.2.2]; rfl, by rw [HO2.out.1]; exact PO.nil _ _ _ _ (by first | exact Nat.zero_le _ | simp) (fun e => by first | rfl | cases e), by rw [HO2.out.2.1]; exact PO.nil _ _ _ _ (by first | exact Nat.zero_le _ | simp) (fun e => by first | rfl | cases e), HB1.out, by rw [HO2.out.1]; exact SEP.nil _ _ _⟩
end Go.Proofs.Ytnpadkkjaeblfaa
