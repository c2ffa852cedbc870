/-
  What the great laws draw besides: lengths, and bytes behind a byte of their own.
-/
import Derived.Test.YtjbaeomjinnlhaaDrawM
import Derived.Laws.OwnMore
namespace Go.Proofs.Ytjbaeomjinnlhaa
set_option linter.unusedVariables false
set_option linter.unusedSimpArgs false
open Go.ChangeShapes Go.WideShapes Go.ChangeAt Go.RowKit
theorem u8_range {z : Int} (h : (Lit.int .u8 z).wf = true) : 0 ≤ z ∧ z < 256 := by
  have := bounds_u8 h
  omega
theorem BY.of_ks {w : World} {v : Value} {zs : List Int} (h : KS .u8 w v zs) : BY w v := by
  obtain ⟨A, c, rfl, hn, hw, hc⟩ := h
  refine ⟨A, zs.length, c, rfl, hn, fun hp => ?_⟩
  obtain ⟨b, off, e, hb, hcell⟩ := hc hp
  refine ⟨b, off, e, hb, fun i hi => ?_⟩
  have hr := u8_range (hw (zs.getD i 0) (by simp [List.getD, hi]))
  exact ⟨(zs.getD i 0).toNat, by omega, (hcell i hi).trans (by rw [show (((zs.getD i 0).toNat : Nat) : Int) = zs.getD i 0 from by omega])⟩
theorem a2Long_no (A A' : Option Addr) (n c n' c' : Nat) (h : n ≤ 3000) (h' : n' ≤ 3000) (w : World) :
    Calls Try.prog 85 #[.slice A n c, .slice A' n' c'] w fun e w' => e = .returned (.bool false) ∧ w = w' := by
  have t1 : decide ((3000 : Int) < (n : Int)) = false := by simp; omega
  have t2 : decide ((3000 : Int) < (n' : Int)) = false := by simp; omega
  go_enter Try.func85, Try.ntmps85
  go_wp2_with fail
  go_ret
  exact ⟨rfl, rfl⟩
theorem a2Long_yes (A A' : Option Addr) (n c n' c' : Nat) (h : 3000 < n ∨ 3000 < n') (w : World) :
    Calls Try.prog 85 #[.slice A n c, .slice A' n' c'] w fun e w' => e = .returned (.bool true) ∧ w = w' := by
  by_cases h1 : 3000 < n
  · have t1 : decide ((3000 : Int) < (n : Int)) = true := by simp; omega
    clear h h1
    go_enter Try.func85, Try.ntmps85
    go_wp2_with fail
    go_ret
    exact ⟨rfl, rfl⟩
  · have t1 : decide ((3000 : Int) < (n : Int)) = false := by simp; omega
    have t2 : decide ((3000 : Int) < (n' : Int)) = true := by simp; omega
    clear h h1
    go_enter Try.func85, Try.ntmps85
    go_wp2_with fail
    go_ret
    exact ⟨rfl, rfl⟩
theorem run_append_nil_any (P : Program) (w : World) (base : Nat) (t ty e : TypeId) (i : TypeInfo) (ht : P.underlying t = some (.slice e)) (hi : P.info? e = some i)
    (v : Value) (n : Nat) (xs : List Value) (hown : w.ownsRow base e 1 v n xs) (c : Nat) : (Builtin.append_ #[t, t] ty #[v, .slice none 0 c]).run P w = .ok v w := by
  rcases hown.2 with ⟨rfl, rfl⟩ | ⟨g, cap, cur, rfl, _, _, hnc, _⟩ <;> simp [Builtin.append_, run_underlying ht, sizeOf, typeInfo, hi, Builtin.lenOf, Builtin.firstCells, *, storeCells]
theorem addr_add0 (b o j : Nat) : (⟨b, o, none⟩ : Addr).add j = ⟨b, o + j, none⟩ := by
  unfold Addr.add
  split
  · subst_vars; rfl
  · rfl
/-- bytes that came in, behind those of a slice of the call's own -/
theorem wpList_append_ks {P : Program} {w : World} {ops : Array Oper} {rest : List Oper} {o : Oper} {a : Act} {Q : Exit → Act → World → Prop} (hgd : o.guard = none) (s x : Operand) (t : TypeId)
    (ho : o.op = .call { callee := .builtin .append, args := #[s, x], argTypes := #[t, t] })
    (base : Nat) (e : TypeId) (i : TypeInfo) (z : Value) (ht : P.underlying t = some (.slice e)) (hi : P.info? e = some i) (hz : i.zero = some z) (hsize : i.size = 1) (hby : i.bytes = 1) (hzs : z.cells.size = 1)
    (v : Value) (n : Nat) (xs : List Value) (hs : a.eval s = v) (hown : w.ownsRow base e 1 v n xs)
    (u : Value) (zs : List Int) (hx : a.eval x = u) (hk : KS .u8 w u zs) (h63 : n + zs.length ≤ 65536) (hbase : base ≤ w.heap.size)
    (h : ∀ v' w', w'.ownsRow base e 1 v' (n + zs.length) (xs ++ zs.map (Value.int .u8)) → w.grownBy w' v.ownBlock → wpList P ops Q rest (a.put o.dst v') w') : wpList P ops Q (o :: rest) a w := by
  obtain ⟨A, c, rfl, hn, hw, hc⟩ := hk
  have key : ∃ v' w', (Builtin.append_ #[t, t] o.type #[v, .slice A zs.length c]).run P w = .ok v' w' ∧ w'.ownsRow base e 1 v' (n + zs.length) (xs ++ zs.map (Value.int .u8)) ∧ w.grownBy w' v.ownBlock := by
    cases A with
    | none =>
      have h0 : zs.length = 0 := by
        rcases Nat.eq_zero_or_pos zs.length with q | q
        · exact q
        · obtain ⟨b, off, e1, _⟩ := hc q
          cases e1
      obtain rfl := List.eq_nil_of_length_eq_zero h0
      exact ⟨v, w, run_append_nil_any P w base t o.type e i ht hi v n xs hown c, by simpa using hown, ⟨rfl, rfl, rfl, Nat.le_refl _, fun _ _ _ => rfl⟩⟩
    | some ad =>
      obtain ⟨v', w', h1, h2, h3, _⟩ := run_append_own (P := P) (w := w) base t o.type e i z 1 1 ht hi hz hsize hby hzs (by decide) v n xs hown ad zs.length c (zs.map (Value.int .u8)) (by simp) (fun j q hj => by
        have hlt : j < zs.length := by
          have := (List.getElem?_eq_some_iff.1 hj).1
          simpa using this
        obtain ⟨b, off, e1, hb, hcell⟩ := hc (by omega)
        injection e1 with e1
        subst e1
        rw [addr_add0, hcell j hlt]
        simp [List.getElem?_map, List.getElem?_eq_getElem hlt] at hj
        rw [← hj]
        simp [List.getD, hlt]) (by intro q hq; obtain ⟨y, _, rfl⟩ := List.mem_map.1 hq; rfl) (by unfold maxLen; omega) (by omega) hbase
      exact ⟨v', w', h1, h2, h3⟩
  obtain ⟨v', w', hrun, h2, h3⟩ := key
  refine wpList_plain hgd fun K hK => ?_
  unfold Oper.wp
  simp [execOp, ho, resolve, invoke, builtin, hs, hx, hrun, Result.andThen]
  exact hK _ _ (h v' w' h2 h3)
theorem BY.of_own {w : World} {base : Nat} {e : TypeId} {v : Value} {zs : List Int} (h : w.ownsRow base e 1 v zs.length (zs.map (Value.int .u8))) (hz : ∀ z ∈ zs, 0 ≤ z ∧ z < 256) : BY w v := by
  rcases h.2 with ⟨rfl, hnil⟩ | ⟨g, cap, cur, rfl, _, hg, h2, h3, _⟩
  · have h0 : zs = [] := by simpa using hnil
    subst h0
    exact ⟨none, 0, 0, rfl, by omega, fun hp => by omega⟩
  · refine ⟨some ⟨g, 0, none⟩, zs.length, cap, rfl, by unfold maxLen at h3; omega, fun hp => ?_⟩
    refine ⟨g, 0, rfl, (Array.getElem?_eq_some_iff.1 hg).1, fun i hi => ?_⟩
    have hr := hz (zs.getD i 0) (by simp [List.getD, hi])
    refine ⟨(zs.getD i 0).toNat, by omega, ?_⟩
    have := h.cellAt i (by simpa using hi)
    rw [Nat.zero_add, this, show (((zs.getD i 0).toNat : Nat) : Int) = zs.getD i 0 from by omega]
    simp [List.getD, hi]
theorem KS.below8 {w w' : World} {v : Value} {zs : List Int} {k : IntKind} (h : KS k w v zs) (hb : Below w.heap.size w w') : KS k w' v zs := by
  obtain ⟨A, c, rfl, hn, hw, hc⟩ := h
  refine ⟨A, c, rfl, hn, hw, fun hp => ?_⟩
  obtain ⟨b, off, e, hb', hcell⟩ := hc hp
  exact ⟨b, off, e, Nat.lt_of_lt_of_le hb' hb.size, fun i hi => (hb.cell (p := ⟨b, off + i, none⟩) hb').trans (hcell i hi)⟩
theorem KS.bytes {w : World} {v : Value} {zs : List Int} (h : KS .u8 w v zs) : ∀ z ∈ zs, 0 ≤ z ∧ z < 256 := by
  obtain ⟨A, c, rfl, hn, hw, hc⟩ := h
  exact fun z hz => u8_range (hw z hz)
theorem infoB : (Try.prog.info? 5).map (fun i => (i.zero, i.size, i.bytes)) = some (some (.int .u8 0), 1, 1) := by kernel_rfl
end Go.Proofs.Ytjbaeomjinnlhaa
