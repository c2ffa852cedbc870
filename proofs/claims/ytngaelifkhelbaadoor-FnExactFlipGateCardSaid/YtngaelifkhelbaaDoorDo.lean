/-
  A list appended to a row of one's own; clones; a flipped gate.
-/
import Derived.Test.YtngaelifkhelbaaDoorDm
import Derived.Lib.SliceRun
namespace Go.Proofs.YtngaelifkhelbaaDoor
set_option linter.unusedVariables false
set_option linter.unusedSimpArgs false
open Go.ChangeShapes Go.WideShapes Go.ChangeAt Go.RowKit Go.Deep
theorem region_post2 {α β : Type} {P : Program} {c : Code} {a : Act} {w : World} {Q : Exit → Act → World → Prop} {A : α → β → Act} (R : α → β → World → Prop)
    (h1 : c.wp P (fun x a' w' => x = .normal ∧ ∃ p q, a' = A p q ∧ R p q w') a w) (h2 : ∀ p q w', R p q w' → Q .normal (A p q) w') : c.wp P Q a w :=
  Code.wp_mono (fun x a' w' ⟨hx, p, q, ha, hr⟩ => by subst hx; subst ha; exact h2 p q w' hr) h1
theorem region_post5 {α β γ δ ε : Type} {P : Program} {c : Code} {a : Act} {w : World} {Q : Exit → Act → World → Prop} {A : α → β → γ → δ → ε → Act} (R : α → β → γ → δ → ε → World → Prop)
    (h1 : c.wp P (fun x a' w' => x = .normal ∧ ∃ p q r s t, a' = A p q r s t ∧ R p q r s t w') a w) (h2 : ∀ p q r s t w', R p q r s t w' → Q .normal (A p q r s t) w') : c.wp P Q a w :=
  Code.wp_mono (fun x a' w' ⟨hx, p, q, r, s, t, ha, hr⟩ => by subst hx; subst ha; exact h2 p q r s t w' hr) h1
section
variable {P : Program} {w : World}
theorem run_append_ls (base : Nat) (t ty e : TypeId) (i : TypeInfo) (z : Value) (size bytes : Nat) (ht : P.underlying t = some (.slice e)) (hi : P.info? e = some i) (hz : i.zero = some z)
    (hsize : i.size = size) (hby : i.bytes = bytes) (hzs : z.cells.size = size) (hsz : 0 < size)
    (v : Value) (n : Nat) (xs : List Value) (hown : w.ownsRow base e size v n xs)
    (A : Option Addr) (m c : Nat) (news : List Value) (hN : LS w (.slice A m c) m news) (hl : news.length = m * size) (h1 : ∀ u ∈ news, u.oneCell' = true)
    (h63 : n + m ≤ maxLen) (hbytes : (n + m) * bytes ≤ 140737488355328) (hbase : base ≤ w.heap.size) :
    ∃ v' w', (Builtin.append_ #[t, t] ty #[v, .slice A m c]).run P w = .ok v' w' ∧ w'.ownsRow base e size v' (n + m) (xs ++ news) ∧ w.grownBy w' v.ownBlock := by
  obtain ⟨A', c', he, _, hc⟩ := hN
  cases he
  cases A with
  | none =>
    have hm : m = 0 := by
      rcases Nat.eq_zero_or_pos m with e | e
      · exact e
      · obtain ⟨b, off, e2, _⟩ := hc e
        cases e2
    subst hm
    have e0 : news = [] := List.length_eq_zero_iff.1 (by rw [hl, Nat.zero_mul])
    subst e0
    have hrun : (Builtin.append_ #[t, t] ty #[v, .slice none 0 c]).run P w = .ok v w := by
      rcases hown.2 with ⟨rfl, rfl⟩ | ⟨g, cap, cur, rfl, _, _, hnc, _⟩
      · simp [Builtin.append_, run_underlying ht, sizeOf, typeInfo, hi, Builtin.lenOf, Builtin.firstCells]
      · simp [Builtin.append_, run_underlying ht, sizeOf, typeInfo, hi, Builtin.lenOf, Builtin.firstCells, hnc, storeCells]
    exact ⟨v, w, hrun, by simpa using hown, ⟨rfl, rfl, rfl, Nat.le_refl _, fun _ _ _ => rfl⟩⟩
  | some ad =>
    obtain ⟨v', w', hr, h2, h3, _⟩ := run_append_own (P := P) w base t ty e i z size bytes ht hi hz hsize hby hzs hsz v n xs hown ad m c news hl (fun j y hj => by
      have hj' := (List.getElem?_eq_some_iff.1 hj).1
      have hm : 0 < m := by
        rcases Nat.eq_zero_or_pos m with e | e
        · subst e; rw [hl, Nat.zero_mul] at hj'; omega
        · exact e
      obtain ⟨b, off, e2, _, hr⟩ := hc hm
      cases e2
      exact (congrArg w.cell? (by simp [Addr.add])).trans (hr j y hj)) h1 h63 hbytes hbase
    exact ⟨v', w', hr, h2, h3⟩
theorem wp_append_ls {o : Oper} {a : Act} {K : Act → World → Prop} {Q : Exit → Act → World → Prop} (s x : Operand) (t : TypeId)
    (ho : o.op = .call { callee := .builtin .append, args := #[s, x], argTypes := #[t, t] })
    (base : Nat) (e : TypeId) (i : TypeInfo) (z : Value) (size bytes : Nat) (ht : P.underlying t = some (.slice e)) (hi : P.info? e = some i) (hz : i.zero = some z)
    (hsize : i.size = size) (hby : i.bytes = bytes) (hzs : z.cells.size = size) (hsz : 0 < size)
    (v : Value) (n : Nat) (xs : List Value) (hs : a.eval s = v) (hown : w.ownsRow base e size v n xs)
    (A : Option Addr) (m c : Nat) (news : List Value) (hx : a.eval x = .slice A m c) (hN : LS w (.slice A m c) m news) (hl : news.length = m * size) (h1 : ∀ u ∈ news, u.oneCell' = true)
    (h63 : n + m ≤ maxLen) (hbytes : (n + m) * bytes ≤ 140737488355328) (hbase : base ≤ w.heap.size)
    (h : ∀ v' w', w'.ownsRow base e size v' (n + m) (xs ++ news) → w.grownBy w' v.ownBlock → K (a.put o.dst v') w') : o.wp P a w K Q := by
  obtain ⟨v', w', hr, h2, h3⟩ := run_append_ls (P := P) base t o.type e i z size bytes ht hi hz hsize hby hzs hsz v n xs hown A m c news hN hl h1 h63 hbytes hbase
  unfold Oper.wp execOp
  simp only [ho, resolve, invoke, builtin, Sem.run_bind, Sem.run_pure, Result.andThen_ok, List.map_toArray, List.map_cons, List.map_nil, hs, hx, hr]
  exact h v' w' h2 h3
theorem wpList_append_ls {ops : Array Oper} {rest : List Oper} {o : Oper} {a : Act} {Q : Exit → Act → World → Prop} (hgd : o.guard = none) (s x : Operand) (t : TypeId)
    (ho : o.op = .call { callee := .builtin .append, args := #[s, x], argTypes := #[t, t] })
    (base : Nat) (e : TypeId) (i : TypeInfo) (z : Value) (size bytes : Nat) (ht : P.underlying t = some (.slice e)) (hi : P.info? e = some i) (hz : i.zero = some z)
    (hsize : i.size = size) (hby : i.bytes = bytes) (hzs : z.cells.size = size) (hsz : 0 < size)
    (v : Value) (n : Nat) (xs : List Value) (hs : a.eval s = v) (hown : w.ownsRow base e size v n xs)
    (A : Option Addr) (m c : Nat) (news : List Value) (hx : a.eval x = .slice A m c) (hN : LS w (.slice A m c) m news) (hl : news.length = m * size) (h1 : ∀ u ∈ news, u.oneCell' = true)
    (h63 : n + m ≤ maxLen) (hbytes : (n + m) * bytes ≤ 140737488355328) (hbase : base ≤ w.heap.size)
    (h : ∀ v' w', w'.ownsRow base e size v' (n + m) (xs ++ news) → w.grownBy w' v.ownBlock → wpList P ops Q rest (a.put o.dst v') w') : wpList P ops Q (o :: rest) a w :=
  wpList_plain hgd fun K hK => wp_append_ls s x t ho base e i z size bytes ht hi hz hsize hby hzs hsz v n xs hs hown A m c news hx hN hl h1 h63 hbytes hbase (fun v' w' a1 a2 => hK _ _ (h v' w' a1 a2))
end
theorem gcs_one (gs : List G3) : ∀ u ∈ gcs gs, u.oneCell' = true := by
  intro u hu
  unfold gcs at hu
  obtain ⟨g, _, hg⟩ := List.mem_flatMap.1 hu
  simp [gc] at hg
  rcases hg with rfl | rfl | rfl <;> rfl
theorem i16s_oneC (xs : List Int) : ∀ u ∈ i16s xs, u.oneCell' = true := by
  intro u hu
  simp only [i16s, List.mem_map] at hu
  obtain ⟨z, _, rfl⟩ := hu
  rfl

set_option maxHeartbeats 2000000 in
theorem cloneG_any (A : Option Addr) (c : Nat) (gs : List G3) (hn : gs.length ≤ 1000) (w : World) (h : LS w (.slice A gs.length c) gs.length (gcs gs)) :
    Calls Tryd.prog 74 #[.slice A gs.length c] w fun e w' => ∃ r, e = .returned r ∧ w'.ownsRow w.heap.size 88 3 r gs.length (gcs gs) ∧ Below w.heap.size w w' := by
  obtain ⟨i0, hi, hz0, hz1, hz2⟩ := info_parts infoGate
  have E0 := Lib.hid (World.ownsRow_made w (e := 88) (size := 3) (base := w.heap.size) #[] 0 (Nat.le_refl _) (Nat.zero_le _) rfl)
  have HS := Lib.hid (h.below ((Below.refl _ w).alloc (Nat.le_refl _) (.cells #[] 88)))
  have q : ∀ (w : World) (a : Option Addr) (n c n' c' : Nat), (binOp .eql 71 (.slice a n c) (.slice none n' c')).run Tryd.prog w = .ok (.bool a.isNone) w := fun w a n c n' c' => Lib.run_eql_slice_nil w _ _ a n c n' c' Tryd.underlying71
  have hl : (gcs gs).length = gs.length * 3 := by rw [gcs_len]
  cases A with
  | none =>
    have hl0 : gs.length = 0 := by
      rcases Nat.eq_zero_or_pos gs.length with e | e
      · exact e
      · obtain ⟨A', c', e1, _, hc⟩ := h
        cases e1
        obtain ⟨b, off, e2, _⟩ := hc e
        cases e2
    have e0 : gs = [] := List.length_eq_zero_iff.1 hl0
    subst e0
    clear h hl0 HS
    show Calls Tryd.prog _ #[.slice none 0 c] w fun e w' => ∃ r, e = .returned r ∧ w'.ownsRow w.heap.size 88 3 r 0 [] ∧ Below w.heap.size w w'
    go_enter Tryd.func74, Tryd.ntmps74
    go_wp2_with fail
    go_ret
    exact ⟨_, rfl, World.ownsRow_nil w w.heap.size 88 3, Below.refl _ _⟩
  | some ad =>
    clear h
    go_enter Tryd.func74, Tryd.ntmps74
    go_wp2_with (at_builtin; refine wpList_append_ls rfl _ _ 71 rfl w.heap.size 88 i0 (.agg #[.int .i8 0, .int .i16 0, .int .i16 0]) 3 6 Tryd.underlying71 hi hz0 hz1 hz2 rfl (by decide) _ 0 _ rfl E0.out _ gs.length c _ rfl HS.out hl (gcs_one gs) (by unfold maxLen; omega) (by omega) (by simp) ?_)
    intro s' wy hown hgrow
    go_wp2_with fail
    go_ret
    refine ⟨_, rfl, by simpa using hown, ((Below.refl _ w).alloc (Nat.le_refl _) _).grown hgrow (by simp) (by intro k hk; simp [Value.ownBlock] at hk; omega)⟩

set_option maxHeartbeats 2000000 in
theorem cloneI_any (A : Option Addr) (c : Nat) (os : List Int) (hn : os.length ≤ 1000) (w : World) (h : LS w (.slice A os.length c) os.length (i16s os)) :
    Calls Tryd.prog 75 #[.slice A os.length c] w fun e w' => ∃ r, e = .returned r ∧ w'.ownsRow w.heap.size 86 1 r os.length (i16s os) ∧ Below w.heap.size w w' := by
  obtain ⟨i0, hi, hz0, hz1, hz2⟩ := info_parts infoI16
  have E0 := Lib.hid (World.ownsRow_made w (e := 86) (size := 1) (base := w.heap.size) #[] 0 (Nat.le_refl _) (Nat.zero_le _) rfl)
  have HS := Lib.hid (h.below ((Below.refl _ w).alloc (Nat.le_refl _) (.cells #[] 86)))
  have q : ∀ (w : World) (a : Option Addr) (n c n' c' : Nat), (binOp .eql 72 (.slice a n c) (.slice none n' c')).run Tryd.prog w = .ok (.bool a.isNone) w := fun w a n c n' c' => Lib.run_eql_slice_nil w _ _ a n c n' c' Tryd.underlying72
  have hl : (i16s os).length = os.length * 1 := by simp
  cases A with
  | none =>
    have hl0 : os.length = 0 := by
      rcases Nat.eq_zero_or_pos os.length with e | e
      · exact e
      · obtain ⟨A', c', e1, _, hc⟩ := h
        cases e1
        obtain ⟨b, off, e2, _⟩ := hc e
        cases e2
    have e0 : os = [] := List.length_eq_zero_iff.1 hl0
    subst e0
    clear h hl0 HS
    show Calls Tryd.prog _ #[.slice none 0 c] w fun e w' => ∃ r, e = .returned r ∧ w'.ownsRow w.heap.size 86 1 r 0 [] ∧ Below w.heap.size w w'
    go_enter Tryd.func75, Tryd.ntmps75
    go_wp2_with fail
    go_ret
    exact ⟨_, rfl, World.ownsRow_nil w w.heap.size 86 1, Below.refl _ _⟩
  | some ad =>
    clear h
    go_enter Tryd.func75, Tryd.ntmps75
    go_wp2_with (at_builtin; refine wpList_append_ls rfl _ _ 72 rfl w.heap.size 86 i0 (.int .i16 0) 1 2 Tryd.underlying72 hi hz0 hz1 hz2 rfl (by decide) _ 0 _ rfl E0.out _ os.length c _ rfl HS.out hl (i16s_oneC os) (by unfold maxLen; omega) (by omega) (by simp) ?_)
    intro s' wy hown hgrow
    go_wp2_with fail
    go_ret
    refine ⟨_, rfl, by simpa using hown, ((Below.refl _ w).alloc (Nat.le_refl _) _).grown hgrow (by simp) (by intro k hk; simp [Value.ownBlock] at hk; omega)⟩

/-- a gate of the other kind -/
def flpG (g : G3) : G3 := (5 - g.1, g.2.1, g.2.2)
def flpV (x : G3) : Value := if joinB x then .tuple #[gv (flpG x), .nilIface] else .tuple #[gv gz, .iface 121 (.agg #[.int .i64 4])]
set_option maxHeartbeats 2000000 in
theorem flipped_any (x : G3) (w : World) : Calls Tryd.prog 73 #[gv x] w fun e w' => e = .returned (flpV x) ∧ Below w.heap.size w w' := by
  obtain ⟨k, a, b⟩ := x
  obtain ⟨a1, a2, hb1, s1⟩ := nw2 w (.cells #[.int .i8 k, .int .i16 a, .int .i16 b] 88) (.cells #[.int .i8 0, .int .i16 0, .int .i16 0] 88)
  by_cases hk : k = 2
  · subst hk
    have T : ((2 : Int) == 2) = true := rfl
    have T2 : ((2 : Int) == 2) = true := rfl
    go_enter Tryd.func73, Tryd.ntmps73
    go_upto_region 1 with fail
    generalize World.alloc (World.alloc w _) _ = w1 at a1 a2 hb1 s1 ⊢
    have m1 : BX w1 w.heap.size (.int .i8 2) (.int .i16 a) (.int .i16 b) := ⟨_, a1⟩
    have m2 : BX w1 (w.heap.size + 1) (.int .i8 0) (.int .i16 0) (.int .i16 0) := ⟨_, a2⟩
    have c0 := m1.c0; have f0 := m1.free 0
    have HB := Lib.hid (hb1.setCell (p := ⟨w.heap.size, 0, none⟩) (Nat.le_refl _) (.int .i8 3))
    have m3 := m1.put0 (.int .i8 3)
    have m4 := m2.other (k := w.heap.size) (o := 0) (by omega) (.int .i8 3)
    have d0 := m3.c0; have d1 := m3.c1; have d2 := m3.c2; have r4 := m4.there
    have M4 := Lib.hid m4
    clear a1 a2 hb1 s1 m1 m2 m3 m4
    go_wp2_with (guard_target =~ wpList _ _ _ (⟨_, Op.store 88 _ _, _, _, _, _⟩ :: _) _ _; refine wpList_store_mid rfl 88 _ _ rfl (w.heap.size + 1) 0 #[.int .i8 3, .int .i16 a, .int .i16 b] rfl rfl r4 (by kernel_rfl) (three_one rfl rfl rfl) ?_)
    obtain ⟨t8, h8⟩ := M4.out.puts (.int .i8 3) (.int .i16 a) (.int .i16 b)
    refine bodyPost_ret (v := .tuple #[.agg #[.int .i8 3, .int .i16 a, .int .i16 b], .nilIface]) ?_ rfl ⟨rfl, bsets (by omega) _ 0 _ HB.out⟩
    exact results_cell_tmp rfl _ _ (w.heap.size + 1) _ _ (0, 0) _ _ rfl rfl h8 Tryd.underlying88 rfl (by kernel_rfl)
  by_cases hk' : k = 3
  · have hk := hk'
    subst hk
    have T : ((3 : Int) == 3) = true := rfl
    have T2 : ((3 : Int) == 2) = false := rfl
    go_enter Tryd.func73, Tryd.ntmps73
    go_upto_region 1 with fail
    generalize World.alloc (World.alloc w _) _ = w1 at a1 a2 hb1 s1 ⊢
    have m1 : BX w1 w.heap.size (.int .i8 3) (.int .i16 a) (.int .i16 b) := ⟨_, a1⟩
    have m2 : BX w1 (w.heap.size + 1) (.int .i8 0) (.int .i16 0) (.int .i16 0) := ⟨_, a2⟩
    have c0 := m1.c0; have f0 := m1.free 0
    have HB := Lib.hid (hb1.setCell (p := ⟨w.heap.size, 0, none⟩) (Nat.le_refl _) (.int .i8 2))
    have m3 := m1.put0 (.int .i8 2)
    have m4 := m2.other (k := w.heap.size) (o := 0) (by omega) (.int .i8 2)
    have d0 := m3.c0; have d1 := m3.c1; have d2 := m3.c2; have r4 := m4.there
    have M4 := Lib.hid m4
    clear a1 a2 hb1 s1 m1 m2 m3 m4
    go_wp2_with (guard_target =~ wpList _ _ _ (⟨_, Op.store 88 _ _, _, _, _, _⟩ :: _) _ _; refine wpList_store_mid rfl 88 _ _ rfl (w.heap.size + 1) 0 #[.int .i8 2, .int .i16 a, .int .i16 b] rfl rfl r4 (by kernel_rfl) (three_one rfl rfl rfl) ?_)
    obtain ⟨t8, h8⟩ := M4.out.puts (.int .i8 2) (.int .i16 a) (.int .i16 b)
    refine bodyPost_ret (v := .tuple #[.agg #[.int .i8 2, .int .i16 a, .int .i16 b], .nilIface]) ?_ rfl ⟨rfl, bsets (by omega) _ 0 _ HB.out⟩
    exact results_cell_tmp rfl _ _ (w.heap.size + 1) _ _ (0, 0) _ _ rfl rfl h8 Tryd.underlying88 rfl (by kernel_rfl)
  have T2 : (k == 2) = false := by simpa using hk
  have T3 : (k == 3) = false := by simpa using hk'
  have HV := Lib.hid (show flpV (k, a, b) = .tuple #[gv gz, .iface 121 (.agg #[.int .i64 4])] from by unfold flpV; rw [if_neg (by simp [joinB, hk, hk'])])
  clear hk hk'
  go_enter Tryd.func73, Tryd.ntmps73
  go_upto_region 1 with fail
  generalize World.alloc (World.alloc w _) _ = w1 at a1 a2 hb1 s1 ⊢
  have m1 : BX w1 w.heap.size (.int .i8 k) (.int .i16 a) (.int .i16 b) := ⟨_, a1⟩
  have m2 : BX w1 (w.heap.size + 1) (.int .i8 0) (.int .i16 0) (.int .i16 0) := ⟨_, a2⟩
  have c0 := m1.c0; have r4 := m2.there
  have M4 := Lib.hid m2; have HB := Lib.hid hb1
  clear a1 a2 hb1 s1 m1 m2
  go_wp2_with (guard_target =~ wpList _ _ _ (⟨_, Op.store 88 _ _, _, _, _, _⟩ :: _) _ _; refine wpList_store_mid rfl 88 _ _ rfl (w.heap.size + 1) 0 #[.int .i8 0, .int .i16 0, .int .i16 0] rfl rfl r4 (by kernel_rfl) (three_one rfl rfl rfl) ?_)
  obtain ⟨t8, h8⟩ := M4.out.puts (.int .i8 0) (.int .i16 0) (.int .i16 0)
  refine bodyPost_ret (v := .tuple #[.agg #[.int .i8 0, .int .i16 0, .int .i16 0], .iface 121 (.agg #[.int .i64 4])]) ?_ rfl ⟨by rw [HV.out]; rfl, bsets (by omega) _ 0 _ HB.out⟩
  exact results_cell_tmp rfl _ _ (w.heap.size + 1) _ _ (0, 0) _ _ rfl rfl h8 Tryd.underlying88 rfl (by kernel_rfl)

end Go.Proofs.YtngaelifkhelbaaDoor
