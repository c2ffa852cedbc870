/-
  errors.As at the refusals of the program; the code of a refusal; a circuit that is opened.
-/
import Derived.Test.YtngaelifkhelbaaDoorAs
import Derived.Test.YtngaelifkhelbaaDoorCg
namespace Go.Proofs.YtngaelifkhelbaaDoor
set_option linter.unusedVariables false
set_option linter.unusedSimpArgs false
open Go.ChangeShapes Go.WideShapes Go.ChangeAt Go.RowKit Go.Deep Go.Extern.Stop Go.Stop Go.Extern

set_option maxRecDepth 100000 in
set_option maxHeartbeats 4000000 in
theorem as_bad (r : Int) (tb : Nat) (w : World) (hE : ET w) (ht : w.there tb 0 1) :
    Calls Tryd.prog 97 #[.iface 121 (.agg #[.int .i64 r]), .iface 123 (.pointer (some ⟨tb, 0, none⟩))] w
      fun e w' => e = .returned (.bool true) ∧ ∃ w1, Below w.heap.size w w1 ∧ w' = w1.setCells tb 0 [.int .i64 r] := by
  have xvo := @run_callFunc_extern Tryd.prog 114 _ (fun args => ReflectliteValue.unpack (args.getD 0 (.tuple #[]))) Tryd.func114 (by kernel_rfl) (by kernel_rfl) (by kernel_rfl) (by kernel_rfl)
  have xty := @run_callFunc_extern Tryd.prog 115 _ (ReflectliteValue.methodAny (ReflectliteValue.valueError "reflectlite.Value.Type" 0) (fun t _ _ _ => ReflectliteType.toType t)) Tryd.func115 (by kernel_rfl) (by kernel_rfl) (by kernel_rfl) (by kernel_rfl)
  have xni := @run_callFunc_extern Tryd.prog 116 _ (ReflectliteValue.method (ReflectliteValue.valueError "reflectlite.Value.IsNil" 0) ReflectliteValue.isNil) Tryd.func116 (by kernel_rfl) (by kernel_rfl) (by kernel_rfl) (by kernel_rfl)
  have xki := @run_callFunc_extern Tryd.prog 139 _ (ReflectliteType.abiMethod fun t => do pure (.int .u8 (← Rtype.kind t))) Tryd.func139 (by kernel_rfl) (by kernel_rfl) (by kernel_rfl) (by kernel_rfl)
  have xel := @run_callFunc_extern Tryd.prog 149 _ (ReflectliteType.method ReflectliteType.elem) Tryd.func149 (by kernel_rfl) (by kernel_rfl) (by kernel_rfl) (by kernel_rfl)
  have xim := @run_callFunc_extern Tryd.prog 150 _ (ReflectliteType.relation "Implements" ReflectliteType.implements_) Tryd.func150 (by kernel_rfl) (by kernel_rfl) (by kernel_rfl) (by kernel_rfl)
  have xto := @run_callFunc_extern Tryd.prog 122 _ (ReflectliteType.typeOf) Tryd.func122 (by kernel_rfl) (by kernel_rfl) (by kernel_rfl) (by kernel_rfl)
  have xas := @run_callFunc_extern Tryd.prog 147 _ (ReflectliteType.relation "AssignableTo" ReflectliteType.assignableTo) Tryd.func147 (by kernel_rfl) (by kernel_rfl) (by kernel_rfl) (by kernel_rfl)
  have xev := @run_callFunc_extern Tryd.prog 123 _ (ReflectliteValue.method (ReflectliteValue.valueError "reflectlite.Value.Elem" 0) ReflectliteValue.elem) Tryd.func123 (by kernel_rfl) (by kernel_rfl) (by kernel_rfl) (by kernel_rfl)
  have xse := @run_callFunc_extern Tryd.prog 124 _ (ReflectliteValue.set) Tryd.func124 (by kernel_rfl) (by kernel_rfl) (by kernel_rfl) (by kernel_rfl)
  have f6 := valueOfP_bad
  have f7 := typeP_bad
  have mK := methodKind
  have mE := methodElem
  have mI := methodImplements
  have k22 := kindP_bad
  have k25 := kindE_bad
  have eP := elemP_bad
  have iE := implementsE_bad
  obtain ⟨q1, q2, q3, q4⟩ := nw2 w (.cells #[.pointer (some ⟨tb, 0, none⟩)] 123) (.cells #[.pointer (some ⟨1, 123, none⟩), .pointer (some ⟨w.heap.size, 0, none⟩), .int .u64 150] 141)
  have c0 : ((w.alloc (.cells #[.pointer (some ⟨tb, 0, none⟩)] 123)).alloc (.cells #[.pointer (some ⟨1, 123, none⟩), .pointer (some ⟨w.heap.size, 0, none⟩), .int .u64 150] 141)).cell? ⟨w.heap.size, 0, none⟩ = some (.pointer (some ⟨tb, 0, none⟩)) := (cell_of_row _ _ _ _ _ _ q1).trans rfl
  have n8 := isNilP_bad ⟨w.heap.size, 0, none⟩ ⟨tb, 0, none⟩ ((w.alloc (.cells #[.pointer (some ⟨tb, 0, none⟩)] 123)).alloc (.cells #[.pointer (some ⟨1, 123, none⟩), .pointer (some ⟨w.heap.size, 0, none⟩), .int .u64 150] 141)) c0
  have hg2 : ((w.alloc (.cells #[.pointer (some ⟨tb, 0, none⟩)] 123)).alloc (.cells #[.pointer (some ⟨1, 123, none⟩), .pointer (some ⟨w.heap.size, 0, none⟩), .int .u64 150] 141)).cell? ⟨0, 0, none⟩ = some (.iface 156 (.agg #[.pointer (some ⟨1, 76, none⟩)])) := (hE.below q3)
  have ht2 := World.there_alloc (World.there_alloc ht (.cells #[.pointer (some ⟨tb, 0, none⟩)] 123)) (.cells #[.pointer (some ⟨1, 123, none⟩), .pointer (some ⟨w.heap.size, 0, none⟩), .int .u64 150] 141)
  have HT := Lib.hid ht2
  have HC := Lib.hid c0
  have Q3 := Lib.hid q3
  have Q4 := Lib.hid q4
  clear q1 q2 q3 q4 ht2 c0 ht hE
  go_enter Tryd.func97, Tryd.ntmps97
  go_wp2_with (go_at_call 117; refine (asIn_bad r w.heap.size tb _ HC.out HT.out).mono ?_; rintro e w' ⟨rfl, w1, hb, rfl⟩)
  go_ret
  exact ⟨rfl, _, Q3.out.trans (hb.mono (by rw [Q4.out]; omega)), rfl⟩
theorem sets_cell {w : World} {g : Nat} {v : Value} (h : w.there g 0 1) : (w.setCells g 0 [v]).cell? ⟨g, 0, none⟩ = some v := by
  have := World.rangeAt_setCells_same w g 0 [v] h
  exact this 0 v rfl
theorem there1 {w : World} {g : Nat} {v : Value} {t : TypeId} (h : w.heap[g]? = some (.cells #[v] t (0, 0))) : w.there g 0 1 := fun j hj => by
  obtain rfl : j = 0 := by omega
  refine ⟨?_, ?_⟩
  · rw [cell_of_row _ _ _ _ _ _ h]; rfl
  · unfold World.frozen?; rw [h]; simp
set_option maxHeartbeats 1000000 in
theorem reasonOf_bad (r : Int) (w : World) (hE : ET w) :
    Calls Tryd.prog 58 #[.iface 121 (.agg #[.int .i64 r])] w fun e w' => e = .returned (.int .i64 r) ∧ Below w.heap.size w w' := by
  obtain ⟨a1, b1, s1⟩ := nw1 w (.cells #[.int .i64 0] 121)
  have hE1 := hE.below b1
  have ht := there1 a1
  have HE1 := Lib.hid hE1; have HT := Lib.hid ht; have B1 := Lib.hid b1; have S1 := Lib.hid s1
  clear a1 b1 s1 hE1 ht hE
  go_enter Tryd.func58, Tryd.ntmps58
  go_wp2_with fail
  refine (as_bad r w.heap.size _ HE1.out HT.out).mono ?_
  rintro e w2 ⟨rfl, w1, hb, rfl⟩
  have ht2 : w1.there w.heap.size 0 1 := fun j hj => by
    obtain rfl : j = 0 := by omega
    have h0 := HT.out 0 (by omega)
    have hlt : w.heap.size < (w.alloc (.cells #[.int .i64 0] 121)).heap.size := by rw [S1.out]; omega
    refine ⟨?_, ?_⟩
    · rw [hb.cell (p := ⟨w.heap.size, 0 + 0, none⟩) hlt]; exact h0.1
    · rw [hb.frozen (p := ⟨w.heap.size, 0 + 0, none⟩) hlt]; exact h0.2
  have c0 := sets_cell (v := .int .i64 r) ht2
  have B2 := Lib.hid (bsets (g := w.heap.size) (Nat.le_refl _) [.int .i64 r] 0 w1 (B1.out.trans (hb.mono (by rw [S1.out]; omega))))
  clear hb ht2
  go_wp2_with fail
  go_ret
  exact ⟨rfl, B2.out⟩
theorem reasonOf_nil (w : World) (hE : ET w) :
    Calls Tryd.prog 58 #[.nilIface] w fun e w' => e = .returned (.int .i64 0) ∧ Below w.heap.size w w' := by
  have B1 := Lib.hid (nw1 w (.cells #[.int .i64 0] 121)).2.1
  go_enter Tryd.func58, Tryd.ntmps58
  go_wp2_with fail
  refine (as_nil _ _).mono ?_
  rintro e w2 ⟨rfl, hw⟩; rw [hw]; clear hw w2
  go_wp2_with fail
  go_ret
  exact ⟨rfl, B1.out⟩
theorem results_cell_tmp {P : Program} {fn : Func} {p q : Tmp} {ty : TypeId} (h : fn.results = #[.cell p ty, .tmp q]) (tmps : Array Value) (w : World) (g : Nat) (t : TypeId) (cs : Array Value) (fr : Nat × Nat) (d : TypeDesc) (v : Value)
    (hp : tmps.getD p undef = .pointer (some ⟨g, 0, none⟩)) (hq : tmps.getD q undef = v) (hg : w.heap[g]? = some (.cells cs t fr))
    (hu : P.underlying ty = some d) (hd : (match d with | .struct _ | .array _ _ => true | _ => false) = true) (hi : (P.info? ty).map (·.size) = some cs.size) :
    (results fn tmps).run P w = .ok (.tuple #[.agg cs, v]) w := by
  have hp' : tmps[p]?.getD undef = .pointer (some ⟨g, 0, none⟩) := by simpa using hp
  have hq' : tmps[q]?.getD undef = v := by simpa using hq
  simp [results, h, hp', hq', asAddr, run_loadVar_row w g t ty cs fr d hg hu hd hi]
/-- what opening a circuit answers: the wiring, or the refusal -/
def opW (b : Bool) (n : Int) (G O : Value) : Value := if b then .tuple #[.agg #[G, .int .i8 n, O], .nilIface] else .tuple #[.agg #[.slice none 0 0, .int .i8 0, .slice none 0 0], .iface 121 (.agg #[.int .i64 1])]
set_option maxRecDepth 100000 in
set_option maxHeartbeats 1000000 in
theorem openCircuit_any (n : Int) (G O : Value) (gs : List G3) (os : List Int) (w : World) (h : CI w (.agg #[.int .i8 n, G, O]) n gs os) :
    Calls Tryd.prog 57 #[.agg #[.int .i8 n, G, O]] w fun e w' => e = .returned (opW (circB n gs os) n G O) ∧ Below w.heap.size w w' := by
  have H := Lib.hid h
  obtain ⟨G', O', e, hn, hg, ho⟩ := h
  simp only [Value.agg.injEq] at e
  simp at e
  obtain ⟨rfl, rfl⟩ := e
  obtain ⟨A, c, rfl⟩ := hg.form
  obtain ⟨A2, c2, rfl⟩ := ho.form
  clear hg ho
  obtain ⟨bv, hbv⟩ : ∃ bv, bv = circB n gs os := ⟨_, rfl⟩
  rw [← hbv]
  have HV := Lib.hid hbv
  clear hbv
  go_enter Tryd.func57, Tryd.ntmps57
  go_wp2_with fail
  obtain ⟨a1, a2, hb1, s1⟩ := nw2 w (.cells #[.int .i8 n, .slice A gs.length c, .slice A2 os.length c2] 33) (.cells #[.slice none 0 0, .int .i8 0, .slice none 0 0] 74)
  generalize World.alloc (World.alloc w _) _ = w1 at a1 a2 hb1 s1 ⊢
  refine (impl_ValidCircuit _ n gs os w1 (H.out.below hb1)).mono ?_
  rintro e w2 ⟨rfl, hb⟩
  rw [← HV.out]
  have m1 : BX w2 w.heap.size _ _ _ := (BX.belowB ⟨_, a1⟩ hb (by omega))
  have m2 : BX w2 (w.heap.size + 1) _ _ _ := (BX.belowB ⟨_, a2⟩ hb (by omega))
  have HB2 := Lib.hid (hb1.trans (hb.mono (by omega)))
  have M2 := Lib.hid m2
  have c0 := m1.c0; have c1 := m1.c1; have c2' := m1.c2
  have r2 := m2.there
  clear a1 a2 hb hb1 m1 m2
  cases bv with
  | true =>
    go_wp2_with (guard_target =~ wpList _ _ _ (⟨_, Op.store 74 _ _, _, _, _, _⟩ :: _) _ _; refine wpList_store_mid rfl 74 _ _ rfl (w.heap.size + 1) 0 #[.slice A gs.length c, .int .i8 n, .slice A2 os.length c2] rfl rfl r2 (by kernel_rfl) (three_one rfl rfl rfl) ?_)
    obtain ⟨t8, h8⟩ := M2.out.puts (.slice A gs.length c) (.int .i8 n) (.slice A2 os.length c2)
    refine bodyPost_ret (v := .tuple #[.agg #[.slice A gs.length c, .int .i8 n, .slice A2 os.length c2], .nilIface]) ?_ rfl ⟨rfl, bsets (by omega) _ 0 w2 HB2.out⟩
    exact results_cell_tmp rfl _ _ (w.heap.size + 1) _ _ (0, 0) _ _ rfl rfl h8 Tryd.underlying74 rfl (by kernel_rfl)
  | false =>
    go_wp2_with (guard_target =~ wpList _ _ _ (⟨_, Op.store 74 _ _, _, _, _, _⟩ :: _) _ _; refine wpList_store_mid rfl 74 _ _ rfl (w.heap.size + 1) 0 #[.slice none 0 0, .int .i8 0, .slice none 0 0] rfl rfl r2 (by kernel_rfl) (three_one rfl rfl rfl) ?_)
    obtain ⟨t8, h8⟩ := M2.out.puts (.slice none 0 0) (.int .i8 0) (.slice none 0 0)
    refine bodyPost_ret (v := .tuple #[.agg #[.slice none 0 0, .int .i8 0, .slice none 0 0], .iface 121 (.agg #[.int .i64 1])]) ?_ rfl ⟨rfl, bsets (by omega) _ 0 w2 HB2.out⟩
    exact results_cell_tmp rfl _ _ (w.heap.size + 1) _ _ (0, 0) _ _ rfl rfl h8 Tryd.underlying74 rfl (by kernel_rfl)

end Go.Proofs.YtngaelifkhelbaaDoor
