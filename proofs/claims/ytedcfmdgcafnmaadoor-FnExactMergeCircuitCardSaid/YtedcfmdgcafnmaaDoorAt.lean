/-
  errors.As at the refusals of the program; the code of a refusal; a circuit that is opened.
-/
import Derived.Test.YtedcfmdgcafnmaaDoorAs
import Derived.Test.YtedcfmdgcafnmaaDoorCg
namespace Go.Proofs.YtedcfmdgcafnmaaDoor
set_option linter.unusedVariables false
set_option linter.unusedSimpArgs false
open Go.ChangeShapes Go.WideShapes Go.ChangeAt Go.RowKit Go.Deep Go.Extern.Stop Go.Stop Go.Extern

set_option maxRecDepth 100000 in
set_option maxHeartbeats 4000000 in
theorem as_bad (r : Int) (tb : Nat) (w : World) (hE : ET w) (ht : w.there tb 0 1) :
    Calls Tryd.prog 61 #[.iface 151 (.agg #[.int .i64 r]), .iface 152 (.pointer (some ⟨tb, 0, none⟩))] w
      fun e w' => e = .returned (.bool true) ∧ ∃ w1, Below w.heap.size w w1 ∧ w' = w1.setCells tb 0 [.int .i64 r] := by
  have xvo := @run_callFunc_extern Tryd.prog 112 _ (fun args => ReflectliteValue.unpack (args.getD 0 (.tuple #[]))) Tryd.func112 (by kernel_rfl) (by kernel_rfl) (by kernel_rfl) (by kernel_rfl)
  have xty := @run_callFunc_extern Tryd.prog 113 _ (ReflectliteValue.methodAny (ReflectliteValue.valueError "reflectlite.Value.Type" 0) (fun t _ _ _ => ReflectliteType.toType t)) Tryd.func113 (by kernel_rfl) (by kernel_rfl) (by kernel_rfl) (by kernel_rfl)
  have xni := @run_callFunc_extern Tryd.prog 114 _ (ReflectliteValue.method (ReflectliteValue.valueError "reflectlite.Value.IsNil" 0) ReflectliteValue.isNil) Tryd.func114 (by kernel_rfl) (by kernel_rfl) (by kernel_rfl) (by kernel_rfl)
  have xki := @run_callFunc_extern Tryd.prog 208 _ (ReflectliteType.abiMethod fun t => do pure (.int .u8 (← Rtype.kind t))) Tryd.func208 (by kernel_rfl) (by kernel_rfl) (by kernel_rfl) (by kernel_rfl)
  have xel := @run_callFunc_extern Tryd.prog 221 _ (ReflectliteType.method ReflectliteType.elem) Tryd.func221 (by kernel_rfl) (by kernel_rfl) (by kernel_rfl) (by kernel_rfl)
  have xim := @run_callFunc_extern Tryd.prog 222 _ (ReflectliteType.relation "Implements" ReflectliteType.implements_) Tryd.func222 (by kernel_rfl) (by kernel_rfl) (by kernel_rfl) (by kernel_rfl)
  have xto := @run_callFunc_extern Tryd.prog 145 _ (ReflectliteType.typeOf) Tryd.func145 (by kernel_rfl) (by kernel_rfl) (by kernel_rfl) (by kernel_rfl)
  have xas := @run_callFunc_extern Tryd.prog 219 _ (ReflectliteType.relation "AssignableTo" ReflectliteType.assignableTo) Tryd.func219 (by kernel_rfl) (by kernel_rfl) (by kernel_rfl) (by kernel_rfl)
  have xev := @run_callFunc_extern Tryd.prog 146 _ (ReflectliteValue.method (ReflectliteValue.valueError "reflectlite.Value.Elem" 0) ReflectliteValue.elem) Tryd.func146 (by kernel_rfl) (by kernel_rfl) (by kernel_rfl) (by kernel_rfl)
  have xse := @run_callFunc_extern Tryd.prog 147 _ (ReflectliteValue.set) Tryd.func147 (by kernel_rfl) (by kernel_rfl) (by kernel_rfl) (by kernel_rfl)
  have f6 := valueOfP_bad
  have f7 := typeP_bad
  have mK := methodKind
  have mE := methodElem
  have mI := methodImplements
  have k22 := kindP_bad
  have k25 := kindE_bad
  have eP := elemP_bad
  have iE := implementsE_bad
  obtain ⟨q1, q2, q3, q4⟩ := nw2 w (.cells #[.pointer (some ⟨tb, 0, none⟩)] 152) (.cells #[.pointer (some ⟨9, 152, none⟩), .pointer (some ⟨w.heap.size, 0, none⟩), .int .u64 150] 165)
  have c0 : ((w.alloc (.cells #[.pointer (some ⟨tb, 0, none⟩)] 152)).alloc (.cells #[.pointer (some ⟨9, 152, none⟩), .pointer (some ⟨w.heap.size, 0, none⟩), .int .u64 150] 165)).cell? ⟨w.heap.size, 0, none⟩ = some (.pointer (some ⟨tb, 0, none⟩)) := (cell_of_row _ _ _ _ _ _ q1).trans rfl
  have n8 := isNilP_bad ⟨w.heap.size, 0, none⟩ ⟨tb, 0, none⟩ ((w.alloc (.cells #[.pointer (some ⟨tb, 0, none⟩)] 152)).alloc (.cells #[.pointer (some ⟨9, 152, none⟩), .pointer (some ⟨w.heap.size, 0, none⟩), .int .u64 150] 165)) c0
  have hg2 : ((w.alloc (.cells #[.pointer (some ⟨tb, 0, none⟩)] 152)).alloc (.cells #[.pointer (some ⟨9, 152, none⟩), .pointer (some ⟨w.heap.size, 0, none⟩), .int .u64 150] 165)).cell? ⟨0, 0, none⟩ = some (.iface 210 (.agg #[.pointer (some ⟨9, 76, none⟩)])) := (hE.below q3)
  have ht2 := World.there_alloc (World.there_alloc ht (.cells #[.pointer (some ⟨tb, 0, none⟩)] 152)) (.cells #[.pointer (some ⟨9, 152, none⟩), .pointer (some ⟨w.heap.size, 0, none⟩), .int .u64 150] 165)
  have HT := Lib.hid ht2
  have HC := Lib.hid c0
  have Q3 := Lib.hid q3
  have Q4 := Lib.hid q4
  clear q1 q2 q3 q4 ht2 c0 ht hE
  go_enter Tryd.func61, Tryd.ntmps61
  go_wp2_with (go_at_call 115; refine (asIn_bad r w.heap.size tb _ HC.out HT.out).mono ?_; rintro e w' ⟨rfl, w1, hb, rfl⟩)
  go_ret
  exact ⟨rfl, _, Q3.out.trans (hb.mono (by rw [Q4.out]; omega)), rfl⟩
set_option maxRecDepth 100000 in
set_option maxHeartbeats 4000000 in
theorem as_wrong (a b : Int) (tb : Nat) (w : World) (hE : ET w) (ht : w.there tb 0 2) :
    Calls Tryd.prog 61 #[.iface 91 (.agg #[.int .u16 a, .int .u16 b]), .iface 95 (.pointer (some ⟨tb, 0, none⟩))] w
      fun e w' => e = .returned (.bool true) ∧ ∃ w1, Below w.heap.size w w1 ∧ w' = w1.setCells tb 0 [.int .u16 a, .int .u16 b] := by
  have xvo := @run_callFunc_extern Tryd.prog 112 _ (fun args => ReflectliteValue.unpack (args.getD 0 (.tuple #[]))) Tryd.func112 (by kernel_rfl) (by kernel_rfl) (by kernel_rfl) (by kernel_rfl)
  have xty := @run_callFunc_extern Tryd.prog 113 _ (ReflectliteValue.methodAny (ReflectliteValue.valueError "reflectlite.Value.Type" 0) (fun t _ _ _ => ReflectliteType.toType t)) Tryd.func113 (by kernel_rfl) (by kernel_rfl) (by kernel_rfl) (by kernel_rfl)
  have xni := @run_callFunc_extern Tryd.prog 114 _ (ReflectliteValue.method (ReflectliteValue.valueError "reflectlite.Value.IsNil" 0) ReflectliteValue.isNil) Tryd.func114 (by kernel_rfl) (by kernel_rfl) (by kernel_rfl) (by kernel_rfl)
  have xki := @run_callFunc_extern Tryd.prog 208 _ (ReflectliteType.abiMethod fun t => do pure (.int .u8 (← Rtype.kind t))) Tryd.func208 (by kernel_rfl) (by kernel_rfl) (by kernel_rfl) (by kernel_rfl)
  have xel := @run_callFunc_extern Tryd.prog 221 _ (ReflectliteType.method ReflectliteType.elem) Tryd.func221 (by kernel_rfl) (by kernel_rfl) (by kernel_rfl) (by kernel_rfl)
  have xim := @run_callFunc_extern Tryd.prog 222 _ (ReflectliteType.relation "Implements" ReflectliteType.implements_) Tryd.func222 (by kernel_rfl) (by kernel_rfl) (by kernel_rfl) (by kernel_rfl)
  have xto := @run_callFunc_extern Tryd.prog 145 _ (ReflectliteType.typeOf) Tryd.func145 (by kernel_rfl) (by kernel_rfl) (by kernel_rfl) (by kernel_rfl)
  have xas := @run_callFunc_extern Tryd.prog 219 _ (ReflectliteType.relation "AssignableTo" ReflectliteType.assignableTo) Tryd.func219 (by kernel_rfl) (by kernel_rfl) (by kernel_rfl) (by kernel_rfl)
  have xev := @run_callFunc_extern Tryd.prog 146 _ (ReflectliteValue.method (ReflectliteValue.valueError "reflectlite.Value.Elem" 0) ReflectliteValue.elem) Tryd.func146 (by kernel_rfl) (by kernel_rfl) (by kernel_rfl) (by kernel_rfl)
  have xse := @run_callFunc_extern Tryd.prog 147 _ (ReflectliteValue.set) Tryd.func147 (by kernel_rfl) (by kernel_rfl) (by kernel_rfl) (by kernel_rfl)
  have f6 := valueOfP_wrong
  have f7 := typeP_wrong
  have mK := methodKind
  have mE := methodElem
  have mI := methodImplements
  have k22 := kindP_wrong
  have k25 := kindE_wrong
  have eP := elemP_wrong
  have iE := implementsE_wrong
  obtain ⟨q1, q2, q3, q4⟩ := nw2 w (.cells #[.pointer (some ⟨tb, 0, none⟩)] 95) (.cells #[.pointer (some ⟨9, 95, none⟩), .pointer (some ⟨w.heap.size, 0, none⟩), .int .u64 150] 165)
  have c0 : ((w.alloc (.cells #[.pointer (some ⟨tb, 0, none⟩)] 95)).alloc (.cells #[.pointer (some ⟨9, 95, none⟩), .pointer (some ⟨w.heap.size, 0, none⟩), .int .u64 150] 165)).cell? ⟨w.heap.size, 0, none⟩ = some (.pointer (some ⟨tb, 0, none⟩)) := (cell_of_row _ _ _ _ _ _ q1).trans rfl
  have n8 := isNilP_wrong ⟨w.heap.size, 0, none⟩ ⟨tb, 0, none⟩ ((w.alloc (.cells #[.pointer (some ⟨tb, 0, none⟩)] 95)).alloc (.cells #[.pointer (some ⟨9, 95, none⟩), .pointer (some ⟨w.heap.size, 0, none⟩), .int .u64 150] 165)) c0
  have hg2 : ((w.alloc (.cells #[.pointer (some ⟨tb, 0, none⟩)] 95)).alloc (.cells #[.pointer (some ⟨9, 95, none⟩), .pointer (some ⟨w.heap.size, 0, none⟩), .int .u64 150] 165)).cell? ⟨0, 0, none⟩ = some (.iface 210 (.agg #[.pointer (some ⟨9, 76, none⟩)])) := (hE.below q3)
  have ht2 := World.there_alloc (World.there_alloc ht (.cells #[.pointer (some ⟨tb, 0, none⟩)] 95)) (.cells #[.pointer (some ⟨9, 95, none⟩), .pointer (some ⟨w.heap.size, 0, none⟩), .int .u64 150] 165)
  have HT := Lib.hid ht2
  have HC := Lib.hid c0
  have Q3 := Lib.hid q3
  have Q4 := Lib.hid q4
  clear q1 q2 q3 q4 ht2 c0 ht hE
  go_enter Tryd.func61, Tryd.ntmps61
  go_wp2_with (go_at_call 115; refine (asIn_wrong a b w.heap.size tb _ HC.out HT.out).mono ?_; rintro e w' ⟨rfl, w1, hb, rfl⟩)
  go_ret
  exact ⟨rfl, _, Q3.out.trans (hb.mono (by rw [Q4.out]; omega)), rfl⟩
set_option maxRecDepth 100000 in
set_option maxHeartbeats 4000000 in
theorem as_misfit  (tb : Nat) (w : World) (hE : ET w) (ht : w.there tb 0 0) :
    Calls Tryd.prog 61 #[.iface 93 (.agg #[]), .iface 96 (.pointer (some ⟨tb, 0, none⟩))] w
      fun e w' => e = .returned (.bool true) ∧ ∃ w1, Below w.heap.size w w1 ∧ w' = w1.setCells tb 0 [] := by
  have xvo := @run_callFunc_extern Tryd.prog 112 _ (fun args => ReflectliteValue.unpack (args.getD 0 (.tuple #[]))) Tryd.func112 (by kernel_rfl) (by kernel_rfl) (by kernel_rfl) (by kernel_rfl)
  have xty := @run_callFunc_extern Tryd.prog 113 _ (ReflectliteValue.methodAny (ReflectliteValue.valueError "reflectlite.Value.Type" 0) (fun t _ _ _ => ReflectliteType.toType t)) Tryd.func113 (by kernel_rfl) (by kernel_rfl) (by kernel_rfl) (by kernel_rfl)
  have xni := @run_callFunc_extern Tryd.prog 114 _ (ReflectliteValue.method (ReflectliteValue.valueError "reflectlite.Value.IsNil" 0) ReflectliteValue.isNil) Tryd.func114 (by kernel_rfl) (by kernel_rfl) (by kernel_rfl) (by kernel_rfl)
  have xki := @run_callFunc_extern Tryd.prog 208 _ (ReflectliteType.abiMethod fun t => do pure (.int .u8 (← Rtype.kind t))) Tryd.func208 (by kernel_rfl) (by kernel_rfl) (by kernel_rfl) (by kernel_rfl)
  have xel := @run_callFunc_extern Tryd.prog 221 _ (ReflectliteType.method ReflectliteType.elem) Tryd.func221 (by kernel_rfl) (by kernel_rfl) (by kernel_rfl) (by kernel_rfl)
  have xim := @run_callFunc_extern Tryd.prog 222 _ (ReflectliteType.relation "Implements" ReflectliteType.implements_) Tryd.func222 (by kernel_rfl) (by kernel_rfl) (by kernel_rfl) (by kernel_rfl)
  have xto := @run_callFunc_extern Tryd.prog 145 _ (ReflectliteType.typeOf) Tryd.func145 (by kernel_rfl) (by kernel_rfl) (by kernel_rfl) (by kernel_rfl)
  have xas := @run_callFunc_extern Tryd.prog 219 _ (ReflectliteType.relation "AssignableTo" ReflectliteType.assignableTo) Tryd.func219 (by kernel_rfl) (by kernel_rfl) (by kernel_rfl) (by kernel_rfl)
  have xev := @run_callFunc_extern Tryd.prog 146 _ (ReflectliteValue.method (ReflectliteValue.valueError "reflectlite.Value.Elem" 0) ReflectliteValue.elem) Tryd.func146 (by kernel_rfl) (by kernel_rfl) (by kernel_rfl) (by kernel_rfl)
  have xse := @run_callFunc_extern Tryd.prog 147 _ (ReflectliteValue.set) Tryd.func147 (by kernel_rfl) (by kernel_rfl) (by kernel_rfl) (by kernel_rfl)
  have f6 := valueOfP_misfit
  have f7 := typeP_misfit
  have mK := methodKind
  have mE := methodElem
  have mI := methodImplements
  have k22 := kindP_misfit
  have k25 := kindE_misfit
  have eP := elemP_misfit
  have iE := implementsE_misfit
  obtain ⟨q1, q2, q3, q4⟩ := nw2 w (.cells #[.pointer (some ⟨tb, 0, none⟩)] 96) (.cells #[.pointer (some ⟨9, 96, none⟩), .pointer (some ⟨w.heap.size, 0, none⟩), .int .u64 150] 165)
  have c0 : ((w.alloc (.cells #[.pointer (some ⟨tb, 0, none⟩)] 96)).alloc (.cells #[.pointer (some ⟨9, 96, none⟩), .pointer (some ⟨w.heap.size, 0, none⟩), .int .u64 150] 165)).cell? ⟨w.heap.size, 0, none⟩ = some (.pointer (some ⟨tb, 0, none⟩)) := (cell_of_row _ _ _ _ _ _ q1).trans rfl
  have n8 := isNilP_misfit ⟨w.heap.size, 0, none⟩ ⟨tb, 0, none⟩ ((w.alloc (.cells #[.pointer (some ⟨tb, 0, none⟩)] 96)).alloc (.cells #[.pointer (some ⟨9, 96, none⟩), .pointer (some ⟨w.heap.size, 0, none⟩), .int .u64 150] 165)) c0
  have hg2 : ((w.alloc (.cells #[.pointer (some ⟨tb, 0, none⟩)] 96)).alloc (.cells #[.pointer (some ⟨9, 96, none⟩), .pointer (some ⟨w.heap.size, 0, none⟩), .int .u64 150] 165)).cell? ⟨0, 0, none⟩ = some (.iface 210 (.agg #[.pointer (some ⟨9, 76, none⟩)])) := (hE.below q3)
  have ht2 := World.there_alloc (World.there_alloc ht (.cells #[.pointer (some ⟨tb, 0, none⟩)] 96)) (.cells #[.pointer (some ⟨9, 96, none⟩), .pointer (some ⟨w.heap.size, 0, none⟩), .int .u64 150] 165)
  have HT := Lib.hid ht2
  have HC := Lib.hid c0
  have Q3 := Lib.hid q3
  have Q4 := Lib.hid q4
  clear q1 q2 q3 q4 ht2 c0 ht hE
  go_enter Tryd.func61, Tryd.ntmps61
  go_wp2_with (go_at_call 115; refine (asIn_misfit  w.heap.size tb _ HC.out HT.out).mono ?_; rintro e w' ⟨rfl, w1, hb, rfl⟩)
  go_ret
  exact ⟨rfl, _, Q3.out.trans (hb.mono (by rw [Q4.out]; omega)), rfl⟩
set_option maxRecDepth 100000 in
set_option maxHeartbeats 4000000 in
theorem asMiss_bad_wrong (r : Int) (tb : Nat) (w : World) (hE : ET w) :
    Calls Tryd.prog 61 #[.iface 151 (.agg #[.int .i64 r]), .iface 95 (.pointer (some ⟨tb, 0, none⟩))] w
      fun e w' => e = .returned (.bool false) ∧ Below w.heap.size w w' := by
  have xvo := @run_callFunc_extern Tryd.prog 112 _ (fun args => ReflectliteValue.unpack (args.getD 0 (.tuple #[]))) Tryd.func112 (by kernel_rfl) (by kernel_rfl) (by kernel_rfl) (by kernel_rfl)
  have xty := @run_callFunc_extern Tryd.prog 113 _ (ReflectliteValue.methodAny (ReflectliteValue.valueError "reflectlite.Value.Type" 0) (fun t _ _ _ => ReflectliteType.toType t)) Tryd.func113 (by kernel_rfl) (by kernel_rfl) (by kernel_rfl) (by kernel_rfl)
  have xni := @run_callFunc_extern Tryd.prog 114 _ (ReflectliteValue.method (ReflectliteValue.valueError "reflectlite.Value.IsNil" 0) ReflectliteValue.isNil) Tryd.func114 (by kernel_rfl) (by kernel_rfl) (by kernel_rfl) (by kernel_rfl)
  have xki := @run_callFunc_extern Tryd.prog 208 _ (ReflectliteType.abiMethod fun t => do pure (.int .u8 (← Rtype.kind t))) Tryd.func208 (by kernel_rfl) (by kernel_rfl) (by kernel_rfl) (by kernel_rfl)
  have xel := @run_callFunc_extern Tryd.prog 221 _ (ReflectliteType.method ReflectliteType.elem) Tryd.func221 (by kernel_rfl) (by kernel_rfl) (by kernel_rfl) (by kernel_rfl)
  have xim := @run_callFunc_extern Tryd.prog 222 _ (ReflectliteType.relation "Implements" ReflectliteType.implements_) Tryd.func222 (by kernel_rfl) (by kernel_rfl) (by kernel_rfl) (by kernel_rfl)
  have xto := @run_callFunc_extern Tryd.prog 145 _ (ReflectliteType.typeOf) Tryd.func145 (by kernel_rfl) (by kernel_rfl) (by kernel_rfl) (by kernel_rfl)
  have xas := @run_callFunc_extern Tryd.prog 219 _ (ReflectliteType.relation "AssignableTo" ReflectliteType.assignableTo) Tryd.func219 (by kernel_rfl) (by kernel_rfl) (by kernel_rfl) (by kernel_rfl)
  have xev := @run_callFunc_extern Tryd.prog 146 _ (ReflectliteValue.method (ReflectliteValue.valueError "reflectlite.Value.Elem" 0) ReflectliteValue.elem) Tryd.func146 (by kernel_rfl) (by kernel_rfl) (by kernel_rfl) (by kernel_rfl)
  have xse := @run_callFunc_extern Tryd.prog 147 _ (ReflectliteValue.set) Tryd.func147 (by kernel_rfl) (by kernel_rfl) (by kernel_rfl) (by kernel_rfl)
  have f6 := valueOfP_wrong
  have f7 := typeP_wrong
  have mK := methodKind
  have mE := methodElem
  have mI := methodImplements
  have k22 := kindP_wrong
  have k25 := kindE_wrong
  have eP := elemP_wrong
  have iE := implementsE_wrong
  obtain ⟨q1, q2, q3, q4⟩ := nw2 w (.cells #[.pointer (some ⟨tb, 0, none⟩)] 95) (.cells #[.pointer (some ⟨9, 95, none⟩), .pointer (some ⟨w.heap.size, 0, none⟩), .int .u64 150] 165)
  have c0 : ((w.alloc (.cells #[.pointer (some ⟨tb, 0, none⟩)] 95)).alloc (.cells #[.pointer (some ⟨9, 95, none⟩), .pointer (some ⟨w.heap.size, 0, none⟩), .int .u64 150] 165)).cell? ⟨w.heap.size, 0, none⟩ = some (.pointer (some ⟨tb, 0, none⟩)) := (cell_of_row _ _ _ _ _ _ q1).trans rfl
  have n8 := isNilP_wrong ⟨w.heap.size, 0, none⟩ ⟨tb, 0, none⟩ ((w.alloc (.cells #[.pointer (some ⟨tb, 0, none⟩)] 95)).alloc (.cells #[.pointer (some ⟨9, 95, none⟩), .pointer (some ⟨w.heap.size, 0, none⟩), .int .u64 150] 165)) c0
  have hg2 : ((w.alloc (.cells #[.pointer (some ⟨tb, 0, none⟩)] 95)).alloc (.cells #[.pointer (some ⟨9, 95, none⟩), .pointer (some ⟨w.heap.size, 0, none⟩), .int .u64 150] 165)).cell? ⟨0, 0, none⟩ = some (.iface 210 (.agg #[.pointer (some ⟨9, 76, none⟩)])) := (hE.below q3)
  have Q3 := Lib.hid q3
  clear q1 q2 q3 q4 c0 hE
  go_enter Tryd.func61, Tryd.ntmps61
  go_wp2_with (go_at_call 115; refine (asInMiss_bad_wrong r w.heap.size tb _).mono ?_; rintro e w' ⟨rfl, hb⟩)
  go_ret
  exact ⟨rfl, Q3.out.trans (hb.mono Q3.out.size)⟩
set_option maxRecDepth 100000 in
set_option maxHeartbeats 4000000 in
theorem asMiss_bad_misfit (r : Int) (tb : Nat) (w : World) (hE : ET w) :
    Calls Tryd.prog 61 #[.iface 151 (.agg #[.int .i64 r]), .iface 96 (.pointer (some ⟨tb, 0, none⟩))] w
      fun e w' => e = .returned (.bool false) ∧ Below w.heap.size w w' := by
  have xvo := @run_callFunc_extern Tryd.prog 112 _ (fun args => ReflectliteValue.unpack (args.getD 0 (.tuple #[]))) Tryd.func112 (by kernel_rfl) (by kernel_rfl) (by kernel_rfl) (by kernel_rfl)
  have xty := @run_callFunc_extern Tryd.prog 113 _ (ReflectliteValue.methodAny (ReflectliteValue.valueError "reflectlite.Value.Type" 0) (fun t _ _ _ => ReflectliteType.toType t)) Tryd.func113 (by kernel_rfl) (by kernel_rfl) (by kernel_rfl) (by kernel_rfl)
  have xni := @run_callFunc_extern Tryd.prog 114 _ (ReflectliteValue.method (ReflectliteValue.valueError "reflectlite.Value.IsNil" 0) ReflectliteValue.isNil) Tryd.func114 (by kernel_rfl) (by kernel_rfl) (by kernel_rfl) (by kernel_rfl)
  have xki := @run_callFunc_extern Tryd.prog 208 _ (ReflectliteType.abiMethod fun t => do pure (.int .u8 (← Rtype.kind t))) Tryd.func208 (by kernel_rfl) (by kernel_rfl) (by kernel_rfl) (by kernel_rfl)
  have xel := @run_callFunc_extern Tryd.prog 221 _ (ReflectliteType.method ReflectliteType.elem) Tryd.func221 (by kernel_rfl) (by kernel_rfl) (by kernel_rfl) (by kernel_rfl)
  have xim := @run_callFunc_extern Tryd.prog 222 _ (ReflectliteType.relation "Implements" ReflectliteType.implements_) Tryd.func222 (by kernel_rfl) (by kernel_rfl) (by kernel_rfl) (by kernel_rfl)
  have xto := @run_callFunc_extern Tryd.prog 145 _ (ReflectliteType.typeOf) Tryd.func145 (by kernel_rfl) (by kernel_rfl) (by kernel_rfl) (by kernel_rfl)
  have xas := @run_callFunc_extern Tryd.prog 219 _ (ReflectliteType.relation "AssignableTo" ReflectliteType.assignableTo) Tryd.func219 (by kernel_rfl) (by kernel_rfl) (by kernel_rfl) (by kernel_rfl)
  have xev := @run_callFunc_extern Tryd.prog 146 _ (ReflectliteValue.method (ReflectliteValue.valueError "reflectlite.Value.Elem" 0) ReflectliteValue.elem) Tryd.func146 (by kernel_rfl) (by kernel_rfl) (by kernel_rfl) (by kernel_rfl)
  have xse := @run_callFunc_extern Tryd.prog 147 _ (ReflectliteValue.set) Tryd.func147 (by kernel_rfl) (by kernel_rfl) (by kernel_rfl) (by kernel_rfl)
  have f6 := valueOfP_misfit
  have f7 := typeP_misfit
  have mK := methodKind
  have mE := methodElem
  have mI := methodImplements
  have k22 := kindP_misfit
  have k25 := kindE_misfit
  have eP := elemP_misfit
  have iE := implementsE_misfit
  obtain ⟨q1, q2, q3, q4⟩ := nw2 w (.cells #[.pointer (some ⟨tb, 0, none⟩)] 96) (.cells #[.pointer (some ⟨9, 96, none⟩), .pointer (some ⟨w.heap.size, 0, none⟩), .int .u64 150] 165)
  have c0 : ((w.alloc (.cells #[.pointer (some ⟨tb, 0, none⟩)] 96)).alloc (.cells #[.pointer (some ⟨9, 96, none⟩), .pointer (some ⟨w.heap.size, 0, none⟩), .int .u64 150] 165)).cell? ⟨w.heap.size, 0, none⟩ = some (.pointer (some ⟨tb, 0, none⟩)) := (cell_of_row _ _ _ _ _ _ q1).trans rfl
  have n8 := isNilP_misfit ⟨w.heap.size, 0, none⟩ ⟨tb, 0, none⟩ ((w.alloc (.cells #[.pointer (some ⟨tb, 0, none⟩)] 96)).alloc (.cells #[.pointer (some ⟨9, 96, none⟩), .pointer (some ⟨w.heap.size, 0, none⟩), .int .u64 150] 165)) c0
  have hg2 : ((w.alloc (.cells #[.pointer (some ⟨tb, 0, none⟩)] 96)).alloc (.cells #[.pointer (some ⟨9, 96, none⟩), .pointer (some ⟨w.heap.size, 0, none⟩), .int .u64 150] 165)).cell? ⟨0, 0, none⟩ = some (.iface 210 (.agg #[.pointer (some ⟨9, 76, none⟩)])) := (hE.below q3)
  have Q3 := Lib.hid q3
  clear q1 q2 q3 q4 c0 hE
  go_enter Tryd.func61, Tryd.ntmps61
  go_wp2_with (go_at_call 115; refine (asInMiss_bad_misfit r w.heap.size tb _).mono ?_; rintro e w' ⟨rfl, hb⟩)
  go_ret
  exact ⟨rfl, Q3.out.trans (hb.mono Q3.out.size)⟩
set_option maxRecDepth 100000 in
set_option maxHeartbeats 4000000 in
theorem asMiss_wrong_bad (a b : Int) (tb : Nat) (w : World) (hE : ET w) :
    Calls Tryd.prog 61 #[.iface 91 (.agg #[.int .u16 a, .int .u16 b]), .iface 152 (.pointer (some ⟨tb, 0, none⟩))] w
      fun e w' => e = .returned (.bool false) ∧ Below w.heap.size w w' := by
  have xvo := @run_callFunc_extern Tryd.prog 112 _ (fun args => ReflectliteValue.unpack (args.getD 0 (.tuple #[]))) Tryd.func112 (by kernel_rfl) (by kernel_rfl) (by kernel_rfl) (by kernel_rfl)
  have xty := @run_callFunc_extern Tryd.prog 113 _ (ReflectliteValue.methodAny (ReflectliteValue.valueError "reflectlite.Value.Type" 0) (fun t _ _ _ => ReflectliteType.toType t)) Tryd.func113 (by kernel_rfl) (by kernel_rfl) (by kernel_rfl) (by kernel_rfl)
  have xni := @run_callFunc_extern Tryd.prog 114 _ (ReflectliteValue.method (ReflectliteValue.valueError "reflectlite.Value.IsNil" 0) ReflectliteValue.isNil) Tryd.func114 (by kernel_rfl) (by kernel_rfl) (by kernel_rfl) (by kernel_rfl)
  have xki := @run_callFunc_extern Tryd.prog 208 _ (ReflectliteType.abiMethod fun t => do pure (.int .u8 (← Rtype.kind t))) Tryd.func208 (by kernel_rfl) (by kernel_rfl) (by kernel_rfl) (by kernel_rfl)
  have xel := @run_callFunc_extern Tryd.prog 221 _ (ReflectliteType.method ReflectliteType.elem) Tryd.func221 (by kernel_rfl) (by kernel_rfl) (by kernel_rfl) (by kernel_rfl)
  have xim := @run_callFunc_extern Tryd.prog 222 _ (ReflectliteType.relation "Implements" ReflectliteType.implements_) Tryd.func222 (by kernel_rfl) (by kernel_rfl) (by kernel_rfl) (by kernel_rfl)
  have xto := @run_callFunc_extern Tryd.prog 145 _ (ReflectliteType.typeOf) Tryd.func145 (by kernel_rfl) (by kernel_rfl) (by kernel_rfl) (by kernel_rfl)
  have xas := @run_callFunc_extern Tryd.prog 219 _ (ReflectliteType.relation "AssignableTo" ReflectliteType.assignableTo) Tryd.func219 (by kernel_rfl) (by kernel_rfl) (by kernel_rfl) (by kernel_rfl)
  have xev := @run_callFunc_extern Tryd.prog 146 _ (ReflectliteValue.method (ReflectliteValue.valueError "reflectlite.Value.Elem" 0) ReflectliteValue.elem) Tryd.func146 (by kernel_rfl) (by kernel_rfl) (by kernel_rfl) (by kernel_rfl)
  have xse := @run_callFunc_extern Tryd.prog 147 _ (ReflectliteValue.set) Tryd.func147 (by kernel_rfl) (by kernel_rfl) (by kernel_rfl) (by kernel_rfl)
  have f6 := valueOfP_bad
  have f7 := typeP_bad
  have mK := methodKind
  have mE := methodElem
  have mI := methodImplements
  have k22 := kindP_bad
  have k25 := kindE_bad
  have eP := elemP_bad
  have iE := implementsE_bad
  obtain ⟨q1, q2, q3, q4⟩ := nw2 w (.cells #[.pointer (some ⟨tb, 0, none⟩)] 152) (.cells #[.pointer (some ⟨9, 152, none⟩), .pointer (some ⟨w.heap.size, 0, none⟩), .int .u64 150] 165)
  have c0 : ((w.alloc (.cells #[.pointer (some ⟨tb, 0, none⟩)] 152)).alloc (.cells #[.pointer (some ⟨9, 152, none⟩), .pointer (some ⟨w.heap.size, 0, none⟩), .int .u64 150] 165)).cell? ⟨w.heap.size, 0, none⟩ = some (.pointer (some ⟨tb, 0, none⟩)) := (cell_of_row _ _ _ _ _ _ q1).trans rfl
  have n8 := isNilP_bad ⟨w.heap.size, 0, none⟩ ⟨tb, 0, none⟩ ((w.alloc (.cells #[.pointer (some ⟨tb, 0, none⟩)] 152)).alloc (.cells #[.pointer (some ⟨9, 152, none⟩), .pointer (some ⟨w.heap.size, 0, none⟩), .int .u64 150] 165)) c0
  have hg2 : ((w.alloc (.cells #[.pointer (some ⟨tb, 0, none⟩)] 152)).alloc (.cells #[.pointer (some ⟨9, 152, none⟩), .pointer (some ⟨w.heap.size, 0, none⟩), .int .u64 150] 165)).cell? ⟨0, 0, none⟩ = some (.iface 210 (.agg #[.pointer (some ⟨9, 76, none⟩)])) := (hE.below q3)
  have Q3 := Lib.hid q3
  clear q1 q2 q3 q4 c0 hE
  go_enter Tryd.func61, Tryd.ntmps61
  go_wp2_with (go_at_call 115; refine (asInMiss_wrong_bad a b w.heap.size tb _).mono ?_; rintro e w' ⟨rfl, hb⟩)
  go_ret
  exact ⟨rfl, Q3.out.trans (hb.mono Q3.out.size)⟩
set_option maxRecDepth 100000 in
set_option maxHeartbeats 4000000 in
theorem asMiss_wrong_misfit (a b : Int) (tb : Nat) (w : World) (hE : ET w) :
    Calls Tryd.prog 61 #[.iface 91 (.agg #[.int .u16 a, .int .u16 b]), .iface 96 (.pointer (some ⟨tb, 0, none⟩))] w
      fun e w' => e = .returned (.bool false) ∧ Below w.heap.size w w' := by
  have xvo := @run_callFunc_extern Tryd.prog 112 _ (fun args => ReflectliteValue.unpack (args.getD 0 (.tuple #[]))) Tryd.func112 (by kernel_rfl) (by kernel_rfl) (by kernel_rfl) (by kernel_rfl)
  have xty := @run_callFunc_extern Tryd.prog 113 _ (ReflectliteValue.methodAny (ReflectliteValue.valueError "reflectlite.Value.Type" 0) (fun t _ _ _ => ReflectliteType.toType t)) Tryd.func113 (by kernel_rfl) (by kernel_rfl) (by kernel_rfl) (by kernel_rfl)
  have xni := @run_callFunc_extern Tryd.prog 114 _ (ReflectliteValue.method (ReflectliteValue.valueError "reflectlite.Value.IsNil" 0) ReflectliteValue.isNil) Tryd.func114 (by kernel_rfl) (by kernel_rfl) (by kernel_rfl) (by kernel_rfl)
  have xki := @run_callFunc_extern Tryd.prog 208 _ (ReflectliteType.abiMethod fun t => do pure (.int .u8 (← Rtype.kind t))) Tryd.func208 (by kernel_rfl) (by kernel_rfl) (by kernel_rfl) (by kernel_rfl)
  have xel := @run_callFunc_extern Tryd.prog 221 _ (ReflectliteType.method ReflectliteType.elem) Tryd.func221 (by kernel_rfl) (by kernel_rfl) (by kernel_rfl) (by kernel_rfl)
  have xim := @run_callFunc_extern Tryd.prog 222 _ (ReflectliteType.relation "Implements" ReflectliteType.implements_) Tryd.func222 (by kernel_rfl) (by kernel_rfl) (by kernel_rfl) (by kernel_rfl)
  have xto := @run_callFunc_extern Tryd.prog 145 _ (ReflectliteType.typeOf) Tryd.func145 (by kernel_rfl) (by kernel_rfl) (by kernel_rfl) (by kernel_rfl)
  have xas := @run_callFunc_extern Tryd.prog 219 _ (ReflectliteType.relation "AssignableTo" ReflectliteType.assignableTo) Tryd.func219 (by kernel_rfl) (by kernel_rfl) (by kernel_rfl) (by kernel_rfl)
  have xev := @run_callFunc_extern Tryd.prog 146 _ (ReflectliteValue.method (ReflectliteValue.valueError "reflectlite.Value.Elem" 0) ReflectliteValue.elem) Tryd.func146 (by kernel_rfl) (by kernel_rfl) (by kernel_rfl) (by kernel_rfl)
  have xse := @run_callFunc_extern Tryd.prog 147 _ (ReflectliteValue.set) Tryd.func147 (by kernel_rfl) (by kernel_rfl) (by kernel_rfl) (by kernel_rfl)
  have f6 := valueOfP_misfit
  have f7 := typeP_misfit
  have mK := methodKind
  have mE := methodElem
  have mI := methodImplements
  have k22 := kindP_misfit
  have k25 := kindE_misfit
  have eP := elemP_misfit
  have iE := implementsE_misfit
  obtain ⟨q1, q2, q3, q4⟩ := nw2 w (.cells #[.pointer (some ⟨tb, 0, none⟩)] 96) (.cells #[.pointer (some ⟨9, 96, none⟩), .pointer (some ⟨w.heap.size, 0, none⟩), .int .u64 150] 165)
  have c0 : ((w.alloc (.cells #[.pointer (some ⟨tb, 0, none⟩)] 96)).alloc (.cells #[.pointer (some ⟨9, 96, none⟩), .pointer (some ⟨w.heap.size, 0, none⟩), .int .u64 150] 165)).cell? ⟨w.heap.size, 0, none⟩ = some (.pointer (some ⟨tb, 0, none⟩)) := (cell_of_row _ _ _ _ _ _ q1).trans rfl
  have n8 := isNilP_misfit ⟨w.heap.size, 0, none⟩ ⟨tb, 0, none⟩ ((w.alloc (.cells #[.pointer (some ⟨tb, 0, none⟩)] 96)).alloc (.cells #[.pointer (some ⟨9, 96, none⟩), .pointer (some ⟨w.heap.size, 0, none⟩), .int .u64 150] 165)) c0
  have hg2 : ((w.alloc (.cells #[.pointer (some ⟨tb, 0, none⟩)] 96)).alloc (.cells #[.pointer (some ⟨9, 96, none⟩), .pointer (some ⟨w.heap.size, 0, none⟩), .int .u64 150] 165)).cell? ⟨0, 0, none⟩ = some (.iface 210 (.agg #[.pointer (some ⟨9, 76, none⟩)])) := (hE.below q3)
  have Q3 := Lib.hid q3
  clear q1 q2 q3 q4 c0 hE
  go_enter Tryd.func61, Tryd.ntmps61
  go_wp2_with (go_at_call 115; refine (asInMiss_wrong_misfit a b w.heap.size tb _).mono ?_; rintro e w' ⟨rfl, hb⟩)
  go_ret
  exact ⟨rfl, Q3.out.trans (hb.mono Q3.out.size)⟩
set_option maxRecDepth 100000 in
set_option maxHeartbeats 4000000 in
theorem asMiss_misfit_bad  (tb : Nat) (w : World) (hE : ET w) :
    Calls Tryd.prog 61 #[.iface 93 (.agg #[]), .iface 152 (.pointer (some ⟨tb, 0, none⟩))] w
      fun e w' => e = .returned (.bool false) ∧ Below w.heap.size w w' := by
  have xvo := @run_callFunc_extern Tryd.prog 112 _ (fun args => ReflectliteValue.unpack (args.getD 0 (.tuple #[]))) Tryd.func112 (by kernel_rfl) (by kernel_rfl) (by kernel_rfl) (by kernel_rfl)
  have xty := @run_callFunc_extern Tryd.prog 113 _ (ReflectliteValue.methodAny (ReflectliteValue.valueError "reflectlite.Value.Type" 0) (fun t _ _ _ => ReflectliteType.toType t)) Tryd.func113 (by kernel_rfl) (by kernel_rfl) (by kernel_rfl) (by kernel_rfl)
  have xni := @run_callFunc_extern Tryd.prog 114 _ (ReflectliteValue.method (ReflectliteValue.valueError "reflectlite.Value.IsNil" 0) ReflectliteValue.isNil) Tryd.func114 (by kernel_rfl) (by kernel_rfl) (by kernel_rfl) (by kernel_rfl)
  have xki := @run_callFunc_extern Tryd.prog 208 _ (ReflectliteType.abiMethod fun t => do pure (.int .u8 (← Rtype.kind t))) Tryd.func208 (by kernel_rfl) (by kernel_rfl) (by kernel_rfl) (by kernel_rfl)
  have xel := @run_callFunc_extern Tryd.prog 221 _ (ReflectliteType.method ReflectliteType.elem) Tryd.func221 (by kernel_rfl) (by kernel_rfl) (by kernel_rfl) (by kernel_rfl)
  have xim := @run_callFunc_extern Tryd.prog 222 _ (ReflectliteType.relation "Implements" ReflectliteType.implements_) Tryd.func222 (by kernel_rfl) (by kernel_rfl) (by kernel_rfl) (by kernel_rfl)
  have xto := @run_callFunc_extern Tryd.prog 145 _ (ReflectliteType.typeOf) Tryd.func145 (by kernel_rfl) (by kernel_rfl) (by kernel_rfl) (by kernel_rfl)
  have xas := @run_callFunc_extern Tryd.prog 219 _ (ReflectliteType.relation "AssignableTo" ReflectliteType.assignableTo) Tryd.func219 (by kernel_rfl) (by kernel_rfl) (by kernel_rfl) (by kernel_rfl)
  have xev := @run_callFunc_extern Tryd.prog 146 _ (ReflectliteValue.method (ReflectliteValue.valueError "reflectlite.Value.Elem" 0) ReflectliteValue.elem) Tryd.func146 (by kernel_rfl) (by kernel_rfl) (by kernel_rfl) (by kernel_rfl)
  have xse := @run_callFunc_extern Tryd.prog 147 _ (ReflectliteValue.set) Tryd.func147 (by kernel_rfl) (by kernel_rfl) (by kernel_rfl) (by kernel_rfl)
  have f6 := valueOfP_bad
  have f7 := typeP_bad
  have mK := methodKind
  have mE := methodElem
  have mI := methodImplements
  have k22 := kindP_bad
  have k25 := kindE_bad
  have eP := elemP_bad
  have iE := implementsE_bad
  obtain ⟨q1, q2, q3, q4⟩ := nw2 w (.cells #[.pointer (some ⟨tb, 0, none⟩)] 152) (.cells #[.pointer (some ⟨9, 152, none⟩), .pointer (some ⟨w.heap.size, 0, none⟩), .int .u64 150] 165)
  have c0 : ((w.alloc (.cells #[.pointer (some ⟨tb, 0, none⟩)] 152)).alloc (.cells #[.pointer (some ⟨9, 152, none⟩), .pointer (some ⟨w.heap.size, 0, none⟩), .int .u64 150] 165)).cell? ⟨w.heap.size, 0, none⟩ = some (.pointer (some ⟨tb, 0, none⟩)) := (cell_of_row _ _ _ _ _ _ q1).trans rfl
  have n8 := isNilP_bad ⟨w.heap.size, 0, none⟩ ⟨tb, 0, none⟩ ((w.alloc (.cells #[.pointer (some ⟨tb, 0, none⟩)] 152)).alloc (.cells #[.pointer (some ⟨9, 152, none⟩), .pointer (some ⟨w.heap.size, 0, none⟩), .int .u64 150] 165)) c0
  have hg2 : ((w.alloc (.cells #[.pointer (some ⟨tb, 0, none⟩)] 152)).alloc (.cells #[.pointer (some ⟨9, 152, none⟩), .pointer (some ⟨w.heap.size, 0, none⟩), .int .u64 150] 165)).cell? ⟨0, 0, none⟩ = some (.iface 210 (.agg #[.pointer (some ⟨9, 76, none⟩)])) := (hE.below q3)
  have Q3 := Lib.hid q3
  clear q1 q2 q3 q4 c0 hE
  go_enter Tryd.func61, Tryd.ntmps61
  go_wp2_with (go_at_call 115; refine (asInMiss_misfit_bad  w.heap.size tb _).mono ?_; rintro e w' ⟨rfl, hb⟩)
  go_ret
  exact ⟨rfl, Q3.out.trans (hb.mono Q3.out.size)⟩
set_option maxRecDepth 100000 in
set_option maxHeartbeats 4000000 in
theorem asMiss_misfit_wrong  (tb : Nat) (w : World) (hE : ET w) :
    Calls Tryd.prog 61 #[.iface 93 (.agg #[]), .iface 95 (.pointer (some ⟨tb, 0, none⟩))] w
      fun e w' => e = .returned (.bool false) ∧ Below w.heap.size w w' := by
  have xvo := @run_callFunc_extern Tryd.prog 112 _ (fun args => ReflectliteValue.unpack (args.getD 0 (.tuple #[]))) Tryd.func112 (by kernel_rfl) (by kernel_rfl) (by kernel_rfl) (by kernel_rfl)
  have xty := @run_callFunc_extern Tryd.prog 113 _ (ReflectliteValue.methodAny (ReflectliteValue.valueError "reflectlite.Value.Type" 0) (fun t _ _ _ => ReflectliteType.toType t)) Tryd.func113 (by kernel_rfl) (by kernel_rfl) (by kernel_rfl) (by kernel_rfl)
  have xni := @run_callFunc_extern Tryd.prog 114 _ (ReflectliteValue.method (ReflectliteValue.valueError "reflectlite.Value.IsNil" 0) ReflectliteValue.isNil) Tryd.func114 (by kernel_rfl) (by kernel_rfl) (by kernel_rfl) (by kernel_rfl)
  have xki := @run_callFunc_extern Tryd.prog 208 _ (ReflectliteType.abiMethod fun t => do pure (.int .u8 (← Rtype.kind t))) Tryd.func208 (by kernel_rfl) (by kernel_rfl) (by kernel_rfl) (by kernel_rfl)
  have xel := @run_callFunc_extern Tryd.prog 221 _ (ReflectliteType.method ReflectliteType.elem) Tryd.func221 (by kernel_rfl) (by kernel_rfl) (by kernel_rfl) (by kernel_rfl)
  have xim := @run_callFunc_extern Tryd.prog 222 _ (ReflectliteType.relation "Implements" ReflectliteType.implements_) Tryd.func222 (by kernel_rfl) (by kernel_rfl) (by kernel_rfl) (by kernel_rfl)
  have xto := @run_callFunc_extern Tryd.prog 145 _ (ReflectliteType.typeOf) Tryd.func145 (by kernel_rfl) (by kernel_rfl) (by kernel_rfl) (by kernel_rfl)
  have xas := @run_callFunc_extern Tryd.prog 219 _ (ReflectliteType.relation "AssignableTo" ReflectliteType.assignableTo) Tryd.func219 (by kernel_rfl) (by kernel_rfl) (by kernel_rfl) (by kernel_rfl)
  have xev := @run_callFunc_extern Tryd.prog 146 _ (ReflectliteValue.method (ReflectliteValue.valueError "reflectlite.Value.Elem" 0) ReflectliteValue.elem) Tryd.func146 (by kernel_rfl) (by kernel_rfl) (by kernel_rfl) (by kernel_rfl)
  have xse := @run_callFunc_extern Tryd.prog 147 _ (ReflectliteValue.set) Tryd.func147 (by kernel_rfl) (by kernel_rfl) (by kernel_rfl) (by kernel_rfl)
  have f6 := valueOfP_wrong
  have f7 := typeP_wrong
  have mK := methodKind
  have mE := methodElem
  have mI := methodImplements
  have k22 := kindP_wrong
  have k25 := kindE_wrong
  have eP := elemP_wrong
  have iE := implementsE_wrong
  obtain ⟨q1, q2, q3, q4⟩ := nw2 w (.cells #[.pointer (some ⟨tb, 0, none⟩)] 95) (.cells #[.pointer (some ⟨9, 95, none⟩), .pointer (some ⟨w.heap.size, 0, none⟩), .int .u64 150] 165)
  have c0 : ((w.alloc (.cells #[.pointer (some ⟨tb, 0, none⟩)] 95)).alloc (.cells #[.pointer (some ⟨9, 95, none⟩), .pointer (some ⟨w.heap.size, 0, none⟩), .int .u64 150] 165)).cell? ⟨w.heap.size, 0, none⟩ = some (.pointer (some ⟨tb, 0, none⟩)) := (cell_of_row _ _ _ _ _ _ q1).trans rfl
  have n8 := isNilP_wrong ⟨w.heap.size, 0, none⟩ ⟨tb, 0, none⟩ ((w.alloc (.cells #[.pointer (some ⟨tb, 0, none⟩)] 95)).alloc (.cells #[.pointer (some ⟨9, 95, none⟩), .pointer (some ⟨w.heap.size, 0, none⟩), .int .u64 150] 165)) c0
  have hg2 : ((w.alloc (.cells #[.pointer (some ⟨tb, 0, none⟩)] 95)).alloc (.cells #[.pointer (some ⟨9, 95, none⟩), .pointer (some ⟨w.heap.size, 0, none⟩), .int .u64 150] 165)).cell? ⟨0, 0, none⟩ = some (.iface 210 (.agg #[.pointer (some ⟨9, 76, none⟩)])) := (hE.below q3)
  have Q3 := Lib.hid q3
  clear q1 q2 q3 q4 c0 hE
  go_enter Tryd.func61, Tryd.ntmps61
  go_wp2_with (go_at_call 115; refine (asInMiss_misfit_wrong  w.heap.size tb _).mono ?_; rintro e w' ⟨rfl, hb⟩)
  go_ret
  exact ⟨rfl, Q3.out.trans (hb.mono Q3.out.size)⟩
set_option maxHeartbeats 1000000 in
theorem reasonOf_wrong (a b : Int) (w : World) (hE : ET w) :
    Calls Tryd.prog 48 #[.iface 91 (.agg #[.int .u16 a, .int .u16 b])] w fun e w' => e = .returned (.int .i64 0) ∧ Below w.heap.size w w' := by
  have b1 := (nw1 w (.cells #[.int .i64 0] 151)).2.1
  have HE1 := Lib.hid (hE.below b1); have B1 := Lib.hid b1
  clear b1 hE
  go_enter Tryd.func48, Tryd.ntmps48
  go_wp2_with fail
  refine (asMiss_wrong_bad a b w.heap.size _ HE1.out).mono ?_
  rintro e w2 ⟨rfl, hb⟩
  have B2 := Lib.hid (B1.out.trans (hb.mono B1.out.size))
  clear hb
  go_wp2_with fail
  go_ret
  exact ⟨rfl, B2.out⟩
set_option maxHeartbeats 1000000 in
theorem reasonOf_misfit  (w : World) (hE : ET w) :
    Calls Tryd.prog 48 #[.iface 93 (.agg #[])] w fun e w' => e = .returned (.int .i64 0) ∧ Below w.heap.size w w' := by
  have b1 := (nw1 w (.cells #[.int .i64 0] 151)).2.1
  have HE1 := Lib.hid (hE.below b1); have B1 := Lib.hid b1
  clear b1 hE
  go_enter Tryd.func48, Tryd.ntmps48
  go_wp2_with fail
  refine (asMiss_misfit_bad  w.heap.size _ HE1.out).mono ?_
  rintro e w2 ⟨rfl, hb⟩
  have B2 := Lib.hid (B1.out.trans (hb.mono B1.out.size))
  clear hb
  go_wp2_with fail
  go_ret
  exact ⟨rfl, B2.out⟩
theorem sets_cell {w : World} {g : Nat} {v : Value} (h : w.there g 0 1) : (w.setCells g 0 [v]).cell? ⟨g, 0, none⟩ = some v := by
  have := World.rangeAt_setCells_same w g 0 [v] h
  exact this 0 v rfl
theorem there1 {w : World} {g : Nat} {v : Value} {t : TypeId} (h : w.heap[g]? = some (.cells #[v] t (0, 0))) : w.there g 0 1 := fun j hj => by
  obtain rfl : j = 0 := by omega
  refine ⟨?_, ?_⟩
  · rw [cell_of_row _ _ _ _ _ _ h]; rfl
  · unfold World.frozen?; rw [h]; simp
set_option maxHeartbeats 1000000 in
theorem reasonOf_bad (r : Int) (w : World) (hE : ET w) :
    Calls Tryd.prog 48 #[.iface 151 (.agg #[.int .i64 r])] w fun e w' => e = .returned (.int .i64 r) ∧ Below w.heap.size w w' := by
  obtain ⟨a1, b1, s1⟩ := nw1 w (.cells #[.int .i64 0] 151)
  have hE1 := hE.below b1
  have ht := there1 a1
  have HE1 := Lib.hid hE1; have HT := Lib.hid ht; have B1 := Lib.hid b1; have S1 := Lib.hid s1
  clear a1 b1 s1 hE1 ht hE
  go_enter Tryd.func48, Tryd.ntmps48
  go_wp2_with fail
  refine (as_bad r w.heap.size _ HE1.out HT.out).mono ?_
  rintro e w2 ⟨rfl, w1, hb, rfl⟩
  have ht2 : w1.there w.heap.size 0 1 := fun j hj => by
    obtain rfl : j = 0 := by omega
    have h0 := HT.out 0 (by omega)
    have hlt : w.heap.size < (w.alloc (.cells #[.int .i64 0] 151)).heap.size := by rw [S1.out]; omega
    refine ⟨?_, ?_⟩
    · rw [hb.cell (p := ⟨w.heap.size, 0 + 0, none⟩) hlt]; exact h0.1
    · rw [hb.frozen (p := ⟨w.heap.size, 0 + 0, none⟩) hlt]; exact h0.2
  have c0 := sets_cell (v := .int .i64 r) ht2
  have B2 := Lib.hid (bsets (g := w.heap.size) (Nat.le_refl _) [.int .i64 r] 0 w1 (B1.out.trans (hb.mono (by rw [S1.out]; omega))))
  clear hb ht2
  go_wp2_with fail
  go_ret
  exact ⟨rfl, B2.out⟩
theorem reasonOf_nil (w : World) (hE : ET w) :
    Calls Tryd.prog 48 #[.nilIface] w fun e w' => e = .returned (.int .i64 0) ∧ Below w.heap.size w w' := by
  have B1 := Lib.hid (nw1 w (.cells #[.int .i64 0] 151)).2.1
  go_enter Tryd.func48, Tryd.ntmps48
  go_wp2_with fail
  refine (as_nil _ _).mono ?_
  rintro e w2 ⟨rfl, hw⟩; rw [hw]; clear hw w2
  go_wp2_with fail
  go_ret
  exact ⟨rfl, B1.out⟩
theorem results_cell_tmp {P : Program} {fn : Func} {p q : Tmp} {ty : TypeId} (h : fn.results = #[.cell p ty, .tmp q]) (tmps : Array Value) (w : World) (g : Nat) (t : TypeId) (cs : Array Value) (fr : Nat × Nat) (d : TypeDesc) (v : Value)
    (hp : tmps.getD p undef = .pointer (some ⟨g, 0, none⟩)) (hq : tmps.getD q undef = v) (hg : w.heap[g]? = some (.cells cs t fr))
    (hu : P.underlying ty = some d) (hd : (match d with | .struct _ | .array _ _ => true | _ => false) = true) (hi : (P.info? ty).map (·.size) = some cs.size) :
    (results fn tmps).run P w = .ok (.tuple #[.agg cs, v]) w := by
  have hp' : tmps[p]?.getD undef = .pointer (some ⟨g, 0, none⟩) := by simpa using hp
  have hq' : tmps[q]?.getD undef = v := by simpa using hq
  simp [results, h, hp', hq', asAddr, run_loadVar_row w g t ty cs fr d hg hu hd hi]
/-- what opening a circuit answers: the wiring, or the refusal -/
def opW (b : Bool) (n : Int) (G O : Value) : Value := if b then .tuple #[.agg #[G, .int .i8 n, O], .nilIface] else .tuple #[.agg #[.slice none 0 0, .int .i8 0, .slice none 0 0], .iface 151 (.agg #[.int .i64 1])]
set_option maxRecDepth 100000 in
set_option maxHeartbeats 1000000 in
theorem openCircuit_any (n : Int) (G O : Value) (gs : List G3) (os : List Int) (w : World) (h : CI w (.agg #[.int .i8 n, G, O]) n gs os) :
    Calls Tryd.prog 47 #[.agg #[.int .i8 n, G, O]] w fun e w' => e = .returned (opW (circB n gs os) n G O) ∧ Below w.heap.size w w' := by
  have H := Lib.hid h
  obtain ⟨G', O', e, hn, hg, ho⟩ := h
  simp only [Value.agg.injEq] at e
  simp at e
  obtain ⟨rfl, rfl⟩ := e
  obtain ⟨A, c, rfl⟩ := hg.form
  obtain ⟨A2, c2, rfl⟩ := ho.form
  clear hg ho
  obtain ⟨bv, hbv⟩ : ∃ bv, bv = circB n gs os := ⟨_, rfl⟩
  rw [← hbv]
  have HV := Lib.hid hbv
  clear hbv
  go_enter Tryd.func47, Tryd.ntmps47
  go_wp2_with fail
  obtain ⟨a1, a2, hb1, s1⟩ := nw2 w (.cells #[.int .i8 n, .slice A gs.length c, .slice A2 os.length c2] 30) (.cells #[.slice none 0 0, .int .i8 0, .slice none 0 0] 74)
  generalize World.alloc (World.alloc w _) _ = w1 at a1 a2 hb1 s1 ⊢
  refine (impl_ValidCircuit _ n gs os w1 (H.out.below hb1)).mono ?_
  rintro e w2 ⟨rfl, hb⟩
  rw [← HV.out]
  have m1 : BX w2 w.heap.size _ _ _ := (BX.belowB ⟨_, a1⟩ hb (by omega))
  have m2 : BX w2 (w.heap.size + 1) _ _ _ := (BX.belowB ⟨_, a2⟩ hb (by omega))
  have HB2 := Lib.hid (hb1.trans (hb.mono (by omega)))
  have M2 := Lib.hid m2
  have c0 := m1.c0; have c1 := m1.c1; have c2' := m1.c2
  have r2 := m2.there
  clear a1 a2 hb hb1 m1 m2
  cases bv with
  | true =>
    go_wp2_with (guard_target =~ wpList _ _ _ (⟨_, Op.store 74 _ _, _, _, _, _⟩ :: _) _ _; refine wpList_store_mid rfl 74 _ _ rfl (w.heap.size + 1) 0 #[.slice A gs.length c, .int .i8 n, .slice A2 os.length c2] rfl rfl r2 (by kernel_rfl) (three_one rfl rfl rfl) ?_)
    obtain ⟨t8, h8⟩ := M2.out.puts (.slice A gs.length c) (.int .i8 n) (.slice A2 os.length c2)
    refine bodyPost_ret (v := .tuple #[.agg #[.slice A gs.length c, .int .i8 n, .slice A2 os.length c2], .nilIface]) ?_ rfl ⟨rfl, bsets (by omega) _ 0 w2 HB2.out⟩
    exact results_cell_tmp rfl _ _ (w.heap.size + 1) _ _ (0, 0) _ _ rfl rfl h8 Tryd.underlying74 rfl (by kernel_rfl)
  | false =>
    go_wp2_with (guard_target =~ wpList _ _ _ (⟨_, Op.store 74 _ _, _, _, _, _⟩ :: _) _ _; refine wpList_store_mid rfl 74 _ _ rfl (w.heap.size + 1) 0 #[.slice none 0 0, .int .i8 0, .slice none 0 0] rfl rfl r2 (by kernel_rfl) (three_one rfl rfl rfl) ?_)
    obtain ⟨t8, h8⟩ := M2.out.puts (.slice none 0 0) (.int .i8 0) (.slice none 0 0)
    refine bodyPost_ret (v := .tuple #[.agg #[.slice none 0 0, .int .i8 0, .slice none 0 0], .iface 151 (.agg #[.int .i64 1])]) ?_ rfl ⟨rfl, bsets (by omega) _ 0 w2 HB2.out⟩
    exact results_cell_tmp rfl _ _ (w.heap.size + 1) _ _ (0, 0) _ _ rfl rfl h8 Tryd.underlying74 rfl (by kernel_rfl)

end Go.Proofs.YtedcfmdgcafnmaaDoor
