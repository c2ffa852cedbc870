/-
  errors.As by contracts, at the refusals of the program (structs by value behind an error); reasonOf.
-/
import Derived.Test.YtedcfmdgcafnmaaDoorCb
import Derived.LaidEql
import Derived.Stop.Asserts
import Derived.RowKitTokens
import Derived.LaidHandle
import Derived.LaidLaws
import Derived.Test.YtedcfmdgcafnmaaDoorRows
namespace Go.Proofs.YtedcfmdgcafnmaaDoor
set_option linter.unusedVariables false
set_option linter.unusedSimpArgs false
open Go.RowKit Go.Extern.Stop Go.Stop Go.Extern

theorem globsIs : Tryd.prog.globals.size = 9 := by kernel_rfl
/-- the variable errors.errorType lies as the program lays it -/
def ET (w : World) : Prop := w.cell? ⟨0, 0, none⟩ = some (.iface 210 (.agg #[.pointer (some ⟨9, 76, none⟩)]))
theorem ET.below {w w' : World} (h : ET w) (hb : Below w.heap.size w w') : ET w' := (hb.cell (p := ⟨0, 0, none⟩) (block_of_cell h)).trans h
theorem etNamed : Tryd.prog.globalNamed "errors.errorType" = some 0 := by kernel_rfl
theorem rtNamed : (Tryd.prog.cutTypes.find? (·.1 == "internal/reflectlite.rtype")).map (·.2) = some 210 := by kernel_rfl
theorem oneError : ((List.range Tryd.prog.types.size).filter fun t => Tryd.prog.rowNamed t [101, 114, 114, 111, 114]) = [76] := by kernel_rfl
theorem et_of_handles {W : World} {hs : List (String × DataW Unit)} (hm : ("errors.errorType", (Rows.laid_errors_errorType : DataW Unit)) ∈ hs) (h : handlesMet Tryd.prog hs W) : ET W := by
  obtain ⟨name, u, ty, e1, e2, e3, e4, e5⟩ := h _ hm
  have en : name = [101, 114, 114, 111, 114] := (Option.some.inj e1).symm
  subst en
  obtain rfl := Option.some.inj (rtNamed.symm.trans e2)
  have hm : ty ∈ (List.range Tryd.prog.types.size).filter fun t => Tryd.prog.rowNamed t [101, 114, 114, 111, 114] := List.mem_filter.2 ⟨List.mem_range.2 e3, e4⟩
  rw [oneError] at hm
  obtain rfl := List.mem_singleton.1 hm
  have hh : typeHandle Tryd.prog 76 = .pointer (some ⟨9, 76, none⟩) := by kernel_rfl
  rw [hh] at e5
  simpa [ET] using World.var?_cell etNamed e5 0
theorem et_of_laid {W : World} (h : laidMetH Tryd.prog [("errors.errorType", Rows.laid_errors_errorType)] W) : ET W := by
  have h' : laidMet Tryd.prog [] W ∧ handlesMet Tryd.prog [("errors.errorType", Rows.laid_errors_errorType)] W := h
  exact et_of_handles (List.mem_singleton.2 rfl) h'.2
theorem rlm (z : Sem Value) (f : TypeId → Addr → Nat → Nat → Sem Value) (v : Value) :
    ReflectliteValue.method z f #[v] = (do match ← ReflectliteValue.parts v with | none => z | some (t, a, fl) => f t a fl (fl % 32)) := rfl
theorem rls (v x : Value) : ReflectliteValue.set #[v, x] = (do
    let (some (dst, a, fl), some (src, b, _)) := (← ReflectliteValue.parts v, ← ReflectliteValue.parts x)
      | unsupported (.noEntry "extern/(internal/reflectlite.Value).Set.zeroValue")
    if fl / ReflectliteValue.flagAddr % 2 == 0 then unsupported (.noEntry "extern/(internal/reflectlite.Value).Set.unaddressable")
    let val ← loadVar src b
    if ← Rtype.directlyAssignable dst src then storeVar dst a val
    else if ← Rtype.implements dst src then
      if (← Rtype.kind src) == 20 then
        match val with
        | .nilIface => unsupported (.noEntry "extern/reflectlite: a nil value of one interface type handed on as a value of another")
        | _ => storeVar dst a val
      else storeVar dst a (.iface src val)
    else panicString ("reflectlite.Set: value of type " ++ (← Rtype.spelt src) ++ " is not assignable to type " ++ (← Rtype.spelt dst))
    pure (.tuple #[])) := rfl
theorem as_nil (t : Value) (w : World) : Calls Tryd.prog 61 #[.nilIface, t] w fun e w' => e = .returned (.bool false) ∧ w' = w := by
  go_enter Tryd.func61, Tryd.ntmps61
  go_wp2
  go_ret
  exact ⟨rfl, rfl⟩

/-! bad -/
theorem valueOfP_bad (t : Addr) (w : World) : (ReflectliteValue.unpack (.iface 152 (.pointer (some t)))).run Tryd.prog w
    = .ok (.agg #[.pointer (some ⟨9, 152, none⟩), .pointer (some ⟨w.heap.size, 0, none⟩), .int .u64 150]) (w.alloc (.cells #[.pointer (some t)] 152)) := by kernel_rfl
theorem typeP_bad (a : Addr) (w : World) : (ReflectliteValue.methodAny (ReflectliteValue.valueError "reflectlite.Value.Type" 0) (fun t _ _ _ => ReflectliteType.toType t) #[.agg #[.pointer (some ⟨9, 152, none⟩), .pointer (some a), .int .u64 150]]).run Tryd.prog w
    = .ok (.iface 210 (.agg #[.pointer (some ⟨9, 152, none⟩)])) w := by kernel_rfl
theorem kindP_bad (w : World) : ((ReflectliteType.abiMethod fun t => (fun a : Nat => Value.int IntKind.u8 (a : Int)) <$> Rtype.kind t) #[.pointer (some ⟨9, 152, none⟩)]).run Tryd.prog w = .ok (.int .u8 22) w := by kernel_rfl
theorem kindE_bad (w : World) : ((ReflectliteType.abiMethod fun t => (fun a : Nat => Value.int IntKind.u8 (a : Int)) <$> Rtype.kind t) #[.pointer (some ⟨9, 151, none⟩)]).run Tryd.prog w = .ok (.int .u8 25) w := by kernel_rfl
theorem partsP_bad (a : Addr) (w : World) : (ReflectliteValue.parts (.agg #[.pointer (some ⟨9, 152, none⟩), .pointer (some a), .int .u64 150])).run Tryd.prog w = .ok (some (152, a, 150)) w := by kernel_rfl
theorem isNilP_bad (a p : Addr) (W : World) (ha : W.cell? a = some (.pointer (some p))) :
    (ReflectliteValue.method (ReflectliteValue.valueError "reflectlite.Value.IsNil" 0) ReflectliteValue.isNil #[.agg #[.pointer (some ⟨9, 152, none⟩), .pointer (some a), .int .u64 150]]).run Tryd.prog W = .ok (.bool false) W := by
  rw [rlm]
  simp only [Sem.run_bind, partsP_bad, Result.andThen]
  simp [ReflectliteValue.isNil, loadVar, isAgg, underlying, Tryd.underlying152, ha, Result.andThen]
theorem elemP_bad (w : World) : (ReflectliteType.method ReflectliteType.elem #[.agg #[.pointer (some ⟨9, 152, none⟩)]]).run Tryd.prog w = .ok (.iface 210 (.agg #[.pointer (some ⟨9, 151, none⟩)])) w := by kernel_rfl
theorem implementsE_bad (w : World) : (ReflectliteType.relation "Implements" ReflectliteType.implements_ #[.agg #[.pointer (some ⟨9, 151, none⟩)], .iface 210 (.agg #[.pointer (some ⟨9, 76, none⟩)])]).run Tryd.prog w = .ok (.bool true) w := by kernel_rfl
theorem typeOfE_bad (v : Value) (w : World) : (ReflectliteType.typeOf #[.iface 151 v]).run Tryd.prog w = .ok (.iface 210 (.agg #[.pointer (some ⟨9, 151, none⟩)])) w := by kernel_rfl
theorem elemOf_bad (w : World) : (Rtype.elem? 152).run Tryd.prog w = .ok (some 151) w := by kernel_rfl
theorem direct_bad (w : World) : (Rtype.directlyAssignable 151 151).run Tryd.prog w = .ok true w := by kernel_rfl
theorem size_bad (w : World) : (sizeOf 151).run Tryd.prog w = .ok 1 w := by kernel_rfl

/-! wrong -/
theorem valueOfP_wrong (t : Addr) (w : World) : (ReflectliteValue.unpack (.iface 95 (.pointer (some t)))).run Tryd.prog w
    = .ok (.agg #[.pointer (some ⟨9, 95, none⟩), .pointer (some ⟨w.heap.size, 0, none⟩), .int .u64 150]) (w.alloc (.cells #[.pointer (some t)] 95)) := by kernel_rfl
theorem typeP_wrong (a : Addr) (w : World) : (ReflectliteValue.methodAny (ReflectliteValue.valueError "reflectlite.Value.Type" 0) (fun t _ _ _ => ReflectliteType.toType t) #[.agg #[.pointer (some ⟨9, 95, none⟩), .pointer (some a), .int .u64 150]]).run Tryd.prog w
    = .ok (.iface 210 (.agg #[.pointer (some ⟨9, 95, none⟩)])) w := by kernel_rfl
theorem kindP_wrong (w : World) : ((ReflectliteType.abiMethod fun t => (fun a : Nat => Value.int IntKind.u8 (a : Int)) <$> Rtype.kind t) #[.pointer (some ⟨9, 95, none⟩)]).run Tryd.prog w = .ok (.int .u8 22) w := by kernel_rfl
theorem kindE_wrong (w : World) : ((ReflectliteType.abiMethod fun t => (fun a : Nat => Value.int IntKind.u8 (a : Int)) <$> Rtype.kind t) #[.pointer (some ⟨9, 91, none⟩)]).run Tryd.prog w = .ok (.int .u8 25) w := by kernel_rfl
theorem partsP_wrong (a : Addr) (w : World) : (ReflectliteValue.parts (.agg #[.pointer (some ⟨9, 95, none⟩), .pointer (some a), .int .u64 150])).run Tryd.prog w = .ok (some (95, a, 150)) w := by kernel_rfl
theorem isNilP_wrong (a p : Addr) (W : World) (ha : W.cell? a = some (.pointer (some p))) :
    (ReflectliteValue.method (ReflectliteValue.valueError "reflectlite.Value.IsNil" 0) ReflectliteValue.isNil #[.agg #[.pointer (some ⟨9, 95, none⟩), .pointer (some a), .int .u64 150]]).run Tryd.prog W = .ok (.bool false) W := by
  rw [rlm]
  simp only [Sem.run_bind, partsP_wrong, Result.andThen]
  simp [ReflectliteValue.isNil, loadVar, isAgg, underlying, Tryd.underlying95, ha, Result.andThen]
theorem elemP_wrong (w : World) : (ReflectliteType.method ReflectliteType.elem #[.agg #[.pointer (some ⟨9, 95, none⟩)]]).run Tryd.prog w = .ok (.iface 210 (.agg #[.pointer (some ⟨9, 91, none⟩)])) w := by kernel_rfl
theorem implementsE_wrong (w : World) : (ReflectliteType.relation "Implements" ReflectliteType.implements_ #[.agg #[.pointer (some ⟨9, 91, none⟩)], .iface 210 (.agg #[.pointer (some ⟨9, 76, none⟩)])]).run Tryd.prog w = .ok (.bool true) w := by kernel_rfl
theorem typeOfE_wrong (v : Value) (w : World) : (ReflectliteType.typeOf #[.iface 91 v]).run Tryd.prog w = .ok (.iface 210 (.agg #[.pointer (some ⟨9, 91, none⟩)])) w := by kernel_rfl
theorem elemOf_wrong (w : World) : (Rtype.elem? 95).run Tryd.prog w = .ok (some 91) w := by kernel_rfl
theorem direct_wrong (w : World) : (Rtype.directlyAssignable 91 91).run Tryd.prog w = .ok true w := by kernel_rfl
theorem size_wrong (w : World) : (sizeOf 91).run Tryd.prog w = .ok 2 w := by kernel_rfl

/-! misfit -/
theorem valueOfP_misfit (t : Addr) (w : World) : (ReflectliteValue.unpack (.iface 96 (.pointer (some t)))).run Tryd.prog w
    = .ok (.agg #[.pointer (some ⟨9, 96, none⟩), .pointer (some ⟨w.heap.size, 0, none⟩), .int .u64 150]) (w.alloc (.cells #[.pointer (some t)] 96)) := by kernel_rfl
theorem typeP_misfit (a : Addr) (w : World) : (ReflectliteValue.methodAny (ReflectliteValue.valueError "reflectlite.Value.Type" 0) (fun t _ _ _ => ReflectliteType.toType t) #[.agg #[.pointer (some ⟨9, 96, none⟩), .pointer (some a), .int .u64 150]]).run Tryd.prog w
    = .ok (.iface 210 (.agg #[.pointer (some ⟨9, 96, none⟩)])) w := by kernel_rfl
theorem kindP_misfit (w : World) : ((ReflectliteType.abiMethod fun t => (fun a : Nat => Value.int IntKind.u8 (a : Int)) <$> Rtype.kind t) #[.pointer (some ⟨9, 96, none⟩)]).run Tryd.prog w = .ok (.int .u8 22) w := by kernel_rfl
theorem kindE_misfit (w : World) : ((ReflectliteType.abiMethod fun t => (fun a : Nat => Value.int IntKind.u8 (a : Int)) <$> Rtype.kind t) #[.pointer (some ⟨9, 93, none⟩)]).run Tryd.prog w = .ok (.int .u8 25) w := by kernel_rfl
theorem partsP_misfit (a : Addr) (w : World) : (ReflectliteValue.parts (.agg #[.pointer (some ⟨9, 96, none⟩), .pointer (some a), .int .u64 150])).run Tryd.prog w = .ok (some (96, a, 150)) w := by kernel_rfl
theorem isNilP_misfit (a p : Addr) (W : World) (ha : W.cell? a = some (.pointer (some p))) :
    (ReflectliteValue.method (ReflectliteValue.valueError "reflectlite.Value.IsNil" 0) ReflectliteValue.isNil #[.agg #[.pointer (some ⟨9, 96, none⟩), .pointer (some a), .int .u64 150]]).run Tryd.prog W = .ok (.bool false) W := by
  rw [rlm]
  simp only [Sem.run_bind, partsP_misfit, Result.andThen]
  simp [ReflectliteValue.isNil, loadVar, isAgg, underlying, Tryd.underlying96, ha, Result.andThen]
theorem elemP_misfit (w : World) : (ReflectliteType.method ReflectliteType.elem #[.agg #[.pointer (some ⟨9, 96, none⟩)]]).run Tryd.prog w = .ok (.iface 210 (.agg #[.pointer (some ⟨9, 93, none⟩)])) w := by kernel_rfl
theorem implementsE_misfit (w : World) : (ReflectliteType.relation "Implements" ReflectliteType.implements_ #[.agg #[.pointer (some ⟨9, 93, none⟩)], .iface 210 (.agg #[.pointer (some ⟨9, 76, none⟩)])]).run Tryd.prog w = .ok (.bool true) w := by kernel_rfl
theorem typeOfE_misfit (v : Value) (w : World) : (ReflectliteType.typeOf #[.iface 93 v]).run Tryd.prog w = .ok (.iface 210 (.agg #[.pointer (some ⟨9, 93, none⟩)])) w := by kernel_rfl
theorem elemOf_misfit (w : World) : (Rtype.elem? 96).run Tryd.prog w = .ok (some 93) w := by kernel_rfl
theorem direct_misfit (w : World) : (Rtype.directlyAssignable 93 93).run Tryd.prog w = .ok true w := by kernel_rfl
theorem size_misfit (w : World) : (sizeOf 93).run Tryd.prog w = .ok 0 w := by kernel_rfl

theorem mk_bad (p : Addr) (w : World) : (ReflectliteValue.mk 151 p ReflectliteValue.flagAddr).run Tryd.prog w = .ok (.agg #[.pointer (some ⟨9, 151, none⟩), .pointer (some p), .int .u64 409]) w := by kernel_rfl
theorem elemV_bad (a p : Addr) (W : World) (ha : W.cell? a = some (.pointer (some p))) :
    (ReflectliteValue.method (ReflectliteValue.valueError "reflectlite.Value.Elem" 0) ReflectliteValue.elem #[.agg #[.pointer (some ⟨9, 152, none⟩), .pointer (some a), .int .u64 150]]).run Tryd.prog W
      = .ok (.agg #[.pointer (some ⟨9, 151, none⟩), .pointer (some p), .int .u64 409]) W := by
  rw [rlm]
  simp only [Sem.run_bind, partsP_bad, Result.andThen]
  simp [ReflectliteValue.elem, loadVar, isAgg, underlying, Tryd.underlying152, ha, Result.andThen, elemOf_bad, mk_bad]
theorem valueOfE_bad (r : Int) (w : World) : (ReflectliteValue.unpack (.iface 151 (.agg #[.int .i64 r]))).run Tryd.prog w
    = .ok (.agg #[.pointer (some ⟨9, 151, none⟩), .pointer (some ⟨w.heap.size, 0, none⟩), .int .u64 153]) (w.alloc (.cells #[.int .i64 r] 151)) := by kernel_rfl
theorem partsD_bad (a : Addr) (w : World) : (ReflectliteValue.parts (.agg #[.pointer (some ⟨9, 151, none⟩), .pointer (some a), .int .u64 409])).run Tryd.prog w = .ok (some (151, a, 409)) w := by kernel_rfl
theorem partsS_bad (a : Addr) (w : World) : (ReflectliteValue.parts (.agg #[.pointer (some ⟨9, 151, none⟩), .pointer (some a), .int .u64 153])).run Tryd.prog w = .ok (some (151, a, 153)) w := by kernel_rfl
theorem cells_bad (r : Int) : (#[.int .i64 r] : Array Value).all (·.oneCell') = true := all_oneCell_toArray (cs := [.int .i64 r]) (fun v hv => by
  simp at hv
  subst hv; rfl)
theorem set_bad (r : Int) (tb bb : Nat) (W : World) (hb : W.rangeAt bb 0 [.int .i64 r]) (ht : W.there tb 0 1) :
    (ReflectliteValue.set #[.agg #[.pointer (some ⟨9, 151, none⟩), .pointer (some ⟨tb, 0, none⟩), .int .u64 409], .agg #[.pointer (some ⟨9, 151, none⟩), .pointer (some ⟨bb, 0, none⟩), .int .u64 153]]).run Tryd.prog W
      = .ok (.tuple #[]) (W.setCells tb 0 [.int .i64 r]) := by
  have e1 := run_loadVar_mid (P := Tryd.prog) W bb 0 151 [.int .i64 r] _ hb Tryd.underlying151 rfl (by kernel_rfl)
  have e2 := run_storeVar_mid (P := Tryd.prog) W tb 0 151 #[.int .i64 r] ht (by kernel_rfl) (cells_bad r)
  rw [rls]
  simp only [Sem.run_bind, partsD_bad, partsS_bad, Result.andThen]
  simp [ReflectliteValue.flagAddr, e1, e2, Result.andThen, direct_bad]
theorem noAs_bad (v : Value) (xT : TypeId) (w : World) : (Instr.typeAssert (.iface 151 v) xT 215 true).run Tryd.prog w = .ok (.tuple #[.nilIface, .bool false]) w := run_typeAssert_lacksB Tryd.underlying215 (by kernel_rfl) (by kernel_rfl) v xT w
theorem noWrap_bad (v : Value) (xT : TypeId) (w : World) : (Instr.typeAssert (.iface 151 v) xT 218 true).run Tryd.prog w = .ok (.tuple #[.nilIface, .bool false]) w := run_typeAssert_lacksB Tryd.underlying218 (by kernel_rfl) (by kernel_rfl) v xT w
theorem noWraps_bad (v : Value) (xT : TypeId) (w : World) : (Instr.typeAssert (.iface 151 v) xT 220 true).run Tryd.prog w = .ok (.tuple #[.nilIface, .bool false]) w := run_typeAssert_lacksB Tryd.underlying220 (by kernel_rfl) (by kernel_rfl) v xT w

theorem mk_wrong (p : Addr) (w : World) : (ReflectliteValue.mk 91 p ReflectliteValue.flagAddr).run Tryd.prog w = .ok (.agg #[.pointer (some ⟨9, 91, none⟩), .pointer (some p), .int .u64 409]) w := by kernel_rfl
theorem elemV_wrong (a p : Addr) (W : World) (ha : W.cell? a = some (.pointer (some p))) :
    (ReflectliteValue.method (ReflectliteValue.valueError "reflectlite.Value.Elem" 0) ReflectliteValue.elem #[.agg #[.pointer (some ⟨9, 95, none⟩), .pointer (some a), .int .u64 150]]).run Tryd.prog W
      = .ok (.agg #[.pointer (some ⟨9, 91, none⟩), .pointer (some p), .int .u64 409]) W := by
  rw [rlm]
  simp only [Sem.run_bind, partsP_wrong, Result.andThen]
  simp [ReflectliteValue.elem, loadVar, isAgg, underlying, Tryd.underlying95, ha, Result.andThen, elemOf_wrong, mk_wrong]
theorem valueOfE_wrong (a b : Int) (w : World) : (ReflectliteValue.unpack (.iface 91 (.agg #[.int .u16 a, .int .u16 b]))).run Tryd.prog w
    = .ok (.agg #[.pointer (some ⟨9, 91, none⟩), .pointer (some ⟨w.heap.size, 0, none⟩), .int .u64 153]) (w.alloc (.cells #[.int .u16 a, .int .u16 b] 91)) := by kernel_rfl
theorem partsD_wrong (a : Addr) (w : World) : (ReflectliteValue.parts (.agg #[.pointer (some ⟨9, 91, none⟩), .pointer (some a), .int .u64 409])).run Tryd.prog w = .ok (some (91, a, 409)) w := by kernel_rfl
theorem partsS_wrong (a : Addr) (w : World) : (ReflectliteValue.parts (.agg #[.pointer (some ⟨9, 91, none⟩), .pointer (some a), .int .u64 153])).run Tryd.prog w = .ok (some (91, a, 153)) w := by kernel_rfl
theorem cells_wrong (a b : Int) : (#[.int .u16 a, .int .u16 b] : Array Value).all (·.oneCell') = true := all_oneCell_toArray (cs := [.int .u16 a, .int .u16 b]) (fun v hv => by
  simp at hv
  rcases hv with rfl | rfl <;> rfl)
theorem set_wrong (a b : Int) (tb bb : Nat) (W : World) (hb : W.rangeAt bb 0 [.int .u16 a, .int .u16 b]) (ht : W.there tb 0 2) :
    (ReflectliteValue.set #[.agg #[.pointer (some ⟨9, 91, none⟩), .pointer (some ⟨tb, 0, none⟩), .int .u64 409], .agg #[.pointer (some ⟨9, 91, none⟩), .pointer (some ⟨bb, 0, none⟩), .int .u64 153]]).run Tryd.prog W
      = .ok (.tuple #[]) (W.setCells tb 0 [.int .u16 a, .int .u16 b]) := by
  have e1 := run_loadVar_mid (P := Tryd.prog) W bb 0 91 [.int .u16 a, .int .u16 b] _ hb Tryd.underlying91 rfl (by kernel_rfl)
  have e2 := run_storeVar_mid (P := Tryd.prog) W tb 0 91 #[.int .u16 a, .int .u16 b] ht (by kernel_rfl) (cells_wrong a b)
  rw [rls]
  simp only [Sem.run_bind, partsD_wrong, partsS_wrong, Result.andThen]
  simp [ReflectliteValue.flagAddr, e1, e2, Result.andThen, direct_wrong]
theorem noAs_wrong (v : Value) (xT : TypeId) (w : World) : (Instr.typeAssert (.iface 91 v) xT 215 true).run Tryd.prog w = .ok (.tuple #[.nilIface, .bool false]) w := run_typeAssert_lacksB Tryd.underlying215 (by kernel_rfl) (by kernel_rfl) v xT w
theorem noWrap_wrong (v : Value) (xT : TypeId) (w : World) : (Instr.typeAssert (.iface 91 v) xT 218 true).run Tryd.prog w = .ok (.tuple #[.nilIface, .bool false]) w := run_typeAssert_lacksB Tryd.underlying218 (by kernel_rfl) (by kernel_rfl) v xT w
theorem noWraps_wrong (v : Value) (xT : TypeId) (w : World) : (Instr.typeAssert (.iface 91 v) xT 220 true).run Tryd.prog w = .ok (.tuple #[.nilIface, .bool false]) w := run_typeAssert_lacksB Tryd.underlying220 (by kernel_rfl) (by kernel_rfl) v xT w

theorem mk_misfit (p : Addr) (w : World) : (ReflectliteValue.mk 93 p ReflectliteValue.flagAddr).run Tryd.prog w = .ok (.agg #[.pointer (some ⟨9, 93, none⟩), .pointer (some p), .int .u64 409]) w := by kernel_rfl
theorem elemV_misfit (a p : Addr) (W : World) (ha : W.cell? a = some (.pointer (some p))) :
    (ReflectliteValue.method (ReflectliteValue.valueError "reflectlite.Value.Elem" 0) ReflectliteValue.elem #[.agg #[.pointer (some ⟨9, 96, none⟩), .pointer (some a), .int .u64 150]]).run Tryd.prog W
      = .ok (.agg #[.pointer (some ⟨9, 93, none⟩), .pointer (some p), .int .u64 409]) W := by
  rw [rlm]
  simp only [Sem.run_bind, partsP_misfit, Result.andThen]
  simp [ReflectliteValue.elem, loadVar, isAgg, underlying, Tryd.underlying96, ha, Result.andThen, elemOf_misfit, mk_misfit]
theorem valueOfE_misfit  (w : World) : (ReflectliteValue.unpack (.iface 93 (.agg #[]))).run Tryd.prog w
    = .ok (.agg #[.pointer (some ⟨9, 93, none⟩), .pointer (some ⟨w.heap.size, 0, none⟩), .int .u64 153]) (w.alloc (.cells #[] 93)) := by kernel_rfl
theorem partsD_misfit (a : Addr) (w : World) : (ReflectliteValue.parts (.agg #[.pointer (some ⟨9, 93, none⟩), .pointer (some a), .int .u64 409])).run Tryd.prog w = .ok (some (93, a, 409)) w := by kernel_rfl
theorem partsS_misfit (a : Addr) (w : World) : (ReflectliteValue.parts (.agg #[.pointer (some ⟨9, 93, none⟩), .pointer (some a), .int .u64 153])).run Tryd.prog w = .ok (some (93, a, 153)) w := by kernel_rfl
theorem cells_misfit  : (#[] : Array Value).all (·.oneCell') = true := all_oneCell_toArray (cs := []) (fun v hv => by
  simp at hv)
theorem set_misfit  (tb bb : Nat) (W : World) (hb : W.rangeAt bb 0 []) (ht : W.there tb 0 0) :
    (ReflectliteValue.set #[.agg #[.pointer (some ⟨9, 93, none⟩), .pointer (some ⟨tb, 0, none⟩), .int .u64 409], .agg #[.pointer (some ⟨9, 93, none⟩), .pointer (some ⟨bb, 0, none⟩), .int .u64 153]]).run Tryd.prog W
      = .ok (.tuple #[]) (W.setCells tb 0 []) := by
  have e1 := run_loadVar_mid (P := Tryd.prog) W bb 0 93 [] _ hb Tryd.underlying93 rfl (by kernel_rfl)
  have e2 := run_storeVar_mid (P := Tryd.prog) W tb 0 93 #[] ht (by kernel_rfl) (cells_misfit )
  rw [rls]
  simp only [Sem.run_bind, partsD_misfit, partsS_misfit, Result.andThen]
  simp [ReflectliteValue.flagAddr, e1, e2, Result.andThen, direct_misfit]
theorem noAs_misfit (v : Value) (xT : TypeId) (w : World) : (Instr.typeAssert (.iface 93 v) xT 215 true).run Tryd.prog w = .ok (.tuple #[.nilIface, .bool false]) w := run_typeAssert_lacksB Tryd.underlying215 (by kernel_rfl) (by kernel_rfl) v xT w
theorem noWrap_misfit (v : Value) (xT : TypeId) (w : World) : (Instr.typeAssert (.iface 93 v) xT 218 true).run Tryd.prog w = .ok (.tuple #[.nilIface, .bool false]) w := run_typeAssert_lacksB Tryd.underlying218 (by kernel_rfl) (by kernel_rfl) v xT w
theorem noWraps_misfit (v : Value) (xT : TypeId) (w : World) : (Instr.typeAssert (.iface 93 v) xT 220 true).run Tryd.prog w = .ok (.tuple #[.nilIface, .bool false]) w := run_typeAssert_lacksB Tryd.underlying220 (by kernel_rfl) (by kernel_rfl) v xT w

theorem assignable_bad_bad (w : World) : (ReflectliteType.relation "AssignableTo" ReflectliteType.assignableTo #[.agg #[.pointer (some ⟨9, 151, none⟩)], .iface 210 (.agg #[.pointer (some ⟨9, 151, none⟩)])]).run Tryd.prog w = .ok (.bool true) w := by kernel_rfl
theorem assignable_bad_wrong (w : World) : (ReflectliteType.relation "AssignableTo" ReflectliteType.assignableTo #[.agg #[.pointer (some ⟨9, 151, none⟩)], .iface 210 (.agg #[.pointer (some ⟨9, 91, none⟩)])]).run Tryd.prog w = .ok (.bool false) w := by kernel_rfl
theorem assignable_bad_misfit (w : World) : (ReflectliteType.relation "AssignableTo" ReflectliteType.assignableTo #[.agg #[.pointer (some ⟨9, 151, none⟩)], .iface 210 (.agg #[.pointer (some ⟨9, 93, none⟩)])]).run Tryd.prog w = .ok (.bool false) w := by kernel_rfl
theorem assignable_wrong_bad (w : World) : (ReflectliteType.relation "AssignableTo" ReflectliteType.assignableTo #[.agg #[.pointer (some ⟨9, 91, none⟩)], .iface 210 (.agg #[.pointer (some ⟨9, 151, none⟩)])]).run Tryd.prog w = .ok (.bool false) w := by kernel_rfl
theorem assignable_wrong_wrong (w : World) : (ReflectliteType.relation "AssignableTo" ReflectliteType.assignableTo #[.agg #[.pointer (some ⟨9, 91, none⟩)], .iface 210 (.agg #[.pointer (some ⟨9, 91, none⟩)])]).run Tryd.prog w = .ok (.bool true) w := by kernel_rfl
theorem assignable_wrong_misfit (w : World) : (ReflectliteType.relation "AssignableTo" ReflectliteType.assignableTo #[.agg #[.pointer (some ⟨9, 91, none⟩)], .iface 210 (.agg #[.pointer (some ⟨9, 93, none⟩)])]).run Tryd.prog w = .ok (.bool false) w := by kernel_rfl
theorem assignable_misfit_bad (w : World) : (ReflectliteType.relation "AssignableTo" ReflectliteType.assignableTo #[.agg #[.pointer (some ⟨9, 93, none⟩)], .iface 210 (.agg #[.pointer (some ⟨9, 151, none⟩)])]).run Tryd.prog w = .ok (.bool false) w := by kernel_rfl
theorem assignable_misfit_wrong (w : World) : (ReflectliteType.relation "AssignableTo" ReflectliteType.assignableTo #[.agg #[.pointer (some ⟨9, 93, none⟩)], .iface 210 (.agg #[.pointer (some ⟨9, 91, none⟩)])]).run Tryd.prog w = .ok (.bool false) w := by kernel_rfl
theorem assignable_misfit_misfit (w : World) : (ReflectliteType.relation "AssignableTo" ReflectliteType.assignableTo #[.agg #[.pointer (some ⟨9, 93, none⟩)], .iface 210 (.agg #[.pointer (some ⟨9, 93, none⟩)])]).run Tryd.prog w = .ok (.bool true) w := by kernel_rfl
theorem methodKind (h : Value) (w : World) : (Go.method 398 210 (.agg #[h]) "Kind").run Tryd.prog w = .ok (208, h) w := by kernel_rfl
theorem methodElem (h : Value) (w : World) : (Go.method 398 210 (.agg #[h]) "Elem").run Tryd.prog w = .ok (221, .agg #[h]) w := by kernel_rfl
theorem methodImplements (h : Value) (w : World) : (Go.method 398 210 (.agg #[h]) "Implements").run Tryd.prog w = .ok (222, .agg #[h]) w := by kernel_rfl
theorem methodAssignableTo (h : Value) (w : World) : (Go.method 398 210 (.agg #[h]) "AssignableTo").run Tryd.prog w = .ok (219, .agg #[h]) w := by kernel_rfl
set_option maxRecDepth 100000 in
set_option maxHeartbeats 4000000 in
theorem asIn_bad (r : Int) (vb tb : Nat) (w : World) (ha : w.cell? ⟨vb, 0, none⟩ = some (.pointer (some ⟨tb, 0, none⟩))) (ht : w.there tb 0 1) :
    Calls Tryd.prog 115 #[.iface 151 (.agg #[.int .i64 r]), .iface 152 (.pointer (some ⟨tb, 0, none⟩)), .agg #[.pointer (some ⟨9, 152, none⟩), .pointer (some ⟨vb, 0, none⟩), .int .u64 150], .iface 210 (.agg #[.pointer (some ⟨9, 151, none⟩)])] w
      fun e w' => e = .returned (.bool true) ∧ ∃ w1, Below w.heap.size w w1 ∧ w' = w1.setCells tb 0 [.int .i64 r] := by
  have xvo := @run_callFunc_extern Tryd.prog 112 _ (fun args => ReflectliteValue.unpack (args.getD 0 (.tuple #[]))) Tryd.func112 (by kernel_rfl) (by kernel_rfl) (by kernel_rfl) (by kernel_rfl)
  have xty := @run_callFunc_extern Tryd.prog 113 _ (ReflectliteValue.methodAny (ReflectliteValue.valueError "reflectlite.Value.Type" 0) (fun t _ _ _ => ReflectliteType.toType t)) Tryd.func113 (by kernel_rfl) (by kernel_rfl) (by kernel_rfl) (by kernel_rfl)
  have xni := @run_callFunc_extern Tryd.prog 114 _ (ReflectliteValue.method (ReflectliteValue.valueError "reflectlite.Value.IsNil" 0) ReflectliteValue.isNil) Tryd.func114 (by kernel_rfl) (by kernel_rfl) (by kernel_rfl) (by kernel_rfl)
  have xki := @run_callFunc_extern Tryd.prog 208 _ (ReflectliteType.abiMethod fun t => do pure (.int .u8 (← Rtype.kind t))) Tryd.func208 (by kernel_rfl) (by kernel_rfl) (by kernel_rfl) (by kernel_rfl)
  have xel := @run_callFunc_extern Tryd.prog 221 _ (ReflectliteType.method ReflectliteType.elem) Tryd.func221 (by kernel_rfl) (by kernel_rfl) (by kernel_rfl) (by kernel_rfl)
  have xim := @run_callFunc_extern Tryd.prog 222 _ (ReflectliteType.relation "Implements" ReflectliteType.implements_) Tryd.func222 (by kernel_rfl) (by kernel_rfl) (by kernel_rfl) (by kernel_rfl)
  have xto := @run_callFunc_extern Tryd.prog 145 _ (ReflectliteType.typeOf) Tryd.func145 (by kernel_rfl) (by kernel_rfl) (by kernel_rfl) (by kernel_rfl)
  have xas := @run_callFunc_extern Tryd.prog 219 _ (ReflectliteType.relation "AssignableTo" ReflectliteType.assignableTo) Tryd.func219 (by kernel_rfl) (by kernel_rfl) (by kernel_rfl) (by kernel_rfl)
  have xev := @run_callFunc_extern Tryd.prog 146 _ (ReflectliteValue.method (ReflectliteValue.valueError "reflectlite.Value.Elem" 0) ReflectliteValue.elem) Tryd.func146 (by kernel_rfl) (by kernel_rfl) (by kernel_rfl) (by kernel_rfl)
  have xse := @run_callFunc_extern Tryd.prog 147 _ (ReflectliteValue.set) Tryd.func147 (by kernel_rfl) (by kernel_rfl) (by kernel_rfl) (by kernel_rfl)
  have tO := typeOfE_bad
  have mA := methodAssignableTo
  have aE := assignable_bad_bad
  have vE := valueOfE_bad r
  obtain ⟨q1, q2, q3, q4⟩ := nw2 w (.cells #[.pointer (some ⟨9, 152, none⟩), .pointer (some ⟨vb, 0, none⟩), .int .u64 150] 165) (.cells #[.int .i64 r] 151)
  have el := elemV_bad ⟨vb, 0, none⟩ ⟨tb, 0, none⟩ (w.alloc (.cells #[.pointer (some ⟨9, 152, none⟩), .pointer (some ⟨vb, 0, none⟩), .int .u64 150] 165)) (by rw [World.cell?_alloc_lt _ _ _ (block_of_cell ha)]; exact ha)
  have st := set_bad r tb (w.heap.size + 1) ((w.alloc (.cells #[.pointer (some ⟨9, 152, none⟩), .pointer (some ⟨vb, 0, none⟩), .int .u64 150] 165)).alloc (.cells #[.int .i64 r] 151)) (fun j v hv => by rw [Nat.zero_add, cell_of_row _ _ _ _ _ _ q2, ← hv]; simp) (World.there_alloc (World.there_alloc ht _) _)
  have Q3 := Lib.hid q3
  clear q1 q2 q3 q4
  go_enter Tryd.func115, Tryd.ntmps115
  go_wp2
  refine wp_loop_rounds 1 ?_
  rw [rounds_succ]
  go_wp2
  go_ret
  exact ⟨rfl, _, Q3.out, rfl⟩
set_option maxRecDepth 100000 in
set_option maxHeartbeats 4000000 in
theorem asIn_wrong (a b : Int) (vb tb : Nat) (w : World) (ha : w.cell? ⟨vb, 0, none⟩ = some (.pointer (some ⟨tb, 0, none⟩))) (ht : w.there tb 0 2) :
    Calls Tryd.prog 115 #[.iface 91 (.agg #[.int .u16 a, .int .u16 b]), .iface 95 (.pointer (some ⟨tb, 0, none⟩)), .agg #[.pointer (some ⟨9, 95, none⟩), .pointer (some ⟨vb, 0, none⟩), .int .u64 150], .iface 210 (.agg #[.pointer (some ⟨9, 91, none⟩)])] w
      fun e w' => e = .returned (.bool true) ∧ ∃ w1, Below w.heap.size w w1 ∧ w' = w1.setCells tb 0 [.int .u16 a, .int .u16 b] := by
  have xvo := @run_callFunc_extern Tryd.prog 112 _ (fun args => ReflectliteValue.unpack (args.getD 0 (.tuple #[]))) Tryd.func112 (by kernel_rfl) (by kernel_rfl) (by kernel_rfl) (by kernel_rfl)
  have xty := @run_callFunc_extern Tryd.prog 113 _ (ReflectliteValue.methodAny (ReflectliteValue.valueError "reflectlite.Value.Type" 0) (fun t _ _ _ => ReflectliteType.toType t)) Tryd.func113 (by kernel_rfl) (by kernel_rfl) (by kernel_rfl) (by kernel_rfl)
  have xni := @run_callFunc_extern Tryd.prog 114 _ (ReflectliteValue.method (ReflectliteValue.valueError "reflectlite.Value.IsNil" 0) ReflectliteValue.isNil) Tryd.func114 (by kernel_rfl) (by kernel_rfl) (by kernel_rfl) (by kernel_rfl)
  have xki := @run_callFunc_extern Tryd.prog 208 _ (ReflectliteType.abiMethod fun t => do pure (.int .u8 (← Rtype.kind t))) Tryd.func208 (by kernel_rfl) (by kernel_rfl) (by kernel_rfl) (by kernel_rfl)
  have xel := @run_callFunc_extern Tryd.prog 221 _ (ReflectliteType.method ReflectliteType.elem) Tryd.func221 (by kernel_rfl) (by kernel_rfl) (by kernel_rfl) (by kernel_rfl)
  have xim := @run_callFunc_extern Tryd.prog 222 _ (ReflectliteType.relation "Implements" ReflectliteType.implements_) Tryd.func222 (by kernel_rfl) (by kernel_rfl) (by kernel_rfl) (by kernel_rfl)
  have xto := @run_callFunc_extern Tryd.prog 145 _ (ReflectliteType.typeOf) Tryd.func145 (by kernel_rfl) (by kernel_rfl) (by kernel_rfl) (by kernel_rfl)
  have xas := @run_callFunc_extern Tryd.prog 219 _ (ReflectliteType.relation "AssignableTo" ReflectliteType.assignableTo) Tryd.func219 (by kernel_rfl) (by kernel_rfl) (by kernel_rfl) (by kernel_rfl)
  have xev := @run_callFunc_extern Tryd.prog 146 _ (ReflectliteValue.method (ReflectliteValue.valueError "reflectlite.Value.Elem" 0) ReflectliteValue.elem) Tryd.func146 (by kernel_rfl) (by kernel_rfl) (by kernel_rfl) (by kernel_rfl)
  have xse := @run_callFunc_extern Tryd.prog 147 _ (ReflectliteValue.set) Tryd.func147 (by kernel_rfl) (by kernel_rfl) (by kernel_rfl) (by kernel_rfl)
  have tO := typeOfE_wrong
  have mA := methodAssignableTo
  have aE := assignable_wrong_wrong
  have vE := valueOfE_wrong a b
  obtain ⟨q1, q2, q3, q4⟩ := nw2 w (.cells #[.pointer (some ⟨9, 95, none⟩), .pointer (some ⟨vb, 0, none⟩), .int .u64 150] 165) (.cells #[.int .u16 a, .int .u16 b] 91)
  have el := elemV_wrong ⟨vb, 0, none⟩ ⟨tb, 0, none⟩ (w.alloc (.cells #[.pointer (some ⟨9, 95, none⟩), .pointer (some ⟨vb, 0, none⟩), .int .u64 150] 165)) (by rw [World.cell?_alloc_lt _ _ _ (block_of_cell ha)]; exact ha)
  have st := set_wrong a b tb (w.heap.size + 1) ((w.alloc (.cells #[.pointer (some ⟨9, 95, none⟩), .pointer (some ⟨vb, 0, none⟩), .int .u64 150] 165)).alloc (.cells #[.int .u16 a, .int .u16 b] 91)) (fun j v hv => by rw [Nat.zero_add, cell_of_row _ _ _ _ _ _ q2, ← hv]; simp) (World.there_alloc (World.there_alloc ht _) _)
  have Q3 := Lib.hid q3
  clear q1 q2 q3 q4
  go_enter Tryd.func115, Tryd.ntmps115
  go_wp2
  refine wp_loop_rounds 1 ?_
  rw [rounds_succ]
  go_wp2
  go_ret
  exact ⟨rfl, _, Q3.out, rfl⟩
set_option maxRecDepth 100000 in
set_option maxHeartbeats 4000000 in
theorem asIn_misfit  (vb tb : Nat) (w : World) (ha : w.cell? ⟨vb, 0, none⟩ = some (.pointer (some ⟨tb, 0, none⟩))) (ht : w.there tb 0 0) :
    Calls Tryd.prog 115 #[.iface 93 (.agg #[]), .iface 96 (.pointer (some ⟨tb, 0, none⟩)), .agg #[.pointer (some ⟨9, 96, none⟩), .pointer (some ⟨vb, 0, none⟩), .int .u64 150], .iface 210 (.agg #[.pointer (some ⟨9, 93, none⟩)])] w
      fun e w' => e = .returned (.bool true) ∧ ∃ w1, Below w.heap.size w w1 ∧ w' = w1.setCells tb 0 [] := by
  have xvo := @run_callFunc_extern Tryd.prog 112 _ (fun args => ReflectliteValue.unpack (args.getD 0 (.tuple #[]))) Tryd.func112 (by kernel_rfl) (by kernel_rfl) (by kernel_rfl) (by kernel_rfl)
  have xty := @run_callFunc_extern Tryd.prog 113 _ (ReflectliteValue.methodAny (ReflectliteValue.valueError "reflectlite.Value.Type" 0) (fun t _ _ _ => ReflectliteType.toType t)) Tryd.func113 (by kernel_rfl) (by kernel_rfl) (by kernel_rfl) (by kernel_rfl)
  have xni := @run_callFunc_extern Tryd.prog 114 _ (ReflectliteValue.method (ReflectliteValue.valueError "reflectlite.Value.IsNil" 0) ReflectliteValue.isNil) Tryd.func114 (by kernel_rfl) (by kernel_rfl) (by kernel_rfl) (by kernel_rfl)
  have xki := @run_callFunc_extern Tryd.prog 208 _ (ReflectliteType.abiMethod fun t => do pure (.int .u8 (← Rtype.kind t))) Tryd.func208 (by kernel_rfl) (by kernel_rfl) (by kernel_rfl) (by kernel_rfl)
  have xel := @run_callFunc_extern Tryd.prog 221 _ (ReflectliteType.method ReflectliteType.elem) Tryd.func221 (by kernel_rfl) (by kernel_rfl) (by kernel_rfl) (by kernel_rfl)
  have xim := @run_callFunc_extern Tryd.prog 222 _ (ReflectliteType.relation "Implements" ReflectliteType.implements_) Tryd.func222 (by kernel_rfl) (by kernel_rfl) (by kernel_rfl) (by kernel_rfl)
  have xto := @run_callFunc_extern Tryd.prog 145 _ (ReflectliteType.typeOf) Tryd.func145 (by kernel_rfl) (by kernel_rfl) (by kernel_rfl) (by kernel_rfl)
  have xas := @run_callFunc_extern Tryd.prog 219 _ (ReflectliteType.relation "AssignableTo" ReflectliteType.assignableTo) Tryd.func219 (by kernel_rfl) (by kernel_rfl) (by kernel_rfl) (by kernel_rfl)
  have xev := @run_callFunc_extern Tryd.prog 146 _ (ReflectliteValue.method (ReflectliteValue.valueError "reflectlite.Value.Elem" 0) ReflectliteValue.elem) Tryd.func146 (by kernel_rfl) (by kernel_rfl) (by kernel_rfl) (by kernel_rfl)
  have xse := @run_callFunc_extern Tryd.prog 147 _ (ReflectliteValue.set) Tryd.func147 (by kernel_rfl) (by kernel_rfl) (by kernel_rfl) (by kernel_rfl)
  have tO := typeOfE_misfit
  have mA := methodAssignableTo
  have aE := assignable_misfit_misfit
  have vE := valueOfE_misfit 
  obtain ⟨q1, q2, q3, q4⟩ := nw2 w (.cells #[.pointer (some ⟨9, 96, none⟩), .pointer (some ⟨vb, 0, none⟩), .int .u64 150] 165) (.cells #[] 93)
  have el := elemV_misfit ⟨vb, 0, none⟩ ⟨tb, 0, none⟩ (w.alloc (.cells #[.pointer (some ⟨9, 96, none⟩), .pointer (some ⟨vb, 0, none⟩), .int .u64 150] 165)) (by rw [World.cell?_alloc_lt _ _ _ (block_of_cell ha)]; exact ha)
  have st := set_misfit  tb (w.heap.size + 1) ((w.alloc (.cells #[.pointer (some ⟨9, 96, none⟩), .pointer (some ⟨vb, 0, none⟩), .int .u64 150] 165)).alloc (.cells #[] 93)) (fun j v hv => by rw [Nat.zero_add, cell_of_row _ _ _ _ _ _ q2, ← hv]; simp) (World.there_alloc (World.there_alloc ht _) _)
  have Q3 := Lib.hid q3
  clear q1 q2 q3 q4
  go_enter Tryd.func115, Tryd.ntmps115
  go_wp2
  refine wp_loop_rounds 1 ?_
  rw [rounds_succ]
  go_wp2
  go_ret
  exact ⟨rfl, _, Q3.out, rfl⟩
set_option maxRecDepth 100000 in
set_option maxHeartbeats 4000000 in
theorem asInMiss_bad_wrong (r : Int) (vb tb : Nat) (w : World) :
    Calls Tryd.prog 115 #[.iface 151 (.agg #[.int .i64 r]), .iface 95 (.pointer (some ⟨tb, 0, none⟩)), .agg #[.pointer (some ⟨9, 95, none⟩), .pointer (some ⟨vb, 0, none⟩), .int .u64 150], .iface 210 (.agg #[.pointer (some ⟨9, 91, none⟩)])] w
      fun e w' => e = .returned (.bool false) ∧ Below w.heap.size w w' := by
  have xvo := @run_callFunc_extern Tryd.prog 112 _ (fun args => ReflectliteValue.unpack (args.getD 0 (.tuple #[]))) Tryd.func112 (by kernel_rfl) (by kernel_rfl) (by kernel_rfl) (by kernel_rfl)
  have xty := @run_callFunc_extern Tryd.prog 113 _ (ReflectliteValue.methodAny (ReflectliteValue.valueError "reflectlite.Value.Type" 0) (fun t _ _ _ => ReflectliteType.toType t)) Tryd.func113 (by kernel_rfl) (by kernel_rfl) (by kernel_rfl) (by kernel_rfl)
  have xni := @run_callFunc_extern Tryd.prog 114 _ (ReflectliteValue.method (ReflectliteValue.valueError "reflectlite.Value.IsNil" 0) ReflectliteValue.isNil) Tryd.func114 (by kernel_rfl) (by kernel_rfl) (by kernel_rfl) (by kernel_rfl)
  have xki := @run_callFunc_extern Tryd.prog 208 _ (ReflectliteType.abiMethod fun t => do pure (.int .u8 (← Rtype.kind t))) Tryd.func208 (by kernel_rfl) (by kernel_rfl) (by kernel_rfl) (by kernel_rfl)
  have xel := @run_callFunc_extern Tryd.prog 221 _ (ReflectliteType.method ReflectliteType.elem) Tryd.func221 (by kernel_rfl) (by kernel_rfl) (by kernel_rfl) (by kernel_rfl)
  have xim := @run_callFunc_extern Tryd.prog 222 _ (ReflectliteType.relation "Implements" ReflectliteType.implements_) Tryd.func222 (by kernel_rfl) (by kernel_rfl) (by kernel_rfl) (by kernel_rfl)
  have xto := @run_callFunc_extern Tryd.prog 145 _ (ReflectliteType.typeOf) Tryd.func145 (by kernel_rfl) (by kernel_rfl) (by kernel_rfl) (by kernel_rfl)
  have xas := @run_callFunc_extern Tryd.prog 219 _ (ReflectliteType.relation "AssignableTo" ReflectliteType.assignableTo) Tryd.func219 (by kernel_rfl) (by kernel_rfl) (by kernel_rfl) (by kernel_rfl)
  have xev := @run_callFunc_extern Tryd.prog 146 _ (ReflectliteValue.method (ReflectliteValue.valueError "reflectlite.Value.Elem" 0) ReflectliteValue.elem) Tryd.func146 (by kernel_rfl) (by kernel_rfl) (by kernel_rfl) (by kernel_rfl)
  have xse := @run_callFunc_extern Tryd.prog 147 _ (ReflectliteValue.set) Tryd.func147 (by kernel_rfl) (by kernel_rfl) (by kernel_rfl) (by kernel_rfl)
  have tO := typeOfE_bad
  have mA := methodAssignableTo
  have aE := assignable_bad_wrong
  have n1 := noAs_bad
  have n2 := noWrap_bad
  have n3 := noWraps_bad
  have HB := Lib.hid (nw1 w (.cells #[.pointer (some ⟨9, 95, none⟩), .pointer (some ⟨vb, 0, none⟩), .int .u64 150] 165)).2.1
  go_enter Tryd.func115, Tryd.ntmps115
  go_wp2
  refine wp_loop_rounds 1 ?_
  rw [rounds_succ]
  go_wp2
  go_ret
  exact ⟨rfl, HB.out⟩
set_option maxRecDepth 100000 in
set_option maxHeartbeats 4000000 in
theorem asInMiss_bad_misfit (r : Int) (vb tb : Nat) (w : World) :
    Calls Tryd.prog 115 #[.iface 151 (.agg #[.int .i64 r]), .iface 96 (.pointer (some ⟨tb, 0, none⟩)), .agg #[.pointer (some ⟨9, 96, none⟩), .pointer (some ⟨vb, 0, none⟩), .int .u64 150], .iface 210 (.agg #[.pointer (some ⟨9, 93, none⟩)])] w
      fun e w' => e = .returned (.bool false) ∧ Below w.heap.size w w' := by
  have xvo := @run_callFunc_extern Tryd.prog 112 _ (fun args => ReflectliteValue.unpack (args.getD 0 (.tuple #[]))) Tryd.func112 (by kernel_rfl) (by kernel_rfl) (by kernel_rfl) (by kernel_rfl)
  have xty := @run_callFunc_extern Tryd.prog 113 _ (ReflectliteValue.methodAny (ReflectliteValue.valueError "reflectlite.Value.Type" 0) (fun t _ _ _ => ReflectliteType.toType t)) Tryd.func113 (by kernel_rfl) (by kernel_rfl) (by kernel_rfl) (by kernel_rfl)
  have xni := @run_callFunc_extern Tryd.prog 114 _ (ReflectliteValue.method (ReflectliteValue.valueError "reflectlite.Value.IsNil" 0) ReflectliteValue.isNil) Tryd.func114 (by kernel_rfl) (by kernel_rfl) (by kernel_rfl) (by kernel_rfl)
  have xki := @run_callFunc_extern Tryd.prog 208 _ (ReflectliteType.abiMethod fun t => do pure (.int .u8 (← Rtype.kind t))) Tryd.func208 (by kernel_rfl) (by kernel_rfl) (by kernel_rfl) (by kernel_rfl)
  have xel := @run_callFunc_extern Tryd.prog 221 _ (ReflectliteType.method ReflectliteType.elem) Tryd.func221 (by kernel_rfl) (by kernel_rfl) (by kernel_rfl) (by kernel_rfl)
  have xim := @run_callFunc_extern Tryd.prog 222 _ (ReflectliteType.relation "Implements" ReflectliteType.implements_) Tryd.func222 (by kernel_rfl) (by kernel_rfl) (by kernel_rfl) (by kernel_rfl)
  have xto := @run_callFunc_extern Tryd.prog 145 _ (ReflectliteType.typeOf) Tryd.func145 (by kernel_rfl) (by kernel_rfl) (by kernel_rfl) (by kernel_rfl)
  have xas := @run_callFunc_extern Tryd.prog 219 _ (ReflectliteType.relation "AssignableTo" ReflectliteType.assignableTo) Tryd.func219 (by kernel_rfl) (by kernel_rfl) (by kernel_rfl) (by kernel_rfl)
  have xev := @run_callFunc_extern Tryd.prog 146 _ (ReflectliteValue.method (ReflectliteValue.valueError "reflectlite.Value.Elem" 0) ReflectliteValue.elem) Tryd.func146 (by kernel_rfl) (by kernel_rfl) (by kernel_rfl) (by kernel_rfl)
  have xse := @run_callFunc_extern Tryd.prog 147 _ (ReflectliteValue.set) Tryd.func147 (by kernel_rfl) (by kernel_rfl) (by kernel_rfl) (by kernel_rfl)
  have tO := typeOfE_bad
  have mA := methodAssignableTo
  have aE := assignable_bad_misfit
  have n1 := noAs_bad
  have n2 := noWrap_bad
  have n3 := noWraps_bad
  have HB := Lib.hid (nw1 w (.cells #[.pointer (some ⟨9, 96, none⟩), .pointer (some ⟨vb, 0, none⟩), .int .u64 150] 165)).2.1
  go_enter Tryd.func115, Tryd.ntmps115
  go_wp2
  refine wp_loop_rounds 1 ?_
  rw [rounds_succ]
  go_wp2
  go_ret
  exact ⟨rfl, HB.out⟩
set_option maxRecDepth 100000 in
set_option maxHeartbeats 4000000 in
theorem asInMiss_wrong_bad (a b : Int) (vb tb : Nat) (w : World) :
    Calls Tryd.prog 115 #[.iface 91 (.agg #[.int .u16 a, .int .u16 b]), .iface 152 (.pointer (some ⟨tb, 0, none⟩)), .agg #[.pointer (some ⟨9, 152, none⟩), .pointer (some ⟨vb, 0, none⟩), .int .u64 150], .iface 210 (.agg #[.pointer (some ⟨9, 151, none⟩)])] w
      fun e w' => e = .returned (.bool false) ∧ Below w.heap.size w w' := by
  have xvo := @run_callFunc_extern Tryd.prog 112 _ (fun args => ReflectliteValue.unpack (args.getD 0 (.tuple #[]))) Tryd.func112 (by kernel_rfl) (by kernel_rfl) (by kernel_rfl) (by kernel_rfl)
  have xty := @run_callFunc_extern Tryd.prog 113 _ (ReflectliteValue.methodAny (ReflectliteValue.valueError "reflectlite.Value.Type" 0) (fun t _ _ _ => ReflectliteType.toType t)) Tryd.func113 (by kernel_rfl) (by kernel_rfl) (by kernel_rfl) (by kernel_rfl)
  have xni := @run_callFunc_extern Tryd.prog 114 _ (ReflectliteValue.method (ReflectliteValue.valueError "reflectlite.Value.IsNil" 0) ReflectliteValue.isNil) Tryd.func114 (by kernel_rfl) (by kernel_rfl) (by kernel_rfl) (by kernel_rfl)
  have xki := @run_callFunc_extern Tryd.prog 208 _ (ReflectliteType.abiMethod fun t => do pure (.int .u8 (← Rtype.kind t))) Tryd.func208 (by kernel_rfl) (by kernel_rfl) (by kernel_rfl) (by kernel_rfl)
  have xel := @run_callFunc_extern Tryd.prog 221 _ (ReflectliteType.method ReflectliteType.elem) Tryd.func221 (by kernel_rfl) (by kernel_rfl) (by kernel_rfl) (by kernel_rfl)
  have xim := @run_callFunc_extern Tryd.prog 222 _ (ReflectliteType.relation "Implements" ReflectliteType.implements_) Tryd.func222 (by kernel_rfl) (by kernel_rfl) (by kernel_rfl) (by kernel_rfl)
  have xto := @run_callFunc_extern Tryd.prog 145 _ (ReflectliteType.typeOf) Tryd.func145 (by kernel_rfl) (by kernel_rfl) (by kernel_rfl) (by kernel_rfl)
  have xas := @run_callFunc_extern Tryd.prog 219 _ (ReflectliteType.relation "AssignableTo" ReflectliteType.assignableTo) Tryd.func219 (by kernel_rfl) (by kernel_rfl) (by kernel_rfl) (by kernel_rfl)
  have xev := @run_callFunc_extern Tryd.prog 146 _ (ReflectliteValue.method (ReflectliteValue.valueError "reflectlite.Value.Elem" 0) ReflectliteValue.elem) Tryd.func146 (by kernel_rfl) (by kernel_rfl) (by kernel_rfl) (by kernel_rfl)
  have xse := @run_callFunc_extern Tryd.prog 147 _ (ReflectliteValue.set) Tryd.func147 (by kernel_rfl) (by kernel_rfl) (by kernel_rfl) (by kernel_rfl)
  have tO := typeOfE_wrong
  have mA := methodAssignableTo
  have aE := assignable_wrong_bad
  have n1 := noAs_wrong
  have n2 := noWrap_wrong
  have n3 := noWraps_wrong
  have HB := Lib.hid (nw1 w (.cells #[.pointer (some ⟨9, 152, none⟩), .pointer (some ⟨vb, 0, none⟩), .int .u64 150] 165)).2.1
  go_enter Tryd.func115, Tryd.ntmps115
  go_wp2
  refine wp_loop_rounds 1 ?_
  rw [rounds_succ]
  go_wp2
  go_ret
  exact ⟨rfl, HB.out⟩
set_option maxRecDepth 100000 in
set_option maxHeartbeats 4000000 in
theorem asInMiss_wrong_misfit (a b : Int) (vb tb : Nat) (w : World) :
    Calls Tryd.prog 115 #[.iface 91 (.agg #[.int .u16 a, .int .u16 b]), .iface 96 (.pointer (some ⟨tb, 0, none⟩)), .agg #[.pointer (some ⟨9, 96, none⟩), .pointer (some ⟨vb, 0, none⟩), .int .u64 150], .iface 210 (.agg #[.pointer (some ⟨9, 93, none⟩)])] w
      fun e w' => e = .returned (.bool false) ∧ Below w.heap.size w w' := by
  have xvo := @run_callFunc_extern Tryd.prog 112 _ (fun args => ReflectliteValue.unpack (args.getD 0 (.tuple #[]))) Tryd.func112 (by kernel_rfl) (by kernel_rfl) (by kernel_rfl) (by kernel_rfl)
  have xty := @run_callFunc_extern Tryd.prog 113 _ (ReflectliteValue.methodAny (ReflectliteValue.valueError "reflectlite.Value.Type" 0) (fun t _ _ _ => ReflectliteType.toType t)) Tryd.func113 (by kernel_rfl) (by kernel_rfl) (by kernel_rfl) (by kernel_rfl)
  have xni := @run_callFunc_extern Tryd.prog 114 _ (ReflectliteValue.method (ReflectliteValue.valueError "reflectlite.Value.IsNil" 0) ReflectliteValue.isNil) Tryd.func114 (by kernel_rfl) (by kernel_rfl) (by kernel_rfl) (by kernel_rfl)
  have xki := @run_callFunc_extern Tryd.prog 208 _ (ReflectliteType.abiMethod fun t => do pure (.int .u8 (← Rtype.kind t))) Tryd.func208 (by kernel_rfl) (by kernel_rfl) (by kernel_rfl) (by kernel_rfl)
  have xel := @run_callFunc_extern Tryd.prog 221 _ (ReflectliteType.method ReflectliteType.elem) Tryd.func221 (by kernel_rfl) (by kernel_rfl) (by kernel_rfl) (by kernel_rfl)
  have xim := @run_callFunc_extern Tryd.prog 222 _ (ReflectliteType.relation "Implements" ReflectliteType.implements_) Tryd.func222 (by kernel_rfl) (by kernel_rfl) (by kernel_rfl) (by kernel_rfl)
  have xto := @run_callFunc_extern Tryd.prog 145 _ (ReflectliteType.typeOf) Tryd.func145 (by kernel_rfl) (by kernel_rfl) (by kernel_rfl) (by kernel_rfl)
  have xas := @run_callFunc_extern Tryd.prog 219 _ (ReflectliteType.relation "AssignableTo" ReflectliteType.assignableTo) Tryd.func219 (by kernel_rfl) (by kernel_rfl) (by kernel_rfl) (by kernel_rfl)
  have xev := @run_callFunc_extern Tryd.prog 146 _ (ReflectliteValue.method (ReflectliteValue.valueError "reflectlite.Value.Elem" 0) ReflectliteValue.elem) Tryd.func146 (by kernel_rfl) (by kernel_rfl) (by kernel_rfl) (by kernel_rfl)
  have xse := @run_callFunc_extern Tryd.prog 147 _ (ReflectliteValue.set) Tryd.func147 (by kernel_rfl) (by kernel_rfl) (by kernel_rfl) (by kernel_rfl)
  have tO := typeOfE_wrong
  have mA := methodAssignableTo
  have aE := assignable_wrong_misfit
  have n1 := noAs_wrong
  have n2 := noWrap_wrong
  have n3 := noWraps_wrong
  have HB := Lib.hid (nw1 w (.cells #[.pointer (some ⟨9, 96, none⟩), .pointer (some ⟨vb, 0, none⟩), .int .u64 150] 165)).2.1
  go_enter Tryd.func115, Tryd.ntmps115
  go_wp2
  refine wp_loop_rounds 1 ?_
  rw [rounds_succ]
  go_wp2
  go_ret
  exact ⟨rfl, HB.out⟩
set_option maxRecDepth 100000 in
set_option maxHeartbeats 4000000 in
theorem asInMiss_misfit_bad  (vb tb : Nat) (w : World) :
    Calls Tryd.prog 115 #[.iface 93 (.agg #[]), .iface 152 (.pointer (some ⟨tb, 0, none⟩)), .agg #[.pointer (some ⟨9, 152, none⟩), .pointer (some ⟨vb, 0, none⟩), .int .u64 150], .iface 210 (.agg #[.pointer (some ⟨9, 151, none⟩)])] w
      fun e w' => e = .returned (.bool false) ∧ Below w.heap.size w w' := by
  have xvo := @run_callFunc_extern Tryd.prog 112 _ (fun args => ReflectliteValue.unpack (args.getD 0 (.tuple #[]))) Tryd.func112 (by kernel_rfl) (by kernel_rfl) (by kernel_rfl) (by kernel_rfl)
  have xty := @run_callFunc_extern Tryd.prog 113 _ (ReflectliteValue.methodAny (ReflectliteValue.valueError "reflectlite.Value.Type" 0) (fun t _ _ _ => ReflectliteType.toType t)) Tryd.func113 (by kernel_rfl) (by kernel_rfl) (by kernel_rfl) (by kernel_rfl)
  have xni := @run_callFunc_extern Tryd.prog 114 _ (ReflectliteValue.method (ReflectliteValue.valueError "reflectlite.Value.IsNil" 0) ReflectliteValue.isNil) Tryd.func114 (by kernel_rfl) (by kernel_rfl) (by kernel_rfl) (by kernel_rfl)
  have xki := @run_callFunc_extern Tryd.prog 208 _ (ReflectliteType.abiMethod fun t => do pure (.int .u8 (← Rtype.kind t))) Tryd.func208 (by kernel_rfl) (by kernel_rfl) (by kernel_rfl) (by kernel_rfl)
  have xel := @run_callFunc_extern Tryd.prog 221 _ (ReflectliteType.method ReflectliteType.elem) Tryd.func221 (by kernel_rfl) (by kernel_rfl) (by kernel_rfl) (by kernel_rfl)
  have xim := @run_callFunc_extern Tryd.prog 222 _ (ReflectliteType.relation "Implements" ReflectliteType.implements_) Tryd.func222 (by kernel_rfl) (by kernel_rfl) (by kernel_rfl) (by kernel_rfl)
  have xto := @run_callFunc_extern Tryd.prog 145 _ (ReflectliteType.typeOf) Tryd.func145 (by kernel_rfl) (by kernel_rfl) (by kernel_rfl) (by kernel_rfl)
  have xas := @run_callFunc_extern Tryd.prog 219 _ (ReflectliteType.relation "AssignableTo" ReflectliteType.assignableTo) Tryd.func219 (by kernel_rfl) (by kernel_rfl) (by kernel_rfl) (by kernel_rfl)
  have xev := @run_callFunc_extern Tryd.prog 146 _ (ReflectliteValue.method (ReflectliteValue.valueError "reflectlite.Value.Elem" 0) ReflectliteValue.elem) Tryd.func146 (by kernel_rfl) (by kernel_rfl) (by kernel_rfl) (by kernel_rfl)
  have xse := @run_callFunc_extern Tryd.prog 147 _ (ReflectliteValue.set) Tryd.func147 (by kernel_rfl) (by kernel_rfl) (by kernel_rfl) (by kernel_rfl)
  have tO := typeOfE_misfit
  have mA := methodAssignableTo
  have aE := assignable_misfit_bad
  have n1 := noAs_misfit
  have n2 := noWrap_misfit
  have n3 := noWraps_misfit
  have HB := Lib.hid (nw1 w (.cells #[.pointer (some ⟨9, 152, none⟩), .pointer (some ⟨vb, 0, none⟩), .int .u64 150] 165)).2.1
  go_enter Tryd.func115, Tryd.ntmps115
  go_wp2
  refine wp_loop_rounds 1 ?_
  rw [rounds_succ]
  go_wp2
  go_ret
  exact ⟨rfl, HB.out⟩
set_option maxRecDepth 100000 in
set_option maxHeartbeats 4000000 in
theorem asInMiss_misfit_wrong  (vb tb : Nat) (w : World) :
    Calls Tryd.prog 115 #[.iface 93 (.agg #[]), .iface 95 (.pointer (some ⟨tb, 0, none⟩)), .agg #[.pointer (some ⟨9, 95, none⟩), .pointer (some ⟨vb, 0, none⟩), .int .u64 150], .iface 210 (.agg #[.pointer (some ⟨9, 91, none⟩)])] w
      fun e w' => e = .returned (.bool false) ∧ Below w.heap.size w w' := by
  have xvo := @run_callFunc_extern Tryd.prog 112 _ (fun args => ReflectliteValue.unpack (args.getD 0 (.tuple #[]))) Tryd.func112 (by kernel_rfl) (by kernel_rfl) (by kernel_rfl) (by kernel_rfl)
  have xty := @run_callFunc_extern Tryd.prog 113 _ (ReflectliteValue.methodAny (ReflectliteValue.valueError "reflectlite.Value.Type" 0) (fun t _ _ _ => ReflectliteType.toType t)) Tryd.func113 (by kernel_rfl) (by kernel_rfl) (by kernel_rfl) (by kernel_rfl)
  have xni := @run_callFunc_extern Tryd.prog 114 _ (ReflectliteValue.method (ReflectliteValue.valueError "reflectlite.Value.IsNil" 0) ReflectliteValue.isNil) Tryd.func114 (by kernel_rfl) (by kernel_rfl) (by kernel_rfl) (by kernel_rfl)
  have xki := @run_callFunc_extern Tryd.prog 208 _ (ReflectliteType.abiMethod fun t => do pure (.int .u8 (← Rtype.kind t))) Tryd.func208 (by kernel_rfl) (by kernel_rfl) (by kernel_rfl) (by kernel_rfl)
  have xel := @run_callFunc_extern Tryd.prog 221 _ (ReflectliteType.method ReflectliteType.elem) Tryd.func221 (by kernel_rfl) (by kernel_rfl) (by kernel_rfl) (by kernel_rfl)
  have xim := @run_callFunc_extern Tryd.prog 222 _ (ReflectliteType.relation "Implements" ReflectliteType.implements_) Tryd.func222 (by kernel_rfl) (by kernel_rfl) (by kernel_rfl) (by kernel_rfl)
  have xto := @run_callFunc_extern Tryd.prog 145 _ (ReflectliteType.typeOf) Tryd.func145 (by kernel_rfl) (by kernel_rfl) (by kernel_rfl) (by kernel_rfl)
  have xas := @run_callFunc_extern Tryd.prog 219 _ (ReflectliteType.relation "AssignableTo" ReflectliteType.assignableTo) Tryd.func219 (by kernel_rfl) (by kernel_rfl) (by kernel_rfl) (by kernel_rfl)
  have xev := @run_callFunc_extern Tryd.prog 146 _ (ReflectliteValue.method (ReflectliteValue.valueError "reflectlite.Value.Elem" 0) ReflectliteValue.elem) Tryd.func146 (by kernel_rfl) (by kernel_rfl) (by kernel_rfl) (by kernel_rfl)
  have xse := @run_callFunc_extern Tryd.prog 147 _ (ReflectliteValue.set) Tryd.func147 (by kernel_rfl) (by kernel_rfl) (by kernel_rfl) (by kernel_rfl)
  have tO := typeOfE_misfit
  have mA := methodAssignableTo
  have aE := assignable_misfit_wrong
  have n1 := noAs_misfit
  have n2 := noWrap_misfit
  have n3 := noWraps_misfit
  have HB := Lib.hid (nw1 w (.cells #[.pointer (some ⟨9, 95, none⟩), .pointer (some ⟨vb, 0, none⟩), .int .u64 150] 165)).2.1
  go_enter Tryd.func115, Tryd.ntmps115
  go_wp2
  refine wp_loop_rounds 1 ?_
  rw [rounds_succ]
  go_wp2
  go_ret
  exact ⟨rfl, HB.out⟩
end Go.Proofs.YtedcfmdgcafnmaaDoor
