/-
  The least number that is not excluded: both sides.
-/
import Derived.Test.YtklddmmbbaaliaaLawD
import Derived.Great.Walk
import Derived.Laws.Tables
import Derived.ChangeKeysEq
import Derived.OwnWalk
import Derived.ChangeSame
import Derived.WideShapes
import Derived.OpenShut
import Derived.Below
import Derived.Deep.Strs
import Derived.Deep.MidRow
import Derived.DeepKeys
import Derived.Laws.CopyOwn
import Derived.Deep.WholeRow
import Derived.Deep.RegionHeld
import Derived.StillTailTactics
import Derived.Deep.Cut
namespace Go.Proofs.Ytklddmmbbaaliaa
set_option linter.unusedVariables false
set_option linter.unusedSimpArgs false
open Go.ChangeShapes Go.WideShapes Go.ChangeAt Go.RowKit
def isF : Value → Bool | .bool b => !b | _ => false
theorem isF_eq {v : Value} (h : isF v = true) : v = .bool false := by
  cases v <;> simp_all [isF]
theorem za : ((Try.prog.info? 42).bind (·.zero)).map (fun z => z.cells.toList.all isF) = some true := by kernel_rfl
theorem zb : (Try.prog.info? 42).map (fun i => (i.size, i.zero.isSome)) = some (65537, true) := by kernel_rfl
theorem zc : ((Try.prog.info? 42).bind (·.zero)).map (fun z => z.cells.size) = some 65537 := by kernel_rfl
theorem zu : Try.prog.underlying 42 = some (.array 65537 4) := by kernel_rfl
def BL (n : Nat) (f : Nat → Bool) : List Value := (List.range n).map fun t => .bool (f t)
theorem BL_len (n : Nat) (f : Nat → Bool) : (BL n f).length = n := by simp [BL]
theorem BL_at (n : Nat) (f : Nat → Bool) (t : Nat) (h : t < n) : (BL n f)[t]? = some (.bool (f t)) := by simp [BL, h]
def updB (f : Nat → Bool) (s : Nat) : Nat → Bool := fun t => if t = s then true else f t
theorem BL_set (n : Nat) (f : Nat → Bool) (s : Nat) (h : s < n) : (BL n f).set s (.bool true) = BL n (updB f s) := by
  apply List.ext_getElem?
  intro i
  rw [List.getElem?_set]
  by_cases hi : i < n
  · rw [BL_at n (updB f s) i hi]
    by_cases e : s = i
    · subst e; simp [BL_len, h, updB]
    · rw [if_neg e, BL_at n f i hi]
      have e' : ¬ i = s := fun x => e x.symm
      simp [updB, e']
  · have h1 : (BL n f)[i]? = none := List.getElem?_eq_none (by rw [BL_len]; omega)
    have h2 : (BL n (updB f s))[i]? = none := List.getElem?_eq_none (by rw [BL_len]; omega)
    rw [h1, h2, if_neg (by omega)]
theorem zeroB : ∃ (it : TypeInfo), Try.prog.info? 42 = some it ∧ it.zero = some (.agg (BL 65537 fun _ => false).toArray) ∧ it.size = 65537 := by
  have h1 := za
  have h2 := zb
  have h3 := zc
  generalize Try.prog.info? 42 = oi at h1 h2 h3 ⊢
  cases oi with
  | none => simp at h2
  | some it =>
    cases hz : it.zero with
    | none => simp [hz] at h3
    | some z =>
      simp only [Option.bind_some, hz, Option.map_some, Option.some.injEq] at h1 h3
      simp only [Option.map_some, Option.some.injEq, Prod.mk.injEq] at h2
      refine ⟨it, rfl, ?_, h2.1⟩
      cases z with
      | agg cs =>
        simp only [Value.cells] at h1 h3
        refine hz.trans (congrArg (fun x => some (Value.agg x)) ?_)
        have hl := BL_len 65537 (fun _ => false)
        have hat := fun i => BL_at 65537 (fun _ => false) i
        generalize BL 65537 (fun _ => false) = bl at hl hat ⊢
        apply Array.ext
        · show cs.size = bl.toArray.size
          rw [h3]; simp [hl]
        · intro i h4 h5
          have e1 := List.all_eq_true.1 h1 cs[i] (by simp)
          rw [isF_eq e1]
          have e2 := hat i (by omega)
          have h6 : i < bl.length := by omega
          rw [List.getElem?_eq_getElem h6, Option.some.injEq] at e2
          rw [List.getElem_toArray]; exact e2.symm
      | _ => simp [Value.cells] at h3
section
variable {P : Program} {ops : Array Oper} {rest : List Oper} {o : Oper} {a : Act} {w : World} {Q : Exit → Act → World → Prop}
theorem wpList_alloc0 {t : TypeId} {it : TypeInfo} {cs : Array Value} (hg : o.guard = none) (ho : o.op = .alloc t) (hi : P.info? t = some it) (hz : it.zero = some (.agg cs))
    (h : wpList P ops Q rest (a.put o.dst (.pointer (some ⟨w.heap.size, 0, none⟩))) (w.alloc (.cells cs t))) : wpList P ops Q (o :: rest) a w := by
  refine Great.wpList_allocTo hg _ rfl _ _ ?_ h
  unfold execOp
  rw [ho]
  have e := Go.run_typeInfo (P := P) (w := w) hi
  simp [Instr.alloc, zeroValue, newVar, e, hz, Result.andThen, Value.cells]
  rfl
theorem wpList_build00 {t e : TypeId} {n : Nat} {it ie : TypeInfo} {cs : Array Value} (hg : o.guard = none) (ho : o.op = .build t #[]) (hi : P.info? t = some it) (hz : it.zero = some (.agg cs)) (hu : P.underlying t = some (.array n e)) (hie : P.info? e = some ie)
    (h : wpList P ops Q rest (a.put o.dst (.agg cs)) w) : wpList P ops Q (o :: rest) a w := by
  have hb : P.built t [] = some cs := by
    unfold Program.built
    rw [hi, hu]
    simp only [hz, hie]
    rfl
  refine wpList_build hg t #[] ho ?_ ?_
  · simp [hb]
  · simpa [hb] using h
theorem wpList_store_fresh {t : TypeId} {old cells : Array Value} (hgd : o.guard = none) (ty : TypeId) (x y : Operand) (ho : o.op = .store ty x y)
    (hx : a.eval x = .pointer (some ⟨w.heap.size, 0, none⟩)) (hy : a.eval y = .agg cells) (hi : (P.info? ty).map (·.size) = some cells.size) (hold : old.size = cells.size) (h1 : cells.all (·.oneCell') = true)
    (h : wpList P ops Q rest (a.put o.dst undef) (w.alloc (.cells cells t))) : wpList P ops Q (o :: rest) a (w.alloc (.cells old t)) := by
  refine wpList_store_row hgd ty x y ho w.heap.size cells hx hy t old (heap_alloc_last w _) hi hold h1 ?_
  rw [World.setRow_alloc_new]; exact h
variable {t : TypeId} {g n : Nat} {f : Nat → Bool}
def BB (w : World) (g : Nat) (t : TypeId) (n : Nat) (f : Nat → Bool) : Prop := w.heap[g]? = some (.cells (BL n f).toArray t (0, 0))
theorem BB.cell (h : BB w g t n f) (s : Nat) (hs : s < n) : w.cell? ⟨g, s, none⟩ = some (.bool (f s)) := (cell_of_row _ _ _ _ _ _ h).trans (by rw [List.getElem?_toArray]; exact BL_at n f s hs)
theorem BB.free (h : BB w g t n f) (o : Nat) : w.frozen? ⟨g, o, none⟩ = false := by
  unfold World.frozen?; rw [h]; simp
theorem BB.put (h : BB w g t n f) (s : Nat) (hs : s < n) : BB (w.setCell ⟨g, s, none⟩ (.bool true)) g t n (updB f s) := by
  unfold BB; rw [heap_setCell_same w g s _ _ _ h, List.setIfInBounds_toArray, BL_set n f s hs]
end
theorem BL_one (n : Nat) (f : Nat → Bool) : (BL n f).toArray.all (·.oneCell') = true := all_oneCell_toArray (fun v hv => by
  unfold BL at hv
  obtain ⟨_, _, rfl⟩ := List.mem_map.1 hv
  rfl)
/-- what the first k exclude -/
def seenF (zs : List Int) (k : Nat) : Nat → Bool := fun j => decide ((j : Int) ∈ zs.take k)
theorem seenF_zero (zs : List Int) : seenF zs 0 = fun _ => false := by funext j; simp [seenF]
theorem seenF_next (zs : List Int) (k u : Nat) (hk : k < zs.length) (hu : zs.getD k 0 = u) : updB (seenF zs k) u = seenF zs (k + 1) := by
  funext j
  unfold updB seenF
  rw [List.take_succ_eq_append_getElem hk]
  have e : zs[k] = (u : Int) := by rw [← hu]; simp [List.getD, hk]
  rw [e]
  by_cases h : j = u
  · subst h; simp
  · rw [if_neg h]
    apply decide_eq_decide.2
    simp only [List.mem_append, List.mem_singleton]
    exact ⟨.inl, fun q => q.elim id (fun q => absurd q (by omega))⟩
/-- a number too great to be held is passed over -/
theorem seenF_skip (zs : List Int) (k u n : Nat) (hk : k < zs.length) (hu : zs.getD k 0 = u) (hn : n ≤ u) : BL n (seenF zs k) = BL n (seenF zs (k + 1)) := by
  unfold BL
  apply List.map_congr_left
  intro j hj
  have := List.mem_range.1 hj
  rw [← seenF_next zs k u hk hu]
  unfold updB
  rw [if_neg (by omega)]
theorem pig : ∀ (m : Nat) (zs : List Int), (∀ j, j < m → ((j : Nat) : Int) ∈ zs) → m ≤ zs.length := by
  intro m
  induction m with
  | zero => intro _ _; exact Nat.zero_le _
  | succ m ih =>
    intro zs h
    have hm := h m (by omega)
    have h1 := ih (zs.erase (m : Int)) (fun j hj => (List.mem_erase_of_ne (by omega)).2 (h j (by omega)))
    rw [List.length_erase_of_mem hm] at h1
    have := List.length_pos_of_mem hm
    omega
def mexP (zs : List Int) (m : Nat) : Prop := (∀ j, j < m → ((j : Nat) : Int) ∈ zs) ∧ ((m : Nat) : Int) ∉ zs
theorem mexP.one {zs : List Int} {m n : Nat} (h : mexP zs m) (h' : mexP zs n) : m = n := by
  rcases Nat.lt_trichotomy m n with q | q | q
  · exact absurd (h'.1 m q) h.2
  · exact q
  · exact absurd (h.1 n q) h'.2
theorem seenF_all (zs : List Int) (j : Nat) : seenF zs zs.length j = decide (((j : Nat) : Int) ∈ zs) := by unfold seenF; rw [List.take_length]
set_option maxRecDepth 100000 in
set_option maxHeartbeats 2000000 in
theorem l01Excluded_any (v : Value) (zs : List Int) (hn : zs.length ≤ 1000) (w : World) (h : NS w v zs) :
    Calls Try.prog 11 #[v] w fun e w' => (∃ m : Nat, e = .returned (.int .i64 (m : Int)) ∧ mexP zs m) ∧ Below w.heap.size w w' := by
  have hr := h.range
  obtain ⟨A, c, rfl, hz, hc⟩ := h
  obtain ⟨it, hit, hzero, hsize⟩ := zeroB
  have HR := Lib.hid hr; clear hr
  have HC := Lib.hid hc; clear hc
  clear hz
  obtain ⟨ie, hie⟩ : ∃ ie, Try.prog.info? 4 = some ie := Option.isSome_iff_exists.1 (by kernel_rfl)
  obtain ⟨N, hN⟩ : ∃ N, N = 65537 := ⟨_, rfl⟩
  have hsz : (Try.prog.info? 42).map (·.size) = some (BL N fun _ => false).toArray.size := by
    rw [hit, List.size_toArray, BL_len, hN]; simp [hsize]
  rw [← hN] at hzero
  have HIT := Lib.hid hit
  have HZERO := Lib.hid hzero
  have HIE := Lib.hid hie
  have HSZ := Lib.hid hsz
  clear hit hzero hsize hie hsz
  go_enter Try.func11, Try.ntmps11
  go_upto_region 2 with (first | (guard_target =~ wpList _ _ _ (⟨_, Op.build 42 _, _, _, _, _⟩ :: _) _ _; refine wpList_build00 rfl rfl HIT.out HZERO.out zu HIE.out ?_) | (guard_target =~ wpList _ _ _ (⟨_, Op.alloc 42, _, _, _, _⟩ :: _) _ _; refine wpList_alloc0 rfl rfl HIT.out HZERO.out ?_) | (guard_target =~ wpList _ _ _ (⟨_, Op.store 42 _ _, _, _, _, _⟩ :: _) _ _; refine wpList_store_fresh (cells := (BL N fun _ => false).toArray) rfl 42 _ _ rfl rfl rfl HSZ.out rfl (BL_one _ _) ?_))
  have b0 : BB (w.alloc (.cells (BL N fun _ => false).toArray 42)) w.heap.size 42 N (seenF zs 0) := by rw [seenF_zero]; exact heap_alloc_last _ _
  have b1 : Below w.heap.size w (w.alloc (.cells (BL N fun _ => false).toArray 42)) := (Below.refl _ _).alloc (Nat.le_refl _) _
  obtain ⟨g, hg⟩ : ∃ g, g = w.heap.size := ⟨_, rfl⟩
  rw [← hg] at b0 b1 ⊢
  generalize w.alloc (.cells (BL N fun _ => false).toArray 42) = wA at b0 b1 ⊢
  have HG := Lib.hid hg
  have HB0 := Lib.hid b0
  have HB1 := Lib.hid b1
  clear hg b0 b1
  go_wp2_with fail
  go_loopw [4] (fun i wr => ∃ k : Nat, i = .int .i64 k ∧ k ≤ zs.length ∧ Hid (BB wr g 42 N (seenF zs k)) ∧ Hid (Below g w wr)) (fun i _ => zs.length - (intOf i).toNat)
  case atStart => exact ⟨0, rfl, Nat.zero_le _, HB0, HB1⟩
  case round =>
    clear HB0 HB1
    obtain ⟨k, rfl, hk, HBB, HB⟩ := hrel
    by_cases hlt : k < zs.length
    · obtain ⟨b, off, rfl, hlb, hcell⟩ := HC.out (by omega)
      have h1 : wr.cell? ⟨b, off + k, none⟩ = some (.int .u16 (zs.getD k 0)) := (HB.out.cell (p := ⟨b, off + k, none⟩) (by rw [HG.out]; exact hlb)).trans (hcell k hlt)
      have hrg := HR.out k
      obtain ⟨u, hu⟩ : ∃ u : Nat, zs.getD k 0 = u := ⟨(zs.getD k 0).toNat, by omega⟩
      have hnx := seenF_next zs k u hlt hu
      rw [hu] at h1 hrg
      have q1 := HBB.out.cell u (by omega)
      have q2 := HBB.out.free u
      have hi1 : (k : Int) < (zs.length : Int) := by omega
      have hi2 : (u : Int) < 65537 := by omega
      have hput := HBB.out.put u (by omega)
      rw [hnx] at hput
      have HPUT := Lib.hid hput
      have HCL := Lib.hid hcell
      have HU := Lib.hid hu
      clear hput hnx hcell hu
      go_wp2_with fail
      exact ⟨⟨k + 1, by go_num, by omega, HPUT, Lib.hid (HB.out.setCell (p := ⟨g, u, none⟩) (Nat.le_refl _) (.bool true))⟩, by simp [intOf]; omega⟩
    · obtain rfl : zs.length = k := by omega
      go_wp2_with fail
      go_loopw [5] (fun i wq => ∃ n : Nat, i = .int .i64 n ∧ n ≤ zs.length ∧ Hid (∀ j, j < n → ((j : Nat) : Int) ∈ zs) ∧ wr = wq) (fun i _ => zs.length - (intOf i).toNat)
      case atStart => exact ⟨0, rfl, Nat.zero_le _, Lib.hid (fun j hj => by omega), rfl⟩
      case round =>
        obtain ⟨n, rfl, hn', HN, rfl⟩ := hrel
        have q1 := HBB.out.cell n (by omega)
        rw [seenF_all] at q1
        have hi2 : (n : Int) < 65537 := by omega
        by_cases hm : ((n : Nat) : Int) ∈ zs
        · rw [decide_eq_true hm] at q1
          have HN2 : Hid (∀ j, j < n + 1 → ((j : Nat) : Int) ∈ zs) := Lib.hid (fun j hj => by
            by_cases e : j = n
            · rw [e]; exact hm
            · exact HN.out j (by omega))
          have hp := pig (n + 1) zs HN2.out
          clear hm HN
          go_wp2_with fail
          exact ⟨⟨n + 1, by go_num, hp, HN2, by trivial⟩, by simp [intOf]; omega⟩
        · rw [decide_eq_false hm] at q1
          have HX := Lib.hid (show mexP zs n from ⟨HN.out, hm⟩)
          clear hm HN
          go_wp2_with fail
          go_ret
          exact ⟨⟨n, rfl, HX.out⟩, by have := HB.out; rw [HG.out] at this; exact this⟩
theorem spec_ExcludedBy (v : Value) (zs : List Int) (hn : zs.length ≤ 1048576) (w : World) (h : NS w v zs) :
    Calls Try.prog 5 #[v] w fun e w' => ((zs.length ≤ 1000 ∧ ∃ m : Nat, e = .returned (.tuple #[.int .i64 (m : Int), .int .i64 0]) ∧ mexP zs m) ∨ (1000 < zs.length ∧ e = .returned (.tuple #[.int .i64 0, .int .i64 3]))) ∧ Below w.heap.size w w' := by
  have HNS := Lib.hid h
  obtain ⟨A, c, rfl, _, hc⟩ := h
  clear hc
  by_cases hbig : 1000 < zs.length
  · have t1 : decide ((1000 : Int) < (zs.length : Int)) = true := by simp; omega
    have HBIG := Lib.hid hbig
    clear hbig
    go_enter Try.func5, Try.ntmps5
    go_wp2_with fail
    go_ret2
    exact ⟨.inr ⟨HBIG.out, rfl⟩, Below.refl _ _⟩
  · have t1 : decide ((1000 : Int) < (zs.length : Int)) = false := by simp; omega
    have HLE : Hid (zs.length ≤ 1000) := Lib.hid (by omega)
    clear hbig
    go_enter Try.func5, Try.ntmps5
    go_wp2_with fail
    refine (l01Excluded_any _ zs HLE.out w HNS.out).mono ?_
    rintro e w1 ⟨⟨m, rfl, hm⟩, hb⟩
    have H := Lib.hid (And.intro hm hb)
    clear hm hb
    go_wp2_with fail
    go_ret2
    exact ⟨.inl ⟨HLE.out, m, rfl, H.out.1⟩, H.out.2⟩
set_option maxHeartbeats 1000000 in
theorem index_false (g n : Nat) (hn : n ≤ 9223372036854775807) (f : Nat → Bool) (hex : ∃ j, j < n ∧ f j = false) (w : World) (hc : ∀ j, j < n → w.cell? ⟨g, j, none⟩ = some (.bool (f j))) :
    Calls Try.prog 12 #[.slice (some ⟨g, 0, none⟩) n n, .bool false] w fun e w' => (∃ j : Nat, e = .returned (.int .i64 (j : Int)) ∧ j < n ∧ f j = false ∧ ∀ i, i < j → f i = true) ∧ w' = w := by
  have HC := Lib.hid hc
  have HEX := Lib.hid hex
  clear hc hex
  go_enter Try.func12, Try.ntmps12
  go_wp2_with fail
  go_loopw [8] (fun i wr => ∃ k : Nat, i = .int .i64 k ∧ k ≤ n ∧ Hid (∀ i, i < k → f i = true) ∧ w = wr) (fun i _ => n - (intOf i).toNat)
  case atStart => exact ⟨0, rfl, Nat.zero_le _, Lib.hid (fun i hi => by omega), rfl⟩
  case round =>
    obtain ⟨k, rfl, hk, HK, rfl⟩ := hrel
    by_cases hlt : k < n
    · have q1 := HC.out k hlt
      have hi1 : (k : Int) < (n : Int) := by omega
      cases hf : f k with
      | false =>
        rw [hf] at q1
        have HF := Lib.hid hf
        clear hf
        go_wp2_with fail
        go_ret
        exact ⟨⟨k, rfl, hlt, HF.out, HK.out⟩, rfl⟩
      | true =>
        rw [hf] at q1
        have HK2 : Hid (∀ i, i < k + 1 → f i = true) := Lib.hid (fun i hi => by
          by_cases e : i = k
          · rw [e]; exact hf
          · exact HK.out i (by omega))
        clear hf HK
        go_wp2_with fail
        go_roundw
        case rel => exact ⟨k + 1, by go_num, by omega, HK2, by simp⟩
        case measure => simp [intOf]; omega
    · exfalso
      obtain ⟨j, hj, hf⟩ := HEX.out
      have := HK.out j (by omega)
      rw [hf] at this
      cases this
theorem infoBool : (Try.prog.info? 4).map (fun i => (i.zero, i.size, i.bytes)) = some (some (.bool false), 1, 1) := by kernel_rfl
theorem mex_ex (zs : List Int) : ∃ j, j < zs.length + 1 ∧ seenF zs zs.length j = false := by
  rcases Classical.em (∃ j, j < zs.length + 1 ∧ seenF zs zs.length j = false) with h | h
  · exact h
  · have := pig (zs.length + 1) zs (fun j hj => by
      cases e : seenF zs zs.length j with
      | false => exact absurd ⟨j, hj, e⟩ h
      | true => rw [seenF_all] at e; exact of_decide_eq_true e)
    omega
set_option maxHeartbeats 2000000 in
theorem impl_ExcludedBy (v : Value) (zs : List Int) (hn : zs.length ≤ 1048576) (w : World) (h : NS w v zs) :
    Calls Try.prog 7 #[v] w fun e w' => ((zs.length ≤ 1000 ∧ ∃ m : Nat, e = .returned (.tuple #[.int .i64 (m : Int), .int .i64 0]) ∧ mexP zs m) ∨ (1000 < zs.length ∧ e = .returned (.tuple #[.int .i64 0, .int .i64 3]))) ∧ Below w.heap.size w w' := by
  have hr := h.range
  obtain ⟨A, c, rfl, _, hc⟩ := h
  obtain ⟨i0, hi, hz0, hz1, hz2⟩ := info_parts infoBool
  have HR := Lib.hid hr; clear hr
  have HC := Lib.hid hc; clear hc
  by_cases hbig : 1000 < zs.length
  · have t1 : decide ((1000 : Int) < (zs.length : Int)) = true := by simp; omega
    have HBIG := Lib.hid hbig
    clear hbig
    go_enter Try.func7, Try.ntmps7
    go_wp2_with fail
    go_ret2
    exact ⟨.inr ⟨HBIG.out, rfl⟩, Below.refl _ _⟩
  have t1 : decide ((1000 : Int) < (zs.length : Int)) = false := by simp; omega
  have hle : zs.length ≤ 1000 := by omega
  clear hbig
  go_enter Try.func7, Try.ntmps7
  go_wp2_with (at_make; refine wpList_make_full _ rfl _ _ 35 rfl w.heap.size 4 i0 (.bool false) 1 Try.underlying35 hi hz0 hz1 _ _ _ _ (zs.length + 1) rfl rfl (by go_num) (by go_num) (by rw [hz2]; omega) (by unfold maxLen; omega) (Nat.le_refl _) ?_)
  intro w1 hown hgrow
  have hb1 : Below w.heap.size w w1 := (Below.refl _ w).grown hgrow (Nat.le_refl _) (fun k hk => by cases hk)
  obtain ⟨g, hg⟩ : ∃ g, g = w.heap.size := ⟨_, rfl⟩
  rw [← hg] at hown hb1 ⊢
  have hown1 : w1.ownsRow g 4 1 (.slice (some ⟨g, 0, none⟩) (zs.length + 1) (zs.length + 1)) (zs.length + 1) (BL (zs.length + 1) (seenF zs 0)) := by
    have e : (madeCells #[Value.bool false] (zs.length + 1)).toList = BL (zs.length + 1) (seenF zs 0) := by
      rw [toList_madeCells_one, seenF_zero]
      simp [BL, List.map_const']
    rw [← e]; exact hown
  obtain ⟨N, hN⟩ : ∃ N, N = zs.length + 1 := ⟨_, rfl⟩
  rw [← hN] at hown1 ⊢
  have hNb : N ≤ 1001 := by omega
  have HN := Lib.hid hN
  clear hN
  have HG := Lib.hid hg; clear hg
  have HO := Lib.hid hown1
  have HB := Lib.hid hb1
  clear hown hgrow hown1 hb1
  go_wp2_with fail
  go_loopw [16] (fun i wr => ∃ k : Nat, i = .int .i64 k ∧ k ≤ zs.length ∧ Hid (wr.ownsRow g 4 1 (.slice (some ⟨g, 0, none⟩) N N) N (BL N (seenF zs k))) ∧ Hid (Below g w wr)) (fun i _ => zs.length - (intOf i).toNat)
  case atStart => exact ⟨0, rfl, Nat.zero_le _, HO, HB⟩
  case round =>
    clear HO HB
    obtain ⟨k, rfl, hk, HO, HB⟩ := hrel
    by_cases hlt : k < zs.length
    · obtain ⟨b, off, rfl, hlb, hcell⟩ := HC.out (by omega)
      have h1 : wr.cell? ⟨b, off + k, none⟩ = some (.int .u16 (zs.getD k 0)) := (HB.out.cell (p := ⟨b, off + k, none⟩) (by rw [HG.out]; exact hlb)).trans (hcell k hlt)
      have hrg := HR.out k
      obtain ⟨u, hu⟩ : ∃ u : Nat, zs.getD k 0 = u := ⟨(zs.getD k 0).toNat, by omega⟩
      have hi1 : (k : Int) < (zs.length : Int) := by omega
      have hnx := seenF_next zs k u hlt hu
      have hsk := seenF_skip zs k u N hlt hu
      rw [hu] at h1 hrg
      have HCL := Lib.hid hcell
      have HU := Lib.hid hu
      clear hcell hu
      by_cases hs : u < N
      · have T1 : decide ((u : Int) < (N : Int)) = true := by simp; omega
        have T1' : decide (u < N) = true := by simp; omega
        have q1 : ∃ y, wr.cell? ⟨g, u, none⟩ = some y := by
          rw [HO.out.cellAt u (by omega), BL_at _ _ u hs]; exact ⟨_, rfl⟩
        obtain ⟨y, q1⟩ := q1
        have q2 : wr.frozen? ⟨g, u, none⟩ = false := HO.out.frozenAt u
        have q3 := (HO.out.stored u (.bool true)).1
        rw [BL_set _ _ u hs, hnx] at q3
        have HO2 := Lib.hid q3
        have HB2 := Lib.hid (HB.out.setCell (p := ⟨g, u, none⟩) (Nat.le_refl _) (.bool true))
        have hi3 : (u : Int) < (N : Int) := by omega
        clear q3 HO HB hnx hsk
        go_wp2_with fail
        go_roundw
        case rel => exact ⟨k + 1, by go_num, by omega, HO2, HB2⟩
        case measure => simp [intOf]; omega
      · have T1 : decide ((u : Int) < (N : Int)) = false := by simp; omega
        have T1' : decide (u < N) = false := by simp; omega
        have HO2 : Hid (wr.ownsRow g 4 1 (.slice (some ⟨g, 0, none⟩) N N) N (BL N (seenF zs (k + 1)))) := Lib.hid (by rw [← hsk (by omega)]; exact HO.out)
        clear HO hnx hsk
        go_wp2_with fail
        go_roundw
        case rel => exact ⟨k + 1, by go_num, by omega, HO2, HB⟩
        case measure => simp [intOf]; omega
    · obtain rfl : zs.length = k := by omega
      have HX := Lib.hid (index_false g N (by omega) (seenF zs zs.length) (by rw [HN.out]; exact mex_ex zs) wr (fun j hj => by rw [HO.out.cellAt j (by omega), BL_at _ _ j hj]))
      go_wp2_with fail
      refine HX.out.mono ?_
      rintro e w2 ⟨⟨j, rfl, hj, hf, ha⟩, rfl⟩
      have HM := Lib.hid (show mexP zs j from ⟨fun i hi => by
        have := ha i hi
        rw [seenF_all] at this
        exact of_decide_eq_true this, by
        rw [seenF_all] at hf
        exact of_decide_eq_false hf⟩)
      clear hf ha
      go_wp2_with fail
      go_ret2
      exact ⟨.inl ⟨hle, j, rfl, HM.out⟩, by have := HB.out; rw [HG.out] at this; exact this⟩
end Go.Proofs.Ytklddmmbbaaliaa
