/-
  The text of a nimber: both sides.
-/
import Derived.Test.YthhjhfkcgokffaaDoorRows
import Derived.Test.YthhjhfkcgokffaaDoorShelf
import Derived.Test.YthhjhfkcgokffaaDoorDig
import Derived.Test.YthhjhfkcgokffaaDoorOpen
import Derived.Lib.AppendIntMem
import Derived.Lib.ItoaMem
import Derived.Lib.Hide
import Derived.Stop.LaidErr
import Derived.LaidMore
import Derived.Below
import Derived.WalkKit
import Derived.Deep.RegionWith
namespace Go.Proofs.YthhjhfkcgokffaaDoor
set_option linter.unusedVariables false
set_option linter.unusedSimpArgs false
open Go.ChangeShapes Go.WideShapes Go.ChangeAt Go.RowKit Go.Lib Go.Sort

theorem gPow : Tryd.prog.globalNamed "internal/strconv.uint64pow10" = some 0 := by kernel_rfl
def POW (w : World) : Prop := Lib.TabIs Tryd.prog w "internal/strconv.uint64pow10" .u64 Lib.pow10Tab
theorem tabIs_below {P : Program} {w w' : World} {name : String} {k : IntKind} {zs : List Int} (h : Lib.TabIs P w name k zs) (hb : Below w.heap.size w w') : Lib.TabIs P w' name k zs := by
  unfold Lib.TabIs World.var? at *
  cases hg : P.globalNamed name with
  | none => simp [hg] at h
  | some g =>
    simp only [hg, Option.bind_some] at h ⊢
    have hlt : g < w.heap.size := by
      rcases Nat.lt_or_ge g w.heap.size with h' | h'
      · exact h'
      · simp [Array.getElem?_eq_none h'] at h
    rw [hb.block g hlt]
    exact h
theorem POW.below {w w' : World} (h : POW w) (hb : Below w.heap.size w w') : POW w' := tabIs_below h hb
theorem tchain {a b c : World} (h1 : Below a.heap.size a b) (h2 : Below b.heap.size b c) : Below a.heap.size a c := h1.trans (h2.mono h1.size)
def sB (l : List UInt8) : Value := .string ⟨l.toArray⟩
set_option maxHeartbeats 6400000 in
set_option maxRecDepth 100000 in
theorem ufmt_any (u : Nat) (hu64 : u < 18446744073709551616) (w : World) (htab : POW w) :
    Calls Tryd.prog 34 #[.int .u64 (u : Int), .int .i64 10] w fun e w' => e = .returned (.string ⟨(Lib.decDigits u).toArray⟩) ∧ Below w.heap.size w w' := by
  unfold POW at htab
  by_cases hi : u < 100
  · have T1 : decide ((u : Int) < 100) = true := by simp; omega
    have cv : IntKind.i64.wrap (u : Int) = (u : Int) := by rw [IntKind.wrap_i64]; omega
    go_enter Tryd.func34, Tryd.ntmps34
    go_wp2_with fail
    refine (Tryd.internal_strconv_small u hi _).mono ?_
    rintro e w' ⟨rfl, rfl⟩
    go_wp2_with fail
    go_ret
    exact ⟨rfl, Below.refl _ _⟩
  · have T1 : decide ((u : Int) < 100) = false := by simp; omega
    have hu1 : 1 ≤ u := by omega
    have hnd20 : Lib.nDigits u ≤ 20 := by have := Lib.numDigits_eq u hu1 hu64; split at this <;> omega
    have hal : Tryd.prog.arrayLen 73 = 24 := by kernel_rfl
    have hsl1 : ∀ W, (Instr.sliceAt 73 (.pointer (some ⟨w.heap.size, 0, none⟩)) none (some (.int .i64 (Lib.nDigits u : Int))) none).run Tryd.prog W = .ok (.slice (some ⟨w.heap.size, 0, none⟩) (Lib.nDigits u) 24) W := fun W => by
      rw [run_sliceAt_array_h W 73 ⟨w.heap.size, 0, none⟩ (by kernel_rfl) .i64 (Lib.nDigits u : Int) (by omega) (by rw [hal]; omega)]
      go_simp
      try omega
    have hH0 := Lib.holds_zero0 w 73 (Lib.nDigits u) (by omega)
    have hfmt := Tryd.internal_strconv_formatBase10 w.heap.size 0 24 u (Array.replicate (Lib.nDigits u) 0) (w.alloc (.cells Lib.zeros24 73)) hH0 (by rw [Array.size_replicate]; exact Lib.lt_pow_nDigits u) hu64 (by rw [Array.size_replicate]; omega)
    rw [Array.size_replicate] at hfmt
    have HH0 := Lib.hid hH0
    clear hH0 hal
    go_enter Tryd.func34, Tryd.ntmps34
    go_wp2_with (first
      | (go_at_call 45; refine (Tryd.internal_strconv_numDigits u hu1 hu64 _ (Lib.tabIs_alloc htab _)).mono ?_; rintro e w' ⟨rfl, rfl⟩))
    refine hfmt.mono ?_
    rintro e w' ⟨rfl, k, v', dk, rfl, hF⟩
    have hcv : (convert 49 9 (.slice (some ⟨w.heap.size, 0, none⟩) (Lib.nDigits u) 24)).run Tryd.prog ((putRow (fun (b : UInt8) => Value.int .u8 (b.toNat : Int)) (w.alloc (.cells Lib.zeros24 73)) w.heap.size 0 dk).drewN k) = .ok (.string ⟨(Lib.decDigits u).toArray⟩) ((putRow (fun (b : UInt8) => Value.int .u8 (b.toNat : Int)) (w.alloc (.cells Lib.zeros24 73)) w.heap.size 0 dk).drewN k) := by
      have h := run_convert_bytes_back (P := Tryd.prog) ((putRow (fun (b : UInt8) => Value.int .u8 (b.toNat : Int)) (w.alloc (.cells Lib.zeros24 73)) w.heap.size 0 dk).drewN k) 49 9 5 ⟨w.heap.size, 0, none⟩ 24 (Lib.decDigits u) Tryd.underlying49 Tryd.underlying5 Tryd.underlying9 (fun j hj => by
        rw [Lib.row_is_numeral hF j hj, Lib.add_plain, World.cell?_drewN]
        exact cell?_putRow (fun (b : UInt8) => Value.int .u8 (b.toNat : Int)) _ w.heap.size 0 _ dk HH0.out (by rw [hF.size, Array.size_replicate]) j (by rw [hF.size]; rw [Lib.decDigits_length] at hj; exact hj))
      rw [Lib.decDigits_length] at h
      exact h
    go_wp2_with fail
    go_ret
    refine ⟨rfl, ?_⟩
    rw [alloc_eq_grow]
    obtain ⟨os', _, e⟩ := putRow_grow_new (fun (b : UInt8) => Value.int .u8 (b.toNat : Int)) w #[.cells Lib.zeros24 73] w.heap.size 0 dk (Nat.le_refl _)
    rw [e]
    exact below_grow _ w (Nat.le_refl _) k os'
set_option maxHeartbeats 1000000 in
theorem sfmt_any (u : Nat) (hu64 : u < 18446744073709551616) (w : World) (htab : POW w) :
    Calls Tryd.prog 24 #[.int .u64 (u : Int), .int .i64 10] w fun e w' => e = .returned (.string ⟨(Lib.decDigits u).toArray⟩) ∧ Below w.heap.size w w' := by
  go_enter Tryd.func24, Tryd.ntmps24
  go_wp2_with fail
  refine (ufmt_any u hu64 _ htab).mono ?_
  rintro e w' ⟨rfl, hb⟩
  go_wp2_with fail
  go_ret
  exact ⟨rfl, hb⟩
theorem badd (a b : List UInt8) : (⟨a.toArray⟩ : ByteArray) ++ ⟨b.toArray⟩ = ⟨(a ++ b).toArray⟩ := by
  apply ByteArray.ext
  simp
theorem dd_le (u : Nat) (h : u < 18446744073709551616) : (Lib.decDigits u).length ≤ 20 := by
  rw [Lib.decDigits_length]
  by_cases h1 : 1 ≤ u
  · have := Lib.numDigits_eq u h1 h
    split at this <;> omega
  · obtain rfl : u = 0 := by omega
    rw [Lib.nDigits_small (by omega)]; omega
set_option maxHeartbeats 1000000 in
theorem impl_NimText (u : Nat) (hu : u < 65536) (w : World) (htab : POW w) :
    Calls Tryd.prog 18 #[.int .u16 (u : Int)] w fun e w' => e = .returned (.string ⟨(nimT u).toArray⟩) ∧ Below w.heap.size w w' := by
  have cv : IntKind.u64.wrap (u : Int) = (u : Int) := by rw [IntKind.wrap_u64]; omega
  have hl := dd_le u (by omega)
  have hc := badd [42] (Lib.decDigits u)
  have HT : Hid (nimT u = [42] ++ Lib.decDigits u) := Lib.hid rfl
  rw [HT.out]
  have HF := fun w => sfmt_any u (by omega) w
  generalize Lib.decDigits u = ds at hl hc HF ⊢
  have hl2 : 1 + ds.length ≤ 9223372036854775807 := by omega
  have hl3 : ¬ 9223372036854775807 < 1 + ds.length := by omega
  have HC := Lib.hid hc
  have HFF := Lib.hid HF
  clear hc hl HF HT
  go_enter Tryd.func18, Tryd.ntmps18
  go_wp2_with fail
  refine (HFF.out _ htab).mono ?_
  rintro e w' ⟨rfl, hb⟩
  have HB := Lib.hid hb
  clear hb
  go_wp2_with fail
  go_ret
  exact ⟨congrArg (fun x => Ending.returned (.string x)) HC.out, HB.out⟩
theorem conv1 (W : World) (b : Nat) (x : Int) (c : UInt8) (hx : x = (c.toNat : Int)) (h : W.cell? ⟨b, 0, none⟩ = some (.int .u8 x)) :
    (convert 49 9 (.slice (some ⟨b, 0, none⟩) 1 1)).run Tryd.prog W = .ok (.string ⟨#[c]⟩) W := by
  have h2 := run_convert_bytes_back (P := Tryd.prog) W 49 9 5 ⟨b, 0, none⟩ 1 [c] Tryd.underlying49 Tryd.underlying5 Tryd.underlying9 (fun j hj => by
    obtain rfl : j = 0 := by simpa using hj
    rw [Lib.add_plain, Nat.zero_add, h, hx]; rfl)
  exact h2
theorem bcell {W w1 : World} (hb : Below W.heap.size W w1) : (∀ b o, b < W.heap.size → w1.cell? ⟨b, o, none⟩ = W.cell? ⟨b, o, none⟩) ∧ (∀ b o, b < W.heap.size → w1.frozen? ⟨b, o, none⟩ = W.frozen? ⟨b, o, none⟩) :=
  ⟨fun b o h => hb.cell (p := ⟨b, o, none⟩) h, fun b o h => hb.frozen (p := ⟨b, o, none⟩) h⟩
set_option maxRecDepth 100000 in
set_option maxHeartbeats 1000000 in
theorem Decimal_one (u : Nat) (hu : u < 10) (w : World) :
    Calls Tryd.prog 33 #[.int .i64 (u : Int)] w fun e w' => e = .returned (.string ⟨(Lib.decDigits u).toArray⟩) ∧ Below w.heap.size w w' := by
  have T1 : decide ((u : Int) < 10) = true := by simp; omega
  have e1 := Lib.decDigits_one hu
  rw [e1]
  have he : (48 + (u : Int) % 10) = ((UInt8.ofNat (48 + u)).toNat : Int) := by simp; omega
  generalize UInt8.ofNat (48 + u) = c at he ⊢
  have hcv := conv1 (w.alloc (.cells #[.int .u8 (48 + (u : Int) % 10)] 5)) w.heap.size (48 + (u : Int) % 10) c he (by simp)
  clear e1 he
  go_enter Tryd.func33, Tryd.ntmps33
  go_wp2_with fail
  go_ret
  exact ⟨rfl, (Below.refl _ _).alloc (Nat.le_refl _) _⟩
theorem takeA {P : Program} {ops : Array Oper} {Q : Exit → Act → World → Prop} {a : Act} {w : World} {md : Region.Mode} {i : Nat} {oi : Oper} {d : Tmp} {v : Value} {fuel : Nat} {listed : Array Bool} (hi : ops[i]? = some oi) (hd : oi.dst = some d)
    (hs : Region.noSelect ops = true) (hf : Region.free md ops listed i = true) (hr : (Region.ready md ops listed).contains i = true)
    (hQ : ∀ c a w, Q (.panic c) (a.put (some d) v) w → Q (.panic c) a w) (hw : Region.wanted oi (yielded ops a.tmps) = true) (hy : ∀ w, (execOp a.eval oi).run P w = .ok (.value v) w)
    (h : wpAny P md ops Q fuel (listed.setIfInBounds i true) (a.put (some d) v) w) : wpAny P md ops Q (fuel + 1) listed a w :=
  wpAny_take hi hs hf hr (by rw [hd]; exact hQ) (.inl ⟨hw, hy⟩) (by rw [hd]; exact h)
theorem region_post {P : Program} {c : Code} {a : Act} {w : World} {Q : Exit → Act → World → Prop} {A : Nat → Act} (R : Nat → World → Prop)
    (h1 : c.wp P (fun x a' w' => x = .normal ∧ ∃ n, a' = A n ∧ R n w') a w) (h2 : ∀ n w', R n w' → Q .normal (A n) w') : c.wp P Q a w :=
  Code.wp_mono (fun x a' w' ⟨hx, n, ha, hr⟩ => by subst hx; subst ha; exact h2 n w' hr) h1
set_option maxRecDepth 100000 in
set_option maxHeartbeats 2000000 in
theorem Decimal_step (u : Nat) (hu : 10 ≤ u) (hu64 : u < 9223372036854775808) (ih : ∀ w, Calls Tryd.prog 33 #[.int .i64 ((u / 10 : Nat) : Int)] w fun e w' => e = .returned (.string ⟨(Lib.decDigits (u / 10)).toArray⟩) ∧ Below w.heap.size w w') (w : World) :
    Calls Tryd.prog 33 #[.int .i64 (u : Int)] w fun e w' => e = .returned (.string ⟨(Lib.decDigits u).toArray⟩) ∧ Below w.heap.size w w' := by
  have T1 : decide ((u : Int) < 10) = false := by simp; omega
  have e1 : Lib.decDigits u = Lib.decDigits (u / 10) ++ [UInt8.ofNat (48 + u % 10)] := by rw [Lib.decDigits, dif_neg (by omega)]
  have hl := dd_le (u / 10) (by omega)
  rw [e1, ← badd]
  have he : (48 + (u : Int) % 10) = ((UInt8.ofNat (48 + u % 10)).toNat : Int) := by simp; omega
  generalize UInt8.ofNat (48 + u % 10) = c at he ⊢
  generalize Lib.decDigits (u / 10) = ds at hl ih ⊢
  have hl2 : ds.length + 1 ≤ 9223372036854775807 := by omega
  have hl3 : ¬ 9223372036854775807 < ds.length + 1 := by omega
  have hq : IntKind.i64.wrap ((u : Int) / 10) = ((u / 10 : Nat) : Int) := by rw [IntKind.wrap_i64]; omega
  have hm : IntKind.u8.wrap (IntKind.i64.wrap (48 + (u : Int).tmod 10)) = (c.toNat : Int) := by
    rw [Int.tmod_eq_emod_of_nonneg (by omega), IntKind.wrap_i64, IntKind.wrap_u8, ← he]; omega
  have IH := Lib.hid ih
  have HQ := Lib.hid hq
  have HE := Lib.hid hm
  clear e1 he ih hl hq hm
  go_enter Tryd.func33, Tryd.ntmps33
  go_upto_region 3 with fail
  refine region_post (A := ?A3) (fun _ u => Hid (Below w.heap.size w u)) ?_ ?_
  rotate_left
  · refine wp_region_any (by kernel_rfl) ?_
    change wpAny _ _ _ _ _ _ _ w.drew
    have b0 : Below w.heap.size w w.drew := (Below.refl _ _).drew
    generalize w.drew = wd at b0 ⊢
    refine takeA (i := 0) (v := ?va0) rfl rfl (by kernel_rfl) (by kernel_rfl) (by kernel_rfl) (fun _ _ _ h => absurd h.1 (by intro e; cases e)) rfl ?hya0 ?ra0
    case hya0 => (intro wq; go_simp; try (with_reducible rfl))
    simp only [Act.put, List.setIfInBounds_toArray, List.set_cons_zero, List.set_cons_succ]
    refine takeA (i := 1) (v := ?va1) rfl rfl (by kernel_rfl) (by kernel_rfl) (by kernel_rfl) (fun _ _ _ h => absurd h.1 (by intro e; cases e)) rfl ?hya1 ?ra1
    case hya1 => (intro wq; go_simp; try (with_reducible rfl))
    simp only [Act.put, List.setIfInBounds_toArray, List.set_cons_zero, List.set_cons_succ]
    refine takeA (i := 3) (v := ?va3) rfl rfl (by kernel_rfl) (by kernel_rfl) (by kernel_rfl) (fun _ _ _ h => absurd h.1 (by intro e; cases e)) rfl ?hya3 ?ra3
    case hya3 => (intro wq; go_simp; try (with_reducible rfl))
    simp only [Act.put, List.setIfInBounds_toArray, List.set_cons_zero, List.set_cons_succ]
    refine takeA (i := 4) (v := ?va4) rfl rfl (by kernel_rfl) (by kernel_rfl) (by kernel_rfl) (fun _ _ _ h => absurd h.1 (by intro e; cases e)) rfl ?hya4 ?ra4
    case hya4 => (intro wq; go_simp; try (with_reducible rfl))
    simp only [Act.put, List.setIfInBounds_toArray, List.set_cons_zero, List.set_cons_succ]
    refine takeA (i := 5) (v := ?va5) rfl rfl (by kernel_rfl) (by kernel_rfl) (by kernel_rfl) (fun _ _ _ h => absurd h.1 (by intro e; cases e)) rfl ?hya5 ?ra5
    case hya5 => (intro wq; go_simp; try (with_reducible rfl))
    simp only [Act.put, List.setIfInBounds_toArray, List.set_cons_zero, List.set_cons_succ]
    refine takeA (i := 6) (v := ?va6) rfl rfl (by kernel_rfl) (by kernel_rfl) (by kernel_rfl) (fun _ _ _ h => absurd h.1 (by intro e; cases e)) rfl ?hya6 ?ra6
    case hya6 => (intro wq; go_simp; try (with_reducible rfl))
    simp only [Act.put, List.setIfInBounds_toArray, List.set_cons_zero, List.set_cons_succ]
    refine wpAny_ready (rs := [2, 7]) (by kernel_rfl) (by simp) ?_
    refine AllReady.cons rfl (fun K hK => ?_) (AllReady.cons rfl (fun K hK => ?_) AllReady.nil)
    · simp only [List.getElem_toArray, List.getElem_cons_zero, List.getElem_cons_succ]
      go_simp
      rw [HQ.out]
      refine (IH.out _).mono ?_
      rintro e wn ⟨rfl, hn⟩
      refine hK _ _ ?_
      clear hK
      have b1 : Below w.heap.size w wn := b0.trans (hn.mono b0.size)
      refine wpAny_ready (rs := [7]) (by kernel_rfl) (by simp) ?_
      refine AllReady.cons rfl (fun K hK => ?_) AllReady.nil
      simp only [List.getElem_toArray, List.getElem_cons_zero, List.getElem_cons_succ]
      go_simp
      rw [HE.out]
      refine hK _ _ ?_
      clear hK
      have b2 : Below w.heap.size w (wn.alloc (.cells #[.int .u8 (c.toNat : Int)] 5)) := b1.alloc b1.size _
      have hcell : (wn.alloc (.cells #[.int .u8 (c.toNat : Int)] 5)).cell? ⟨wn.heap.size, 0, none⟩ = some (.int .u8 (c.toNat : Int)) := by simp
      have hgl : wn.heap.size < (wn.alloc (.cells #[.int .u8 (c.toNat : Int)] 5)).heap.size := by simp
      obtain ⟨g, hg⟩ : ∃ g, g = wn.heap.size := ⟨_, rfl⟩
      rw [← hg] at hcell hgl ⊢
      generalize wn.alloc (.cells #[.int .u8 (c.toNat : Int)] 5) = wa at b2 hcell hgl ⊢
      clear hg
      refine wpAny_ready (rs := [8]) (by kernel_rfl) (by simp) ?_
      refine AllReady.cons rfl (fun K hK => ?_) AllReady.nil
      simp only [List.getElem_toArray, List.getElem_cons_zero, List.getElem_cons_succ]
      have hcv := conv1 wa g _ c rfl hcell
      go_simp
      refine hK _ _ ?_
      clear hK hcv
      refine takeA (i := 9) (v := ?va9x1) rfl rfl (by kernel_rfl) (by kernel_rfl) (by kernel_rfl) (fun _ _ _ h => absurd h.1 (by intro e; cases e)) rfl ?hya9x1 ?ra9x1
      case hya9x1 => (intro wq; go_simp; try (with_reducible rfl))
      simp only [Act.put, List.setIfInBounds_toArray, List.set_cons_zero, List.set_cons_succ]
      refine takeA (i := 10) (v := ?va10x1) rfl rfl (by kernel_rfl) (by kernel_rfl) (by kernel_rfl) (fun _ _ _ h => absurd h.1 (by intro e; cases e)) rfl ?hya10x1 ?ra10x1
      case hya10x1 => (intro wq; go_simp; try (with_reducible rfl))
      simp only [Act.put, List.setIfInBounds_toArray, List.set_cons_zero, List.set_cons_succ]
      refine wpAny_done (by kernel_rfl) ?_ _
      refine ⟨rfl, g, ?_, Lib.hid b2⟩
      rfl
    · simp only [List.getElem_toArray, List.getElem_cons_zero, List.getElem_cons_succ]
      go_simp
      rw [HE.out]
      refine hK _ _ ?_
      clear hK
      have b1 : Below w.heap.size w (wd.alloc (.cells #[.int .u8 (c.toNat : Int)] 5)) := b0.alloc b0.size _
      have hcell : (wd.alloc (.cells #[.int .u8 (c.toNat : Int)] 5)).cell? ⟨wd.heap.size, 0, none⟩ = some (.int .u8 (c.toNat : Int)) := by simp
      have hgl : wd.heap.size < (wd.alloc (.cells #[.int .u8 (c.toNat : Int)] 5)).heap.size := by simp
      obtain ⟨g, hg⟩ : ∃ g, g = wd.heap.size := ⟨_, rfl⟩
      rw [← hg] at hcell hgl ⊢
      generalize wd.alloc (.cells #[.int .u8 (c.toNat : Int)] 5) = wa at b1 hcell hgl ⊢
      clear hg
      refine wpAny_ready (rs := [2, 8]) (by kernel_rfl) (by simp) ?_
      refine AllReady.cons rfl (fun K hK => ?_) (AllReady.cons rfl (fun K hK => ?_) AllReady.nil)
      · simp only [List.getElem_toArray, List.getElem_cons_zero, List.getElem_cons_succ]
        go_simp
        rw [HQ.out]
        refine (IH.out _).mono ?_
        rintro e wn ⟨rfl, hn⟩
        refine hK _ _ ?_
        clear hK
        have b2 : Below w.heap.size w wn := b1.trans (hn.mono b1.size)
        have hcell2 : wn.cell? ⟨g, 0, none⟩ = some (.int .u8 (c.toNat : Int)) := (hn.cell (p := ⟨g, 0, none⟩) hgl).trans hcell
        refine wpAny_ready (rs := [8]) (by kernel_rfl) (by simp) ?_
        refine AllReady.cons rfl (fun K hK => ?_) AllReady.nil
        simp only [List.getElem_toArray, List.getElem_cons_zero, List.getElem_cons_succ]
        have hcv := conv1 wn g _ c rfl hcell2
        go_simp
        refine hK _ _ ?_
        clear hK hcv
        refine takeA (i := 9) (v := ?va9x2) rfl rfl (by kernel_rfl) (by kernel_rfl) (by kernel_rfl) (fun _ _ _ h => absurd h.1 (by intro e; cases e)) rfl ?hya9x2 ?ra9x2
        case hya9x2 => (intro wq; go_simp; try (with_reducible rfl))
        simp only [Act.put, List.setIfInBounds_toArray, List.set_cons_zero, List.set_cons_succ]
        refine takeA (i := 10) (v := ?va10x2) rfl rfl (by kernel_rfl) (by kernel_rfl) (by kernel_rfl) (fun _ _ _ h => absurd h.1 (by intro e; cases e)) rfl ?hya10x2 ?ra10x2
        case hya10x2 => (intro wq; go_simp; try (with_reducible rfl))
        simp only [Act.put, List.setIfInBounds_toArray, List.set_cons_zero, List.set_cons_succ]
        refine wpAny_done (by kernel_rfl) ?_ _
        refine ⟨rfl, g, ?_, Lib.hid b2⟩
        rfl
      · simp only [List.getElem_toArray, List.getElem_cons_zero, List.getElem_cons_succ]
        have hcv := conv1 wa g _ c rfl hcell
        go_simp
        refine hK _ _ ?_
        clear hK hcv
        refine wpAny_ready (rs := [2]) (by kernel_rfl) (by simp) ?_
        refine AllReady.cons rfl (fun K hK => ?_) AllReady.nil
        simp only [List.getElem_toArray, List.getElem_cons_zero, List.getElem_cons_succ]
        go_simp
        rw [HQ.out]
        refine (IH.out _).mono ?_
        rintro e wn ⟨rfl, hn⟩
        refine hK _ _ ?_
        clear hK
        have b2 : Below w.heap.size w wn := b1.trans (hn.mono b1.size)
        refine takeA (i := 9) (v := ?va9x3) rfl rfl (by kernel_rfl) (by kernel_rfl) (by kernel_rfl) (fun _ _ _ h => absurd h.1 (by intro e; cases e)) rfl ?hya9x3 ?ra9x3
        case hya9x3 => (intro wq; go_simp; try (with_reducible rfl))
        simp only [Act.put, List.setIfInBounds_toArray, List.set_cons_zero, List.set_cons_succ]
        refine takeA (i := 10) (v := ?va10x3) rfl rfl (by kernel_rfl) (by kernel_rfl) (by kernel_rfl) (fun _ _ _ h => absurd h.1 (by intro e; cases e)) rfl ?hya10x3 ?ra10x3
        case hya10x3 => (intro wq; go_simp; try (with_reducible rfl))
        simp only [Act.put, List.setIfInBounds_toArray, List.set_cons_zero, List.set_cons_succ]
        refine wpAny_done (by kernel_rfl) ?_ _
        refine ⟨rfl, g, ?_, Lib.hid b2⟩
        rfl
  rintro g u HB
  go_wp2_with fail
  go_ret
  exact ⟨rfl, HB.out⟩
theorem Decimal_any : ∀ (u : Nat) (hu : u < 9223372036854775808) (w : World), Calls Tryd.prog 33 #[.int .i64 (u : Int)] w fun e w' => e = .returned (.string ⟨(Lib.decDigits u).toArray⟩) ∧ Below w.heap.size w w' := by
  intro u
  induction u using Nat.strongRecOn with
  | _ u ih =>
    intro hu w
    by_cases h : u < 10
    · exact Decimal_one u h w
    · exact Decimal_step u (by omega) hu (fun w => ih (u / 10) (by omega) (by omega) w) w
set_option maxHeartbeats 1000000 in
theorem l01Text_any (u : Nat) (hu : u < 65536) (w : World) :
    Calls Tryd.prog 23 #[.int .u16 (u : Int)] w fun e w' => e = .returned (.string ⟨(nimT u).toArray⟩) ∧ Below w.heap.size w w' := by
  have cv : IntKind.i64.wrap (u : Int) = (u : Int) := by rw [IntKind.wrap_i64]; omega
  have hl := dd_le u (by omega)
  have hc := badd [42] (Lib.decDigits u)
  have HT : Hid (nimT u = [42] ++ Lib.decDigits u) := Lib.hid rfl
  rw [HT.out]
  have HF := fun w => Decimal_any u (by omega) w
  generalize Lib.decDigits u = ds at hl hc HF ⊢
  have hl2 : 1 + ds.length ≤ 9223372036854775807 := by omega
  have hl3 : ¬ 9223372036854775807 < 1 + ds.length := by omega
  have HC := Lib.hid hc
  have HFF := Lib.hid HF
  clear hc hl HF HT
  go_enter Tryd.func23, Tryd.ntmps23
  go_wp2_with fail
  refine (HFF.out _).mono ?_
  rintro e w' ⟨rfl, hb⟩
  have HB := Lib.hid hb
  clear hb
  go_wp2_with fail
  go_ret
  exact ⟨congrArg (fun x => Ending.returned (.string x)) HC.out, HB.out⟩
set_option maxHeartbeats 1000000 in
theorem pow_of_laid {W : World} (h : laidMetH Tryd.prog [("math/bits.deBruijn32tab", Rows.laid_math_bits_deBruijn32tab), ("math/bits.deBruijn64tab", Rows.laid_math_bits_deBruijn64tab), ("internal/strconv.uint64pow10", Rows.laid_internal_strconv_uint64pow10)] W) : POW W := by
  rw [MakeChecks.laidMetH_plain _ _ _ (by kernel_rfl)] at h
  exact Lib.tabIs_of_head (n := 20) (rest := []) (t := 94) (e := 47) gPow (by kernel_rfl) (by kernel_rfl) (by kernel_rfl) (by kernel_rfl) (by kernel_rfl) h.tail.tail
end Go.Proofs.YthhjhfkcgokffaaDoor
