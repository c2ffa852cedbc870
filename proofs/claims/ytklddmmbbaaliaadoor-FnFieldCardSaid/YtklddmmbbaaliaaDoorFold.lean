/-
  Sums and products of lists, of the program and of the model.
-/
import Derived.Test.YtklddmmbbaaliaaDoorList
import Derived.Test.YtklddmmbbaaliaaDoorGen2
import Derived.Handy
import Derived.Laws.EntriesVeiled
namespace Go.Proofs.YtklddmmbbaaliaaDoor
set_option linter.unusedVariables false
set_option linter.unusedSimpArgs false
open Go.ChangeShapes Go.WideShapes Go.ChangeAt Go.RowKit

def foldT (f : Int → Int → Int) (z : Int) (zs : List Int) (k : Nat) : Int := (zs.take k).foldl f z
theorem foldT_zero (f : Int → Int → Int) (z : Int) (zs : List Int) : foldT f z zs 0 = z := by simp [foldT]
theorem foldT_step (f : Int → Int → Int) (z : Int) (zs : List Int) (k : Nat) (h : k < zs.length) : foldT f z zs (k + 1) = f (foldT f z zs k) (zs.getD k 0) := by
  unfold foldT
  rw [List.take_succ_eq_append_getElem h, List.foldl_append]
  simp [List.getD, h]
def foldA (f : Int → Int → Int) (z : Int) (zs : List Int) : Int := foldT f z zs zs.length

set_option maxHeartbeats 1000000 in
theorem l01Sum_any (v : Value) (zs : List Int) (hn : zs.length ≤ 1048576) (w : World) (h : NS w v zs) :
    Calls Tryd.prog 95 #[v] w fun e w' => IsV (foldA xorI 0 zs) 65536 e ∧ w = w' := by
  have HR := Lib.hid h.range
  obtain ⟨A, c, rfl, hz, hc⟩ := h
  have HC := Lib.hid hc; clear hc hz
  go_enter Tryd.func95, Tryd.ntmps95
  go_wp2_with fail
  go_loop [3, 4] (fun s i => ∃ (t : Int) (k : Nat), s = .int .u16 t ∧ i = .int .i64 k ∧ k ≤ zs.length ∧ 0 ≤ t ∧ t < 65536 ∧ Hid (t = foldT xorI 0 zs k)) (fun _ i => zs.length - (intOf i).toNat)
  case atStart => exact ⟨0, 0, rfl, rfl, Nat.zero_le _, by omega, by omega, Lib.hid (foldT_zero _ _ _).symm⟩
  case round =>
    obtain ⟨t, k, rfl, rfl, hk, t0, t1, ht⟩ := hrel
    by_cases hlt : k < zs.length
    · obtain ⟨b, off, rfl, hlb, hcell⟩ := HC.out (by omega)
      have h1 : w.cell? ⟨b, off + k, none⟩ = some (.int .u16 (zs.getD k 0)) := hcell k hlt
      have hst := Lib.hid (foldT_step xorI 0 zs k hlt)
      have hr := HR.out k
      obtain ⟨x, hx⟩ : ∃ x, x = zs.getD k 0 := ⟨_, rfl⟩
      rw [← hx] at h1 hr hst
      have HX := Lib.hid hx; have HCL := Lib.hid hcell
      clear hx hcell
      have hb := Lib.hid (bits_xor t x t0 t1 hr.1 hr.2)
      have hl := Lib.hid (xorI_lt 65536 (by decide) t x t1 hr.2)
      go_wp2_with fail
      go_round
      case rel => exact ⟨_, k + 1, rfl, by go_num, by omega, by rw [hb.out]; exact hl.out.1, by rw [hb.out]; exact hl.out.2, Lib.hid (by rw [hb.out, hst.out, ht.out])⟩
      case measure => simp [intOf]; omega
    · go_wp2_with fail
      go_ret
      exact ⟨⟨t, rfl, Lib.hid (by rw [ht.out, show k = zs.length from by omega]; rfl), t0, t1⟩, rfl⟩
theorem cell_second (w : World) (o : Obj) (cs : Array Value) (t : TypeId) (i : Nat) : ((w.alloc o).alloc (.cells cs t)).cell? ⟨w.heap.size + 1, i, none⟩ = cs[i]? := by
  have h := heap_alloc_new (w.alloc o) (.cells cs t)
  rw [World.size_alloc] at h
  exact cell_of_row _ _ _ _ _ _ h
set_option maxHeartbeats 1000000 in
theorem foldList_0 (v : Value) (zs : List Int) (hn : zs.length ≤ 1048576) (w : World) (h : NS w v zs) :
    Calls Tryd.prog 94 #[.int .i64 0, v] w fun e w' => IsV (foldA xorI 0 zs) 65536 e ∧ Below w.heap.size w w' ∧ Grown w w' := by
  have HR := Lib.hid h.range
  obtain ⟨A, c, rfl, hz, hc⟩ := h
  have HC := Lib.hid hc; clear hc hz
  have ix : ∀ w : World, (Instr.index 150 (.agg #[.int .u16 0, .func (.func 79) #[] #[], .int .u16 1, .func (.func 77) #[] #[]]) (.int .i64 0)).run Tryd.prog w = .ok (.agg #[.int .u16 0, .func (.func 79) #[] #[]]) w := fun _ => by kernel_rfl
  go_enter Tryd.func94, Tryd.ntmps94
  go_wp2_with fail
  go_in
  go_wp2_with fail
  generalize hw2 : World.alloc (World.alloc w _) _ = w2
  have hb : Below w.heap.size w w2 := by rw [← hw2]; go_grown
  have hg : Grown w w2 := by rw [← hw2]; go_grown
  have hf : w2.cell? ⟨w.heap.size + 1, 1, none⟩ = some (.func (.func 79) #[] #[]) := by rw [← hw2]; exact cell_second _ _ _ _ _
  have HB := Lib.hid hb; have HG := Lib.hid hg
  clear hw2 hb hg
  go_loop [6, 16] (fun s i => ∃ (t : Int) (k : Nat), s = .int .u16 t ∧ i = .int .i64 k ∧ k ≤ zs.length ∧ 0 ≤ t ∧ t < 65536 ∧ Hid (t = foldT xorI 0 zs k)) (fun _ i => zs.length - (intOf i).toNat)
  case atStart => exact ⟨0, 0, rfl, rfl, Nat.zero_le _, by omega, by omega, Lib.hid (foldT_zero _ _ _).symm⟩
  case round =>
    obtain ⟨t, k, rfl, rfl, hk, t0, t1, ht⟩ := hrel
    by_cases hlt : k < zs.length
    · obtain ⟨b, off, rfl, hlb, hcell⟩ := HC.out (by omega)
      have h1 : w2.cell? ⟨b, off + k, none⟩ = some (.int .u16 (zs.getD k 0)) := (HB.out.cell (p := ⟨b, off + k, none⟩) hlb).trans (hcell k hlt)
      have hst := Lib.hid (foldT_step xorI 0 zs k hlt)
      have hr := HR.out k
      obtain ⟨x, hx⟩ : ∃ x, x = zs.getD k 0 := ⟨_, rfl⟩
      rw [← hx] at h1 hr hst
      have HX := Lib.hid hx; have HCL := Lib.hid hcell
      clear hx hcell
      have r0 := hr.1
      have r1 := hr.2
      clear hr
      go_wp2_with fail
      refine (plus_any 65536 (by decide) _ _ t0 t1 r0 r1 _).mono ?_
      rintro e w' ⟨⟨t', rfl, ht', t0', t1'⟩, rfl⟩
      go_wp2_with fail
      go_round
      case rel => exact ⟨t', k + 1, rfl, by go_num, by omega, t0', t1', Lib.hid (by rw [ht'.out, hst.out, ht.out])⟩
      case measure => simp [intOf]; omega
    · go_wp2_with fail
      go_ret
      exact ⟨⟨t, rfl, Lib.hid (by rw [ht.out, show k = zs.length from by omega]; rfl), t0, t1⟩, HB.out, HG.out⟩
set_option maxHeartbeats 1000000 in
theorem foldList_1 (v : Value) (zs : List Int) (hn : zs.length ≤ 1048576) (w : World) (h : NS w v zs) :
    Calls Tryd.prog 94 #[.int .i64 1, v] w fun e w' => IsV (foldA mulI 1 zs) 65536 e ∧ Below w.heap.size w w' ∧ Grown w w' := by
  have HR := Lib.hid h.range
  obtain ⟨A, c, rfl, hz, hc⟩ := h
  have HC := Lib.hid hc; clear hc hz
  have ix : ∀ w : World, (Instr.index 150 (.agg #[.int .u16 0, .func (.func 79) #[] #[], .int .u16 1, .func (.func 77) #[] #[]]) (.int .i64 1)).run Tryd.prog w = .ok (.agg #[.int .u16 1, .func (.func 77) #[] #[]]) w := fun _ => by kernel_rfl
  go_enter Tryd.func94, Tryd.ntmps94
  go_wp2_with fail
  go_in
  go_wp2_with fail
  generalize hw2 : World.alloc (World.alloc w _) _ = w2
  have hb : Below w.heap.size w w2 := by rw [← hw2]; go_grown
  have hg : Grown w w2 := by rw [← hw2]; go_grown
  have hf : w2.cell? ⟨w.heap.size + 1, 1, none⟩ = some (.func (.func 77) #[] #[]) := by rw [← hw2]; exact cell_second _ _ _ _ _
  have HB := Lib.hid hb; have HG := Lib.hid hg
  clear hw2 hb hg
  go_loop [6, 16] (fun s i => ∃ (t : Int) (k : Nat), s = .int .u16 t ∧ i = .int .i64 k ∧ k ≤ zs.length ∧ 0 ≤ t ∧ t < 65536 ∧ Hid (t = foldT mulI 1 zs k)) (fun _ i => zs.length - (intOf i).toNat)
  case atStart => exact ⟨1, 0, rfl, rfl, Nat.zero_le _, by omega, by omega, Lib.hid (foldT_zero _ _ _).symm⟩
  case round =>
    obtain ⟨t, k, rfl, rfl, hk, t0, t1, ht⟩ := hrel
    by_cases hlt : k < zs.length
    · obtain ⟨b, off, rfl, hlb, hcell⟩ := HC.out (by omega)
      have h1 : w2.cell? ⟨b, off + k, none⟩ = some (.int .u16 (zs.getD k 0)) := (HB.out.cell (p := ⟨b, off + k, none⟩) hlb).trans (hcell k hlt)
      have hst := Lib.hid (foldT_step mulI 1 zs k hlt)
      have hr := HR.out k
      obtain ⟨x, hx⟩ : ∃ x, x = zs.getD k 0 := ⟨_, rfl⟩
      rw [← hx] at h1 hr hst
      have HX := Lib.hid hx; have HCL := Lib.hid hcell
      clear hx hcell
      have r0 := hr.1
      have r1 := hr.2
      clear hr
      go_wp2_with fail
      refine (times_any _ _ t0 t1 r0 r1 _).mono ?_
      rintro e w' ⟨⟨t', rfl, ht', t0', t1'⟩, rfl⟩
      go_wp2_with fail
      go_round
      case rel => exact ⟨t', k + 1, rfl, by go_num, by omega, t0', t1', Lib.hid (by rw [ht'.out, hst.out, ht.out])⟩
      case measure => simp [intOf]; omega
    · go_wp2_with fail
      go_ret
      exact ⟨⟨t, rfl, Lib.hid (by rw [ht.out, show k = zs.length from by omega]; rfl), t0, t1⟩, HB.out, HG.out⟩
set_option maxHeartbeats 1000000 in
theorem impl_SumOf (v : Value) (zs : List Int) (hn : zs.length ≤ 1048576) (w : World) (h : NS w v zs) :
    Calls Tryd.prog 45 #[v] w fun e w' => IsV (foldA xorI 0 zs) 65536 e ∧ Below w.heap.size w w' ∧ Grown w w' := by
  have H := Lib.hid h; clear h
  go_enter Tryd.func45, Tryd.ntmps45
  go_wp2_with fail
  refine (foldList_0 _ zs hn _ H.out).mono ?_
  rintro e w' ⟨⟨t, rfl, ht, t0, t1⟩, hb⟩
  go_wp2_with fail
  go_ret
  exact ⟨⟨t, rfl, ht, t0, t1⟩, hb⟩
theorem impl_ProductOf (v : Value) (zs : List Int) (hn : zs.length ≤ 1048576) (w : World) (h : NS w v zs) :
    Calls Tryd.prog 50 #[v] w fun e w' => IsV (foldA mulI 1 zs) 65536 e ∧ Below w.heap.size w w' ∧ Grown w w' := by
  have H := Lib.hid h; clear h
  go_enter Tryd.func50, Tryd.ntmps50
  go_wp2_with fail
  refine (foldList_1 _ zs hn _ H.out).mono ?_
  rintro e w' ⟨⟨t, rfl, ht, t0, t1⟩, hb⟩
  go_wp2_with fail
  go_ret
  exact ⟨⟨t, rfl, ht, t0, t1⟩, hb⟩
theorem spec_SumOf (v : Value) (zs : List Int) (hn : zs.length ≤ 1048576) (w : World) (h : NS w v zs) :
    Calls Tryd.prog 48 #[v] w fun e w' => IsV (foldA xorI 0 zs) 65536 e ∧ w = w' := by
  have H := Lib.hid h; clear h
  go_enter Tryd.func48, Tryd.ntmps48
  go_wp2_with fail
  refine (l01Sum_any _ zs hn _ H.out).mono ?_
  rintro e w' ⟨⟨t, rfl, ht, t0, t1⟩, rfl⟩
  go_wp2_with fail
  go_ret
  exact ⟨⟨t, rfl, ht, t0, t1⟩, rfl⟩
end Go.Proofs.YtklddmmbbaaliaaDoor
