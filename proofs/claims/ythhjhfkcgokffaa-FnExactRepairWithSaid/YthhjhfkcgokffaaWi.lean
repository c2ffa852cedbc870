/-
  Check sums of words: of the model and of the program; CheckSum.
-/
import Derived.Test.YthhjhfkcgokffaaWd
import Derived.Handy
import Derived.Laws.EntriesVeiled
namespace Go.Proofs.Ythhjhfkcgokffaa
set_option linter.unusedVariables false
set_option linter.unusedSimpArgs false
open Go.ChangeShapes Go.WideShapes Go.ChangeAt Go.RowKit

def foldT (f : Int → Int → Int) (z : Int) (zs : List Int) (k : Nat) : Int := (zs.take k).foldl f z
theorem foldT_zero (f : Int → Int → Int) (z : Int) (zs : List Int) : foldT f z zs 0 = z := by simp [foldT]
theorem foldT_step (f : Int → Int → Int) (z : Int) (zs : List Int) (k : Nat) (h : k < zs.length) : foldT f z zs (k + 1) = f (foldT f z zs k) (zs.getD k 0) := by
  unfold foldT
  rw [List.take_succ_eq_append_getElem h, List.foldl_append]
  simp [List.getD, h]
def foldA (f : Int → Int → Int) (z : Int) (zs : List Int) : Int := foldT f z zs zs.length

theorem cell_second (w : World) (o : Obj) (cs : Array Value) (t : TypeId) (i : Nat) : ((w.alloc o).alloc (.cells cs t)).cell? ⟨w.heap.size + 1, i, none⟩ = cs[i]? := by
  have h := heap_alloc_new (w.alloc o) (.cells cs t)
  rw [World.size_alloc] at h
  exact cell_of_row _ _ _ _ _ _ h
set_option maxHeartbeats 1000000 in
theorem foldList_0 (v : Value) (zs : List Int) (hn : zs.length ≤ 1048576) (w : World) (h : NS w v zs) :
    Calls Try.prog 164 #[.int .i64 0, v] w fun e w' => IsV (foldA xorI 0 zs) 65536 e ∧ Below w.heap.size w w' ∧ Grown w w' := by
  have HR := Lib.hid h.range
  obtain ⟨A, c, rfl, hz, hc⟩ := h
  have HC := Lib.hid hc; clear hc hz
  have ix : ∀ w : World, (Instr.index 182 (.agg #[.int .u16 0, .func (.func 126) #[] #[], .int .u16 1, .func (.func 135) #[] #[]]) (.int .i64 0)).run Try.prog w = .ok (.agg #[.int .u16 0, .func (.func 126) #[] #[]]) w := fun _ => by kernel_rfl
  go_enter Try.func164, Try.ntmps164
  go_wp2_with fail
  go_in
  go_wp2_with fail
  generalize hw2 : World.alloc (World.alloc w _) _ = w2
  have hb : Below w.heap.size w w2 := by rw [← hw2]; go_grown
  have hg : Grown w w2 := by rw [← hw2]; go_grown
  have hf : w2.cell? ⟨w.heap.size + 1, 1, none⟩ = some (.func (.func 126) #[] #[]) := by rw [← hw2]; exact cell_second _ _ _ _ _
  have HB := Lib.hid hb; have HG := Lib.hid hg
  clear hw2 hb hg
  go_loop [6, 16] (fun s i => ∃ (t : Int) (k : Nat), s = .int .u16 t ∧ i = .int .i64 k ∧ k ≤ zs.length ∧ 0 ≤ t ∧ t < 65536 ∧ Hid (t = foldT xorI 0 zs k)) (fun _ i => zs.length - (intOf i).toNat)
  case atStart => exact ⟨0, 0, rfl, rfl, Nat.zero_le _, by omega, by omega, Lib.hid (foldT_zero _ _ _).symm⟩
  case round =>
    obtain ⟨t, k, rfl, rfl, hk, t0, t1, ht⟩ := hrel
    by_cases hlt : k < zs.length
    · obtain ⟨b, off, rfl, hlb, hcell⟩ := HC.out (by omega)
      have h1 : w2.cell? ⟨b, off + k, none⟩ = some (.int .u16 (zs.getD k 0)) := (HB.out.cell (p := ⟨b, off + k, none⟩) hlb).trans (hcell k hlt)
      have hst := Lib.hid (foldT_step xorI 0 zs k hlt)
      have hr := HR.out k
      obtain ⟨x, hx⟩ : ∃ x, x = zs.getD k 0 := ⟨_, rfl⟩
      rw [← hx] at h1 hr hst
      have HX := Lib.hid hx; have HCL := Lib.hid hcell
      clear hx hcell
      have r0 := hr.1
      have r1 := hr.2
      clear hr
      go_wp2_with fail
      refine (plus_any 65536 (by decide) _ _ t0 t1 r0 r1 _).mono ?_
      rintro e w' ⟨⟨t', rfl, ht', t0', t1'⟩, rfl⟩
      go_wp2_with fail
      go_round
      case rel => exact ⟨t', k + 1, rfl, by go_num, by omega, t0', t1', Lib.hid (by rw [ht'.out, hst.out, ht.out])⟩
      case measure => simp [intOf]; omega
    · go_wp2_with fail
      go_ret
      exact ⟨⟨t, rfl, Lib.hid (by rw [ht.out, show k = zs.length from by omega]; rfl), t0, t1⟩, HB.out, HG.out⟩
theorem impl_SumOf (v : Value) (zs : List Int) (hn : zs.length ≤ 1048576) (w : World) (h : NS w v zs) :
    Calls Try.prog 146 #[v] w fun e w' => IsV (foldA xorI 0 zs) 65536 e ∧ Below w.heap.size w w' ∧ Grown w w' := by
  have H := Lib.hid h; clear h
  go_enter Try.func146, Try.ntmps146
  go_wp2_with fail
  refine (foldList_0 _ zs hn _ H.out).mono ?_
  rintro e w' ⟨⟨t, rfl, ht, t0, t1⟩, hb⟩
  go_wp2_with fail
  go_ret
  exact ⟨⟨t, rfl, ht, t0, t1⟩, hb⟩
/-- the factors of the second check sum -/
def facW (n : Nat) : List Int := tab n fun i => (i : Int) + 1
theorem facW_at (n i : Nat) (h : i < n) : (facW n).getD i 0 = (i : Int) + 1 := tab_at _ _ _ h
theorem facW_in {n : Nat} (h : n ≤ 1000) : inU (facW n) := tab_in fun i hi => (by show 0 ≤ (i : Int) + 1 ∧ (i : Int) + 1 < 65536; omega)
theorem facW_len (n : Nat) : (facW n).length = n := tab_len _ _
/-- the second check sum, of the first k nimbers -/
def sbI (zs : List Int) : Nat → Int
  | 0 => 0
  | k + 1 => xorI (sbI zs k) (mulI ((k : Int) + 1) (zs.getD k 0))
def saI (zs : List Int) : Int := foldA xorI 0 zs
theorem sbI_u {zs : List Int} (hz : inU zs) : ∀ k, k ≤ 1000 → 0 ≤ sbI zs k ∧ sbI zs k < 65536
  | 0, _ => by unfold sbI; omega
  | k + 1, h => by
    unfold sbI
    exact xorI_u _ _ (sbI_u hz k (by omega)).2 (mulI_u _ _ (by omega) (hz.at k).2).2
def prodW (zs : List Int) : List Int := tab zs.length fun i => mulI (zs.getD i 0) ((facW zs.length).getD i 0)
theorem prodW_len (zs : List Int) : (prodW zs).length = zs.length := tab_len _ _
theorem fold_prodW (zs : List Int) : ∀ k, k ≤ zs.length → foldT xorI 0 (prodW zs) k = sbI zs k
  | 0, _ => by rw [foldT_zero]; rfl
  | k + 1, h => by
    rw [foldT_step _ _ _ _ (by rw [prodW_len]; omega), fold_prodW zs k (by omega)]
    have e : (prodW zs).getD k 0 = mulI ((k : Int) + 1) (zs.getD k 0) := by
      unfold prodW
      rw [tab_at _ _ _ (by omega), facW_at _ _ (by omega), mulI_comm]
    rw [e]; rfl
theorem sum_prodW (zs : List Int) : foldA xorI 0 (prodW zs) = sbI zs zs.length := by
  unfold foldA
  rw [prodW_len]
  exact fold_prodW zs zs.length (Nat.le_refl _)
set_option maxHeartbeats 2000000 in
set_option maxRecDepth 100000 in
theorem checkFactors_any (N : Nat) (hN : N ≤ 1000) (w : World) :
    Calls Try.prog 147 #[.int .i64 (N : Int)] w fun e w' => ∃ r, e = .returned r ∧ PO w' w.heap.size r (facW N) ∧ Below w.heap.size w w' := by
  obtain ⟨i0, hi, hz0, hz1, hz2⟩ := info_parts info25
  obtain ⟨f, hf⟩ : ∃ f : Nat → Int, f = fun i : Nat => (i : Int) + 1 := ⟨_, rfl⟩
  have hfac : facW N = tab N f := by rw [hf]; rfl
  have HFE : Hid (∀ i, f i = (i : Int) + 1) := Lib.hid (fun i => by rw [hf])
  rw [hfac]
  clear hf hfac
  go_enter Try.func147, Try.ntmps147
  go_wp2_with (at_make; refine wpList_make_full _ rfl _ _ 25 rfl w.heap.size 39 i0 (.int .u16 0) 1 Try.underlying25 hi hz0 hz1 _ _ _ _ N rfl rfl rfl rfl (by rw [hz2]; omega) (by unfold maxLen; omega) (Nat.le_refl _) ?_)
  intro w1 hown hgrow
  have hb1 : Below w.heap.size w w1 := (Below.refl _ w).grown hgrow (Nat.le_refl _) (fun k hk => by cases hk)
  obtain ⟨g, hgg⟩ : ∃ g, g = w.heap.size := ⟨_, rfl⟩
  rw [← hgg] at hown hb1 ⊢
  rw [made_tab, ← upto_zero f N] at hown
  have HRW := Lib.hid (RW.of_own hown)
  have HB1 := Lib.hid hb1
  have HG := Lib.hid hgg
  clear hown hgrow hb1 hgg
  go_wp2_with fail
  go_loopw [9] (fun y wr => ∃ k : Nat, y = .int .i64 (k : Int) ∧ k ≤ N ∧ Hid (RW wr g (tab N (upto f k))) ∧ Hid (Below g w wr)) (fun y _ => N - (intOf y).toNat)
  case atStart => exact ⟨0, rfl, Nat.zero_le _, HRW, HB1⟩
  case round =>
    clear HRW HB1
    obtain ⟨k, rfl, hk, HR, HB⟩ := hrel
    by_cases hlt : k < N
    · have i1 : (k : Int) < (N : Int) := by omega
      have q3 := HR.out.tabcell2 k (by omega)
      have q4 := HR.out.free k
      have hset := HR.out.set k (f k)
      rw [upto_set, HFE.out] at hset
      obtain ⟨z0, hz0'⟩ : ∃ z, z = (tab N (upto f k)).getD k 0 := ⟨_, rfl⟩
      rw [← hz0'] at q3
      have HSET := Lib.hid hset
      have HB3 := Lib.hid (HB.out.setCell (p := ⟨g, k, none⟩) (Nat.le_refl _) (.int .u16 ((k : Int) + 1)))
      clear hset hz0'
      go_wp2_with fail
      go_roundw
      case rel => exact ⟨k + 1, by go_num, by omega, HSET, HB3⟩
      case measure => simp [intOf]; omega
    · obtain rfl : k = N := by omega
      have T1 : decide ((k : Int) < (k : Int)) = false := by simp
      have hr := HR.out
      rw [upto_end] at hr
      have hpo := hr.po (tab_in fun i hi => by rw [HFE.out]; exact ⟨by omega, by omega⟩) (Nat.le_of_eq HG.out.symm) (by rw [tab_len]; unfold maxLen; omega)
      rw [tab_len] at hpo
      have HPO := Lib.hid hpo
      clear hr hpo
      go_wp2_with fail
      go_ret
      exact ⟨_, rfl, HPO.out, by rw [← HG.out]; exact HB.out⟩
set_option maxHeartbeats 2000000 in
theorem checkSums_any (v : Value) (zs : List Int) (hn : zs.length ≤ 1000) (w : World) (h : NS w v zs) :
    Calls Try.prog 119 #[v] w fun e w' => e = .returned (.agg #[.int .u16 (saI zs), .int .u16 (sbI zs zs.length)]) ∧ Below w.heap.size w w' := by
  have hg : ∀ args w, (callFunc 135 args).run Try.prog w = .ok (.enter 135 args) w := enters_of Try.func135 (by kernel_rfl) rfl
  have hP : ∀ (u : Value) (w : World), NS w v zs → NS w u (facW zs.length) → Calls Try.prog 133 #[v, u, .func (.func 135) #[] #[]] w fun e w' => ∃ r, e = .returned r ∧ PO w' w.heap.size r (prodW zs) ∧ Below w.heap.size w w' := fun u w h1 h2 =>
    pairwise_any v u zs (facW zs.length) (by omega) (by rw [facW_len]; omega) (by rw [facW_len]; exact Nat.le_refl _) 135 hg mulI (fun x y W a b c d => times_v x y a b c d W) (fun x y a b => mulI_u x y a b) w h1 h2
  have HP := Lib.hid hP
  have HN := Lib.hid h
  obtain ⟨A, c, rfl⟩ := h.form
  obtain ⟨sa, hsa⟩ : ∃ sa, sa = saI zs := ⟨_, rfl⟩
  obtain ⟨sb, hsb⟩ : ∃ sb, sb = sbI zs zs.length := ⟨_, rfl⟩
  rw [← hsa, ← hsb]
  have HSA := Lib.hid hsa
  have HSB := Lib.hid hsb
  clear h hP hg hsa hsb
  obtain ⟨w1, hw1⟩ : ∃ w1, w1 = w.alloc (.cells #[.int .u16 0, .int .u16 0] 116) := ⟨_, rfl⟩
  have hb1 : Below w.heap.size w w1 := by rw [hw1]; exact (Below.refl _ _).alloc (Nat.le_refl _) _
  have hlt1 : w.heap.size < w1.heap.size := by rw [hw1]; simp
  have hr1 : w1.heap[w.heap.size]? = some (.cells #[.int .u16 0, .int .u16 0] 116 (0, 0)) := by rw [hw1]; exact heap_alloc_new w _
  have HW1 := Lib.hid hw1
  have HB1 := Lib.hid hb1
  have HR1 := Lib.hid hr1
  have HL1 := Lib.hid hlt1
  clear hw1 hb1 hr1 hlt1
  go_enter Try.func119, Try.ntmps119
  go_wp2_with fail
  rw [← HW1.out]
  refine (impl_SumOf _ zs (by omega) _ (HN.out.below HB1.out)).mono ?_
  rintro e w2 ⟨⟨t, rfl, ht, t0, t1⟩, hb2, _⟩
  have HB2 := Lib.hid (bchain HB1.out hb2)
  have HR2 := Lib.hid ((hb2.block w.heap.size HL1.out).trans HR1.out)
  have HL2 := Lib.hid (Nat.lt_of_lt_of_le HL1.out hb2.size)
  clear hb2
  go_wp2_with fail
  refine (checkFactors_any zs.length hn _).mono ?_
  rintro e w3 ⟨r3, rfl, hp3, hb3⟩
  have HP3 := Lib.hid hp3
  have HB3 := Lib.hid (bchain HB2.out hb3)
  have HR3 := Lib.hid ((hb3.block w.heap.size HL2.out).trans HR2.out)
  have HL3 := Lib.hid (Nat.lt_of_lt_of_le HL2.out hb3.size)
  clear hp3 hb3
  go_wp2_with fail
  refine (HP.out r3 _ (HN.out.below HB3.out) HP3.out.ns).mono ?_
  rintro e w4 ⟨r4, rfl, hp4, hb4⟩
  have HP4 := Lib.hid hp4
  have HB4 := Lib.hid (bchain HB3.out hb4)
  have HR4 := Lib.hid ((hb4.block w.heap.size HL3.out).trans HR3.out)
  have HL4 := Lib.hid (Nat.lt_of_lt_of_le HL3.out hb4.size)
  clear hp4 hb4
  go_wp2_with fail
  refine (impl_SumOf _ (prodW zs) (by rw [prodW_len]; omega) _ HP4.out.ns).mono ?_
  rintro e w5 ⟨⟨t', rfl, ht', t0', t1'⟩, hb5, _⟩
  have HB5 := Lib.hid (bchain HB4.out hb5)
  have hr5 := (hb5.block w.heap.size HL4.out).trans HR4.out
  have c0 : w5.cell? ⟨w.heap.size, 0, none⟩ = some (.int .u16 0) := cell_of_row _ _ _ _ _ _ hr5
  have c1 : w5.cell? ⟨w.heap.size, 1, none⟩ = some (.int .u16 0) := cell_of_row _ _ _ _ _ _ hr5
  have f0 : ∀ o, w5.frozen? ⟨w.heap.size, o, none⟩ = false := fun o => by unfold World.frozen?; rw [hr5]; simp
  have HR5 := Lib.hid hr5
  have e1 : Hid (t = sa) := Lib.hid (by rw [ht.out, HSA.out]; rfl)
  have e2 : Hid (t' = sb) := Lib.hid (by rw [ht'.out, HSB.out]; exact sum_prodW zs)
  clear hb5 hr5 ht ht'
  go_wp2_with fail
  have hr6 : ((w5.setCell ⟨w.heap.size, 0, none⟩ (.int .u16 t)).setCell ⟨w.heap.size, 1, none⟩ (.int .u16 t')).heap[w.heap.size]? = some (.cells #[.int .u16 t, .int .u16 t'] 116 (0, 0)) := by
    rw [heap_setCell_same _ _ 1 _ _ _ (heap_setCell_same w5 _ 0 _ _ _ HR5.out)]
    rfl
  have cA : ((w5.setCell ⟨w.heap.size, 0, none⟩ (.int .u16 t)).setCell ⟨w.heap.size, 1, none⟩ (.int .u16 t')).cell? ⟨w.heap.size, 0, none⟩ = some (.int .u16 t) := cell_of_row _ _ _ _ _ _ hr6
  have cB : ((w5.setCell ⟨w.heap.size, 0, none⟩ (.int .u16 t)).setCell ⟨w.heap.size, 1, none⟩ (.int .u16 t')).cell? ⟨w.heap.size, 1, none⟩ = some (.int .u16 t') := cell_of_row _ _ _ _ _ _ hr6
  refine bodyPost_ret (v := .agg #[.int .u16 t, .int .u16 t']) (by simp [results, Try.results119, go_sem, cA, cB]) rfl ⟨by rw [e1.out, e2.out], ?_⟩
  exact (HB5.out.setCell (p := ⟨w.heap.size, 0, none⟩) (Nat.le_refl _) _).setCell (p := ⟨w.heap.size, 1, none⟩) (Nat.le_refl _) _
set_option maxHeartbeats 2000000 in
theorem l06Sums_any (v : Value) (zs : List Int) (hn : zs.length ≤ 1000) (w : World) (h : NS w v zs) :
    Calls Try.prog 118 #[v] w fun e w' => e = .returned (.tuple #[.int .u16 (saI zs), .int .u16 (sbI zs zs.length)]) ∧ w = w' := by
  have HU := Lib.hid (inU_of h)
  obtain ⟨A, c, rfl, _, hc⟩ := h
  have HC := Lib.hid hc
  obtain ⟨sa, hsa⟩ : ∃ sa, sa = saI zs := ⟨_, rfl⟩
  obtain ⟨sb, hsb⟩ : ∃ sb, sb = sbI zs zs.length := ⟨_, rfl⟩
  rw [← hsa, ← hsb]
  have HSA := Lib.hid hsa
  have HSB := Lib.hid hsb
  clear hc hsa hsb
  go_enter Try.func118, Try.ntmps118
  go_wp2_with fail
  go_loop [6, 4, 5] (fun y a b => ∃ (k : Nat) (x z : Int), y = .int .i64 (k : Int) ∧ k ≤ zs.length ∧ a = .int .u16 x ∧ b = .int .u16 z ∧ 0 ≤ x ∧ x < 65536 ∧ 0 ≤ z ∧ z < 65536 ∧ Hid (x = foldT xorI 0 zs k) ∧ Hid (z = sbI zs k)) (fun y _ _ => zs.length - (intOf y).toNat)
  case atStart => exact ⟨0, 0, 0, rfl, Nat.zero_le _, rfl, rfl, by omega, by omega, by omega, by omega, Lib.hid (foldT_zero _ _ _).symm, Lib.hid rfl⟩
  case round =>
    obtain ⟨k, x, z, rfl, hk, rfl, rfl, x0, x1, z0, z1, HX, HZ⟩ := hrel
    by_cases hlt : k < zs.length
    · obtain ⟨b, off, rfl, hlb, hcell⟩ := HC.out (by omega)
      have i1 : (k : Int) < (zs.length : Int) := by omega
      have q1 := hcell k hlt
      have r1 := HU.out.at k
      have hs1 := foldT_step xorI 0 zs k hlt
      have hs2 : sbI zs (k + 1) = xorI (sbI zs k) (mulI ((k : Int) + 1) (zs.getD k 0)) := rfl
      obtain ⟨y, hy⟩ : ∃ y, y = zs.getD k 0 := ⟨_, rfl⟩
      rw [← hy] at q1 r1 hs1 hs2
      rw [← HX.out] at hs1
      rw [← HZ.out] at hs2
      obtain ⟨r10, r11⟩ := r1
      have r2 := mulI_u ((k : Int) + 1) y (by omega) r11
      have hlt2 := ltimes_v ((k : Int) + 1) y (by omega) (by omega) r10 r11 w
      obtain ⟨p, hp⟩ : ∃ p, p = mulI ((k : Int) + 1) y := ⟨_, rfl⟩
      rw [← hp] at hs2 r2 hlt2
      obtain ⟨r20, r21⟩ := r2
      have b1 := bits_xor x y x0 x1 r10 r11
      have b2 := bits_xor z p z0 z1 r20 r21
      have u1 := xorI_u x y x1 r11
      have u2 := xorI_u z p z1 r21
      obtain ⟨x', hx'⟩ : ∃ x', x' = xorI x y := ⟨_, rfl⟩
      obtain ⟨z', hz'⟩ : ∃ z', z' = xorI z p := ⟨_, rfl⟩
      rw [← hx'] at hs1 b1 u1
      rw [← hz'] at hs2 b2 u2
      obtain ⟨u10, u11⟩ := u1
      obtain ⟨u20, u21⟩ := u2
      have HS1 := Lib.hid hs1
      have HS2 := Lib.hid hs2
      have HLT := Lib.hid hlt2
      have HCL := Lib.hid hcell
      clear hcell hy hp hx' hz' hs1 hs2 hlt2
      go_wp2_with fail
      refine HLT.out.mono ?_
      rintro e w' ⟨rfl, rfl⟩
      go_wp2_with fail
      exact ⟨⟨k + 1, x', z', by go_num, by omega, rfl, rfl, u10, u11, u20, u21, Lib.hid HS1.out.symm, Lib.hid HS2.out.symm⟩, by simp [intOf]; omega⟩
    · obtain rfl : k = zs.length := by omega
      have T1 : decide ((zs.length : Int) < (zs.length : Int)) = false := by simp
      have e1 : Hid (x = sa) := Lib.hid (by rw [HX.out, HSA.out]; rfl)
      have e2 : Hid (z = sb) := Lib.hid (by rw [HZ.out, HSB.out])
      go_wp2_with fail
      go_ret2
      exact ⟨by rw [e1.out, e2.out]; rfl, rfl⟩
def saA (zs : List Int) : Int := if zs.length ≤ 7 then saI zs else 0
def sbA (zs : List Int) : Int := if zs.length ≤ 7 then sbI zs zs.length else 0
set_option maxHeartbeats 1000000 in
theorem spec_CheckSum (v : Value) (zs : List Int) (hn : zs.length ≤ 1048576) (w : World) (h : NS w v zs) :
    Calls Try.prog 67 #[v] w fun e w' => e = .returned (.tuple #[.int .u16 (saA zs), .int .u16 (sbA zs), .int .i64 (oneC zs)]) ∧ Below w.heap.size w w' := by
  have HN := Lib.hid h
  obtain ⟨A, c, rfl⟩ := h.form
  clear h
  by_cases h7 : zs.length ≤ 7
  · have e1 : saA zs = saI zs := if_pos h7
    have e2 : sbA zs = sbI zs zs.length := if_pos h7
    have e3 : oneC zs = 0 := if_pos h7
    rw [e1, e2, e3]
    have hl := l06Sums_any _ zs (by omega) w HN.out
    obtain ⟨sa, hsa⟩ : ∃ sa, sa = saI zs := ⟨_, rfl⟩
    obtain ⟨sb, hsb⟩ : ∃ sb, sb = sbI zs zs.length := ⟨_, rfl⟩
    rw [← hsa, ← hsb] at hl ⊢
    have HL := Lib.hid hl
    have T1 : decide ((7 : Int) < (zs.length : Int)) = false := by simp; omega
    clear e1 e2 e3 hl hsa hsb
    go_enter Try.func67, Try.ntmps67
    go_wp2_with fail
    refine HL.out.mono ?_
    rintro e w' ⟨rfl, rfl⟩
    go_wp2_with fail
    refine bodyPost_ret (v := .tuple #[.int .u16 sa, .int .u16 sb, .int .i64 0]) (by simp [results, Try.results67, go_sem]) rfl ⟨rfl, Below.refl _ _⟩
  · have e1 : saA zs = 0 := if_neg h7
    have e2 : sbA zs = 0 := if_neg h7
    have e3 : oneC zs = 3 := if_neg h7
    rw [e1, e2, e3]
    have T1 : decide ((7 : Int) < (zs.length : Int)) = true := by simp; omega
    clear e1 e2 e3
    go_enter Try.func67, Try.ntmps67
    go_wp2_with fail
    refine bodyPost_ret (v := .tuple #[.int .u16 0, .int .u16 0, .int .i64 3]) (by simp [results, Try.results67, go_sem]) rfl ⟨rfl, Below.refl _ _⟩
set_option maxHeartbeats 1000000 in
theorem impl_CheckSum (v : Value) (zs : List Int) (hn : zs.length ≤ 1048576) (w : World) (h : NS w v zs) :
    Calls Try.prog 68 #[v] w fun e w' => e = .returned (.tuple #[.int .u16 (saA zs), .int .u16 (sbA zs), .int .i64 (oneC zs)]) ∧ Below w.heap.size w w' := by
  have HC1 := Lib.hid (check1L v zs hn w h)
  have HN := Lib.hid h
  obtain ⟨A, c, rfl⟩ := h.form
  clear h
  by_cases h7 : zs.length ≤ 7
  · have e1 : saA zs = saI zs := if_pos h7
    have e2 : sbA zs = sbI zs zs.length := if_pos h7
    have e3 : oneC zs = 0 := if_pos h7
    rw [e1, e2, e3]
    rw [e3] at HC1
    have hl := fun w1 h1 => checkSums_any (.slice A zs.length c) zs (by omega) w1 h1
    obtain ⟨sa, hsa⟩ : ∃ sa, sa = saI zs := ⟨_, rfl⟩
    obtain ⟨sb, hsb⟩ : ∃ sb, sb = sbI zs zs.length := ⟨_, rfl⟩
    rw [← hsa, ← hsb] at hl ⊢
    have HL := Lib.hid hl
    clear e1 e2 e3 hl hsa hsb
    go_enter Try.func68, Try.ntmps68
    go_wp2_with fail
    refine HC1.out.mono ?_
    rintro e w1 ⟨rfl, hb⟩
    have HB1 := Lib.hid hb
    clear hb
    go_wp2_with fail
    refine (HL.out _ (HN.out.below HB1.out)).mono ?_
    rintro e w2 ⟨rfl, hb⟩
    have HB2 := Lib.hid (bchain HB1.out hb)
    clear hb
    go_wp2_with fail
    go_quiet (fail)
    go_wp2_with fail
    refine bodyPost_ret (v := .tuple #[.int .u16 sa, .int .u16 sb, .int .i64 0]) (by simp [results, Try.results68, go_sem]) rfl ⟨rfl, bdrewN (HB2.out.alloc HB2.out.size _) _⟩
  · have e1 : saA zs = 0 := if_neg h7
    have e2 : sbA zs = 0 := if_neg h7
    have e3 : oneC zs = 3 := if_neg h7
    rw [e1, e2, e3]
    rw [e3] at HC1
    clear e1 e2 e3
    go_enter Try.func68, Try.ntmps68
    go_wp2_with fail
    refine HC1.out.mono ?_
    rintro e w1 ⟨rfl, hb⟩
    have HB1 := Lib.hid hb
    clear hb
    go_wp2_with fail
    refine bodyPost_ret (v := .tuple #[.int .u16 0, .int .u16 0, .int .i64 3]) (by simp [results, Try.results68, go_sem]) rfl ⟨rfl, HB1.out⟩
end Go.Proofs.Ythhjhfkcgokffaa
