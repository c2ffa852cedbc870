/-
  Products of a nimber and a word: of the model, and of the program (slices.Repeat, then pairwise); ScaleWord.
-/
import Derived.Test.YthhjhfkcgokffaaWd
import Derived.Test.YthhjhfkcgokffaaShelf
namespace Go.Proofs.Ythhjhfkcgokffaa
set_option linter.unusedVariables false
set_option linter.unusedSimpArgs false
open Go.ChangeShapes Go.WideShapes Go.ChangeAt Go.RowKit

theorem mul1_any (n : Nat) (hn : n ≤ 1048576) (w : World) :
    Calls Try.prog 155 #[.int .u64 1, .int .u64 (n : Int)] w fun e w' => e = .returned (.tuple #[.int .u64 0, .int .u64 (n : Int)]) ∧ w' = w := by
  refine (Try.bits_Mul 1 n (by omega) (by omega) w).mono ?_
  rintro e w' ⟨rfl, rfl⟩
  refine ⟨?_, rfl⟩
  rw [Nat.one_mul, Nat.div_eq_of_lt (by omega), Nat.mod_eq_of_lt (by omega)]
  rfl
theorem wp_copy_splice {P : Program} {o : Oper} {a : Act} {w : World} {K : Act → World → Prop} {Q : Exit → Act → World → Prop} (hgd : o.guard = none) (d s : Operand) (dT sT : TypeId)
    (ho : o.op = .call { callee := .builtin .copy, args := #[d, s], argTypes := #[dT, sT] }) (elem : TypeId) (hu : P.underlying dT = some (.slice elem)) (hsz : (P.info? elem).map (·.size) = some 1)
    (dp sp : Option Addr) (dLen dCap sLen sCap : Nat) (hd : a.eval d = .slice dp dLen dCap) (hs : a.eval s = .slice sp sLen sCap)
    (g off : Nat) (cur : List Value) (t : TypeId) (hg : w.heap[g]? = some (.cells cur.toArray t (0, 0))) (cs : List Value) (hn : cs.length = Nat.min sLen dLen)
    (hpos : 0 < cs.length → dp = some ⟨g, off, none⟩ ∧ ∃ ad, sp = some ad ∧ ∀ j v, cs[j]? = some v → w.cell? (ad.add j) = some v)
    (hfit : off + cs.length ≤ cur.length) (h1 : ∀ v ∈ cs, v.oneCell' = true) (B : Nat) (w0 : World) (hb : Below B w0 w) (hBg : B ≤ g)
    (h : ∀ w', Hid (w'.heap[g]? = some (.cells (splice cur off cs).toArray t (0, 0))) → Below B w0 w' → K (a.put o.dst (goInt cs.length)) w') : o.wp P a w K Q := by
  have h2 := step_copy_splice (P := P) (ops := #[]) (o := o) (a := a) (w := w) (K := K) (Q := Q) (E := True) hgd d s dT sT ho elem hu hsz dp sp dLen dCap sLen sCap hd hs g off cur t hg cs hn hpos hfit h1 B w0 hb hBg h
  rw [if_pos (by simp [Region.wanted, hgd])] at h2
  exact h2
theorem splice_rep (b : Int) (N k m : Nat) (h : k + m ≤ N) : splice (u16s (tab N (upto (fun _ => b) k))) k (List.replicate m (.int .u16 b)) = u16s (tab N (upto (fun _ => b) (k + m))) := by
  unfold splice
  apply List.ext_getElem?
  intro i
  by_cases h1 : i < k
  · simp [u16s, tab, upto, h1, List.getElem?_append, List.getElem?_take, show i < N from by omega, show i < k + m from by omega, show k ≤ N from by omega]
  · by_cases h2 : i < k + m
    · simp [u16s, tab, upto, h1, h2, List.getElem?_append, List.getElem?_take, show i < N from by omega, show k ≤ N from by omega, show i - k < m from by omega]
    · by_cases h3 : i < N
      · simp [u16s, tab, upto, h1, h2, h3, List.getElem?_append, List.getElem?_take, show k ≤ N from by omega, show ¬ i - k < m from by omega, show k + m + (i - k - m) = i from by omega]
      · simp [u16s, tab, upto, h1, h2, h3, List.getElem?_append, List.getElem?_take, show k ≤ N from by omega, show ¬ i - k < m from by omega, show k + m + (i - k - m) = i from by omega]
set_option maxHeartbeats 4000000 in
set_option maxRecDepth 100000 in
theorem repeat_any (b : Int) (b0 : 0 ≤ b) (b1 : b < 65536) (g0 N : Nat) (hN : N ≤ 1048576) (w : World) (hg0 : g0 < w.heap.size) (hc : w.cell? ⟨g0, 0, none⟩ = some (.int .u16 b)) :
    Calls Try.prog 134 #[.slice (some ⟨g0, 0, none⟩) 1 1, .int .i64 (N : Int)] w fun e w' => ∃ r, e = .returned r ∧ PO w' w.heap.size r (tab N fun _ => b) ∧ Below w.heap.size w w' := by
  obtain ⟨i0, hi, hz0, hz1, hz2⟩ := info_parts info25
  have T0 : decide ((N : Int) < 0) = false := by simp
  have T1 : decide ((9223372036854775807 : Int) < (N : Int)) = false := by simp; omega
  go_enter Try.func134, Try.ntmps134
  go_wp2_with fail
  refine (mul1_any N hN _).mono ?_
  rintro e w' ⟨rfl, rfl⟩
  go_wp2_with (at_make; refine wpList_make_full _ rfl _ _ 25 rfl w'.heap.size 39 i0 (.int .u16 0) 1 Try.underlying25 hi hz0 hz1 _ _ _ _ N rfl rfl rfl rfl (by rw [hz2]; omega) (by unfold maxLen; omega) (Nat.le_refl _) ?_)
  intro w1 hown hgrow
  have hb1 : Below w'.heap.size w' w1 := (Below.refl _ w').grown hgrow (Nat.le_refl _) (fun k hk => by cases hk)
  obtain ⟨g, hgg⟩ : ∃ g, g = w'.heap.size := ⟨_, rfl⟩
  rw [← hgg] at hown hb1 hg0 ⊢
  rw [made_tab, ← upto_zero (fun _ => b) N] at hown
  have hrw := RW.of_own hown
  have hc1 : w1.cell? ⟨g0, 0, none⟩ = some (.int .u16 b) := (hb1.cell (p := ⟨g0, 0, none⟩) hg0).trans hc
  have HRW := Lib.hid hrw
  have HB1 := Lib.hid hb1
  have HG := Lib.hid hgg
  have HC1 := Lib.hid hc1
  obtain ⟨m0, hm0⟩ : ∃ m0 : Nat, m0 = Nat.min 1 N := ⟨_, rfl⟩
  have hm0N : m0 ≤ N := by rw [hm0]; exact Nat.min_le_right _ _
  have hm01 : m0 ≤ 1 := by rw [hm0]; exact Nat.min_le_left _ _
  have hm0p : N = 0 ∨ 0 < m0 := by
    rw [hm0]
    show N = 0 ∨ 0 < min 1 N
    omega
  have HM0 := Lib.hid hm0
  clear hown hgrow hb1 hgg hrw hc1 hc hm0
  go_wp2_with (guard_target =~ wpList _ _ _ (⟨_, Op.call { callee := Callee.builtin Builtin.copy, args := _, argTypes := _ }, _, _, _, _⟩ :: _) _ _; go_loud (refine wpList_copy_splice rfl _ _ 25 25 rfl 39 Try.underlying25 (by rw [hi]; simp [hz1]) (some ⟨g, 0, none⟩) (some ⟨g0, 0, none⟩) N N 1 1 rfl rfl g 0 (u16s (tab N (upto (fun _ => b) 0))) 39 HRW.out (List.replicate m0 (.int .u16 b)) (by rw [List.length_replicate]; exact HM0.out) ?cpos (by rw [List.length_replicate, List.length_map, tab_len]; omega) (fun v hv => by rw [List.eq_of_mem_replicate hv]; rfl) g w' HB1.out (Nat.le_refl _) ?_))
  case cpos =>
    intro hp j v hj
    have hjm := (List.getElem?_eq_some_iff.1 hj).1
    rw [List.length_replicate] at hjm
    obtain rfl : j = 0 := by omega
    have : v = .int .u16 b := List.eq_of_mem_replicate (List.mem_of_getElem? hj)
    rw [this]; exact HC1.out
  intro w2 hw2 hb2
  have h2 : RW w2 g (tab N (upto (fun _ => b) m0)) := by
    have := hw2.out
    rw [splice_rep b N 0 m0 (by omega), Nat.zero_add] at this
    exact this
  have HR2 := Lib.hid h2
  have HB2 := Lib.hid hb2
  clear hw2 hb2 h2 HRW HB1 HC1 HM0
  try simp only [List.length_replicate]
  go_wp2_with fail
  go_loopw [8] (fun y wr => ∃ k : Nat, y = .int .i64 (k : Int) ∧ k ≤ N ∧ (N = 0 ∨ 0 < k) ∧ Hid (RW wr g (tab N (upto (fun _ => b) k))) ∧ Hid (Below g w' wr)) (fun y _ => N - (intOf y).toNat)
  case atStart => exact ⟨m0, rfl, hm0N, hm0p, HR2, HB2⟩
  case round =>
    clear HR2 HB2 hm0N hm01 hm0p
    obtain ⟨k, rfl, hk, hkp, HR, HB⟩ := hrel
    by_cases hlt : k < N
    · have i1 : (k : Int) < (N : Int) := by omega
      have i2 : (k : Int) ≤ (N : Int) := by omega
      have hkp2 : 0 < k := by omega
      obtain ⟨m, hm⟩ : ∃ m : Nat, m = Nat.min k (N - k) := ⟨_, rfl⟩
      have hmk : m ≤ k := by rw [hm]; exact Nat.min_le_left _ _
      have hmN : m ≤ N - k := by rw [hm]; exact Nat.min_le_right _ _
      have hmp : 0 < m := by rw [hm]; show 0 < min k (N - k); omega
      have HM := Lib.hid hm
      have HKM : Hid ((k : Int) + (m : Int) = ((k + m : Nat) : Int)) := Lib.hid (by omega)
      clear hm hkp
      go_wp2_with fail
      refine wp_region_held_drew (S := fun _ => True) (by kernel_rfl) ?hS0 (fun hS => ?_)
      case hS0 => trivial
      have HR1 : Hid (RW wr.drew g (tab N (upto (fun _ => b) k))) := Lib.hid (show RW wr.drew g (tab N (upto (fun _ => b) k)) from HR.out)
      have HB1 := Lib.hid (drew_b HB.out)
      clear HR HB
      generalize wr.drew = wd at HR1 HB1 ⊢
      refine takeH (i := 0) (v := ?v0) rfl rfl (by kernel_rfl) (by kernel_rfl) (by kernel_rfl) (fun _ _ _ h => h) rfl ?hy0 hS ?rs0
      case hy0 => (intro wq hq; go_simp; try (with_reducible rfl))
      simp only [Act.put, List.setIfInBounds_toArray, List.set_cons_zero, List.set_cons_succ]
      refine takeH (i := 1) (v := ?v1) rfl rfl (by kernel_rfl) (by kernel_rfl) (by kernel_rfl) (fun _ _ _ h => h) rfl ?hy1 hS ?rs1
      case hy1 => (intro wq hq; go_simp; try (with_reducible rfl))
      simp only [Act.put, List.setIfInBounds_toArray, List.set_cons_zero, List.set_cons_succ]
      refine takeH (i := 2) (v := ?v2) rfl rfl (by kernel_rfl) (by kernel_rfl) (by kernel_rfl) (fun _ _ _ h => h) rfl ?hy2 hS ?rs2
      case hy2 => (intro wq hq; go_simp; try (with_reducible rfl))
      simp only [Act.put, List.setIfInBounds_toArray, List.set_cons_zero, List.set_cons_succ]
      refine takeH (i := 3) (v := ?v3) rfl rfl (by kernel_rfl) (by kernel_rfl) (by kernel_rfl) (fun _ _ _ h => h) rfl ?hy3 hS ?rs3
      case hy3 => (intro wq hq; go_simp; try (with_reducible rfl))
      simp only [Act.put, List.setIfInBounds_toArray, List.set_cons_zero, List.set_cons_succ]
      refine takeH (i := 4) (v := ?v4) rfl rfl (by kernel_rfl) (by kernel_rfl) (by kernel_rfl) (fun _ _ _ h => h) rfl ?hy4 hS ?rs4
      case hy4 => (intro wq hq; go_simp; try (with_reducible rfl))
      simp only [Act.put, List.setIfInBounds_toArray, List.set_cons_zero, List.set_cons_succ]
      refine takeH (i := 5) (v := ?v5) rfl rfl (by kernel_rfl) (by kernel_rfl) (by kernel_rfl) (fun _ _ _ h => h) rfl ?hy5 hS ?rs5
      case hy5 => (intro wq hq; go_simp; try (with_reducible rfl))
      simp only [Act.put, List.setIfInBounds_toArray, List.set_cons_zero, List.set_cons_succ]
      refine takeH (i := 6) (v := ?v6) rfl rfl (by kernel_rfl) (by kernel_rfl) (by kernel_rfl) (fun _ _ _ h => h) rfl ?hy6 hS ?rs6
      case hy6 => (intro wq hq; go_simp; try (with_reducible rfl))
      simp only [Act.put, List.setIfInBounds_toArray, List.set_cons_zero, List.set_cons_succ]
      refine wpAnyH_ready (rs := [7]) (by kernel_rfl) (by simp) ?_
      refine AllReadyH.cons rfl (fun K hK => ?_) AllReadyH.nil
      simp only [List.getElem_toArray, List.getElem_cons_zero, List.getElem_cons_succ]
      refine wp_copy_splice rfl _ _ 25 25 rfl 39 Try.underlying25 (by rw [hi]; simp [hz1]) (some ⟨g, k, none⟩) (some ⟨g, 0, none⟩) (N - k) (N - k) k N ?ev1 ?ev2 g k (u16s (tab N (upto (fun _ => b) k))) 39 HR1.out (List.replicate m (.int .u16 b)) (by rw [List.length_replicate]; exact HM.out) ?cpos2 (by rw [List.length_replicate, List.length_map, tab_len]; omega) (fun v hv => by rw [List.eq_of_mem_replicate hv]; rfl) g w' HB1.out (Nat.le_refl _) ?_
      case ev1 =>
        show Value.slice (if N = k then some ⟨g, 0, none⟩ else some ⟨g, k, none⟩) (N - k) (N - k) = _
        rw [if_neg (by omega)]
      case ev2 => rfl
      case cpos2 =>
        intro hp
        refine ⟨rfl, _, rfl, fun j v hj => ?_⟩
        have hjm := (List.getElem?_eq_some_iff.1 hj).1
        rw [List.length_replicate] at hjm
        have hv : v = .int .u16 b := List.eq_of_mem_replicate (List.mem_of_getElem? hj)
        have hcl := HR1.out.cell j (by rw [tab_len]; omega)
        rw [tab_at _ _ _ (by omega)] at hcl
        have hup : upto (fun _ => b) k j = b := by unfold upto; rw [if_pos (by omega)]
        rw [hup] at hcl
        rw [hv, Addr.add_lit, Nat.zero_add]; exact hcl
      intro w4 hw4 hb4
      have h4 : RW w4 g (tab N (upto (fun _ => b) (k + m))) := by
        have := hw4.out
        rw [splice_rep b N k m (by omega)] at this
        exact this
      have HR4 := Lib.hid h4
      have HB4 := Lib.hid hb4
      have hwr : IntKind.i64.wrap ((k : Int) + (m : Int)) = ((k + m : Nat) : Int) := by rw [IntKind.wrap_i64]; omega
      refine hK.out _ _ trivial (fun hS => ?_)
      clear hK hw4 hb4 h4
      simp only [List.length_replicate]
      try 
      simp only [Act.put, List.setIfInBounds_toArray, List.set_cons_zero, List.set_cons_succ]
      refine takeH (i := 8) (v := ?v8) rfl rfl (by kernel_rfl) (by kernel_rfl) (by kernel_rfl) (fun _ _ _ h => h) rfl ?hy8 hS ?rs8
      case hy8 => (intro wq hq; go_simp; try (with_reducible rfl))
      simp only [Act.put, List.setIfInBounds_toArray, List.set_cons_zero, List.set_cons_succ]
      refine takeH (i := 9) (v := ?v9) rfl rfl (by kernel_rfl) (by kernel_rfl) (by kernel_rfl) (fun _ _ _ h => h) rfl ?hy9 hS ?rs9
      case hy9 => (intro wq hq; go_simp; try (with_reducible rfl))
      simp only [Act.put, List.setIfInBounds_toArray, List.set_cons_zero, List.set_cons_succ]
      refine wpAnyH_done (by kernel_rfl) ?_ _
      go_wp2_with fail
      go_roundw
      case rel => exact ⟨k + m, by rw [HKM.out], by omega, Or.inr (by omega), HR4, HB4⟩
      case measure => simp [intOf]; omega
    · obtain rfl : k = N := by omega
      have T2 : decide ((k : Int) < (k : Int)) = false := by simp
      have hr := HR.out
      rw [upto_end] at hr
      have hpo := hr.po (tab_in fun i _ => ⟨b0, b1⟩) (Nat.le_of_eq HG.out.symm) (by rw [tab_len]; unfold maxLen; omega)
      rw [tab_len] at hpo
      have HPO := Lib.hid hpo
      clear hr hpo
      go_wp2_with fail
      go_ret
      exact ⟨_, rfl, HPO.out, by rw [← HG.out]; exact HB.out⟩
set_option maxHeartbeats 2000000 in
set_option maxRecDepth 100000 in
theorem l06Scale_any (x : Int) (x0 : 0 ≤ x) (x1 : x < 65536) (v : Value) (zs : List Int) (hn : zs.length ≤ 1048576) (w : World) (h : NS w v zs) :
    Calls Try.prog 85 #[.int .u16 x, v] w fun e w' => ∃ r, e = .returned r ∧ PO w' w.heap.size r (tab zs.length (scaleK x zs)) ∧ Below w.heap.size w w' := by
  obtain ⟨i0, hi, hz0, hz1, hz2⟩ := info_parts info25
  have HU := Lib.hid (inU_of h)
  have HFU : Hid (∀ i, 0 ≤ scaleK x zs i ∧ scaleK x zs i < 65536) := Lib.hid (fun i => mulI_u _ _ x1 ((inU_of h).at i).2)
  obtain ⟨A, c, rfl, _, hc⟩ := h
  have HC := Lib.hid hc
  clear hc
  obtain ⟨B, hB⟩ : ∃ B, B = w.heap.size := ⟨_, rfl⟩
  have E0 := World.ownsRow_made w (e := 39) (size := 1) (base := w.heap.size) #[] 0 (Nat.le_refl _) (Nat.zero_le _) rfl
  rw [← hB]
  have HO0 : Hid ((w.alloc (.cells #[] 39)).ownsRow B 39 1 (.slice (some ⟨w.heap.size, 0, none⟩) 0 0) 0 (u16s (tab 0 (scaleK x zs)))) := Lib.hid (by rw [hB]; simpa [u16s, tab] using E0)
  have HB0 : Hid (Below B w (w.alloc (.cells #[] 39))) := Lib.hid (by rw [hB]; exact (Below.refl _ _).alloc (Nat.le_refl _) _)
  have HS0 : Hid (B ≤ (w.alloc (.cells #[] 39)).heap.size) := Lib.hid (by rw [hB, World.size_alloc]; omega)
  have HBB := Lib.hid hB
  clear hB E0
  go_enter Try.func85, Try.ntmps85
  go_wp2_with fail
  go_loopw [6, 5] (fun y o wr => ∃ n : Nat, y = .int .i64 (n : Int) ∧ n ≤ zs.length ∧ Hid (wr.ownsRow B 39 1 o n (u16s (tab n (scaleK x zs)))) ∧ Hid (Below B w wr) ∧ Hid (B ≤ wr.heap.size)) (fun y _ _ => zs.length - (intOf y).toNat)
  case atStart => exact ⟨0, rfl, Nat.zero_le _, HO0, HB0, HS0⟩
  case round =>
    clear HO0 HB0 HS0
    obtain ⟨n, rfl, hnl, HO, HBW, HS⟩ := hrel
    obtain ⟨A0, c0, rfl, _, _⟩ := own_form HO.out
    by_cases hlt : n < zs.length
    · have i1 : (n : Int) < (zs.length : Int) := by omega
      obtain ⟨b, off, rfl, hlb, hcell⟩ := HC.out (by omega)
      have q1 : wr.cell? ⟨b, off + n, none⟩ = some (.int .u16 (zs.getD n 0)) := (HBW.out.cell (p := ⟨b, off + n, none⟩) (by rw [HBB.out]; exact hlb)).trans (hcell n hlt)
      have r1 := HU.out.at n
      have hf : scaleK x zs n = mulI x (zs.getD n 0) := rfl
      obtain ⟨y, hy⟩ : ∃ y, y = zs.getD n 0 := ⟨_, rfl⟩
      rw [← hy] at q1 r1 hf
      obtain ⟨r10, r11⟩ := r1
      have hlt2 := fun u => ltimes_v x y x0 x1 r10 r11 u
      obtain ⟨z, hz⟩ : ∃ z, z = mulI x y := ⟨_, rfl⟩
      rw [← hz] at hf hlt2
      have HF := Lib.hid hf
      have HLT := Lib.hid hlt2
      have HCL := Lib.hid hcell
      clear hy hz hcell hf hlt2
      go_wp2_with fail
      refine (HLT.out _).mono ?_
      rintro e w' ⟨rfl, hw⟩
      obtain rfl := hw.symm
      go_wp2_with (at_builtin; refine wpList_append_own _ rfl _ _ 25 rfl B 39 i0 (.int .u16 0) 1 2 Try.underlying25 hi hz0 hz1 hz2 rfl (by decide) _ n _ rfl (HO.out.alloc _) ⟨wr.heap.size, 0, none⟩ 1 1 [.int .u16 z] rfl rfl ?c1 ?c2 ?c3 ?c4 ?c5 ?_)
      case c1 => exact one_cellC2 _ _ _
      case c2 => simp [Value.oneCell']
      case c3 => unfold maxLen; omega
      case c4 => omega
      case c5 => rw [World.size_alloc]; have := HS.out; omega
      intro s' wy hown hgrow _
      have hown2 : wy.ownsRow B 39 1 s' (n + 1) (u16s (tab (n + 1) (scaleK x zs))) := by
        rw [tab_snoc2, HF.out]; exact hown
      have HB2 := Lib.hid ((HBW.out.alloc HS.out _).grown hgrow (by rw [World.size_alloc]; have := HS.out; omega) (fun x hx => (HO.out.lt x hx).1))
      have HS2 := Lib.hid (Nat.le_trans (show B ≤ (wr.alloc (.cells #[.int .u16 z] 39)).heap.size by rw [World.size_alloc]; have := HS.out; omega) hgrow.size)
      have HQ2 := Lib.hid hown2
      clear hown hown2 hgrow HO HBW HS
      go_wp2_with fail
      exact ⟨⟨n + 1, by go_num, by omega, HQ2, HB2, HS2⟩, by simp [intOf]; omega⟩
    · obtain rfl : n = zs.length := by omega
      have T1 : decide ((zs.length : Int) < (zs.length : Int)) = false := by simp
      have HPO := Lib.hid (PO.of_own HO.out (tab_len _ _) (tab_in fun i _ => HFU.out i))
      go_wp2_with fail
      go_ret
      exact ⟨_, rfl, HPO.out, HBW.out⟩
set_option maxHeartbeats 1000000 in
theorem scaled_any (v : Value) (zs : List Int) (x : Int) (hn : zs.length ≤ 1048576) (x0 : 0 ≤ x) (x1 : x < 65536) (w : World) (h : NS w v zs) :
    Calls Try.prog 86 #[v, .int .u16 x] w fun e w' => ∃ r, e = .returned r ∧ PO w' w.heap.size r (wscale x zs) ∧ Below w.heap.size w w' := by
  have hg : ∀ args w, (callFunc 135 args).run Try.prog w = .ok (.enter 135 args) w := enters_of Try.func135 (by kernel_rfl) rfl
  have e1 : (tab zs.length fun i => mulI (zs.getD i 0) ((tab zs.length fun _ => x).getD i 0)) = wscale x zs := tab_ext fun i hi => by rw [tab_at _ _ _ hi, mulI_comm]; rfl
  have hP : ∀ (u : Value) (w : World), NS w v zs → NS w u (tab zs.length fun _ => x) → Calls Try.prog 133 #[v, u, .func (.func 135) #[] #[]] w fun e w' => ∃ r, e = .returned r ∧ PO w' w.heap.size r (wscale x zs) ∧ Below w.heap.size w w' := fun u w h1 h2 => by
    rw [← e1]
    exact pairwise_any v u zs (tab zs.length fun _ => x) (by omega) (by rw [tab_len]; omega) (by rw [tab_len]; exact Nat.le_refl _) 135 hg mulI (fun x y W a b c d => times_v x y a b c d W) (fun x y a b => mulI_u x y a b) w h1 h2
  have hb1 : Below w.heap.size w (w.alloc (.cells #[.int .u16 x] 39)) := (Below.refl _ _).alloc (Nat.le_refl _) _
  have hR := repeat_any x x0 x1 w.heap.size zs.length hn (w.alloc (.cells #[.int .u16 x] 39)) (by simp) (cell_of_row _ _ _ _ _ _ (heap_alloc_new w _))
  have HP := Lib.hid hP
  have HR := Lib.hid hR
  have HB1 := Lib.hid hb1
  have HN := Lib.hid h
  obtain ⟨A, c, rfl⟩ := h.form
  clear h hP hg hR hb1 e1
  go_enter Try.func86, Try.ntmps86
  go_wp2_with fail
  refine HR.out.mono ?_
  rintro e w2 ⟨r2, rfl, hp2, hb2⟩
  have HP2 := Lib.hid hp2
  have HB2 := Lib.hid (bchain HB1.out hb2)
  clear hp2 hb2
  go_wp2_with fail
  refine (HP.out r2 _ (HN.out.below HB2.out) HP2.out.ns).mono ?_
  rintro e w3 ⟨r3, rfl, hp3, hb3⟩
  have HP3 := Lib.hid (hp3.lower HB2.out.size)
  have HB3 := Lib.hid (bchain HB2.out hb3)
  clear hp3 hb3
  obtain ⟨A3, c3, rfl, _⟩ := HP3.out.form
  go_wp2_with fail
  go_ret
  exact ⟨_, rfl, HP3.out, HB3.out⟩
theorem scaleWA_yes {zs : List Int} {a : Int} (h : zs.length ≤ 7) : scaleWA zs a = wscale a zs ∧ oneC zs = 0 := by unfold scaleWA oneC; rw [if_pos h, if_pos h]; exact ⟨rfl, rfl⟩
theorem scaleWA_no {zs : List Int} {a : Int} (h : ¬ zs.length ≤ 7) : scaleWA zs a = [] ∧ oneC zs = 3 := by unfold scaleWA oneC; rw [if_neg h, if_neg h]; exact ⟨rfl, rfl⟩
set_option maxHeartbeats 1000000 in
theorem spec_ScaleWord (v : Value) (zs : List Int) (x : Int) (hn : zs.length ≤ 1048576) (x0 : 0 ≤ x) (x1 : x < 65536) (w : World) (h : NS w v zs) :
    Calls Try.prog 37 #[.int .u16 x, v] w fun e w' => ∃ r, e = .returned (.tuple #[r, .int .i64 (oneC zs)]) ∧ PO w' w.heap.size r (scaleWA zs x) ∧ Below w.heap.size w w' := by
  have HN := Lib.hid h
  obtain ⟨A, c, rfl⟩ := h.form
  clear h
  by_cases h7 : zs.length ≤ 7
  · obtain ⟨e1, e2⟩ := scaleWA_yes (a := x) h7
    rw [e1, e2]
    have T1 : decide ((7 : Int) < (zs.length : Int)) = false := by simp; omega
    clear e1 e2
    go_enter Try.func37, Try.ntmps37
    go_wp2_with fail
    refine (l06Scale_any x x0 x1 _ zs hn _ HN.out).mono ?_
    rintro e w1 ⟨r, rfl, hr, hb⟩
    have HR := Lib.hid hr
    have HB := Lib.hid hb
    clear hr hb
    obtain ⟨A1, c1, rfl, _⟩ := HR.out.form
    go_wp2_with fail
    go_ret2
    exact ⟨_, rfl, HR.out, HB.out⟩
  · obtain ⟨e1, e2⟩ := scaleWA_no (a := x) h7
    rw [e1, e2]
    have T1 : decide ((7 : Int) < (zs.length : Int)) = true := by simp; omega
    clear e1 e2
    go_enter Try.func37, Try.ntmps37
    go_wp2_with fail
    go_ret2
    exact ⟨_, rfl, po_nil_alloc _, (Below.refl _ _).alloc (Nat.le_refl _) _⟩
set_option maxHeartbeats 1000000 in
theorem impl_ScaleWord (v : Value) (zs : List Int) (x : Int) (hn : zs.length ≤ 1048576) (x0 : 0 ≤ x) (x1 : x < 65536) (w : World) (h : NS w v zs) :
    Calls Try.prog 38 #[.int .u16 x, v] w fun e w' => ∃ r, e = .returned (.tuple #[r, .int .i64 (oneC zs)]) ∧ PO w' w.heap.size r (scaleWA zs x) ∧ Below w.heap.size w w' := by
  have hC1 := check1L v zs hn w h
  have HN := Lib.hid h
  obtain ⟨A, c, rfl⟩ := h.form
  clear h
  by_cases h7 : zs.length ≤ 7
  · obtain ⟨e1, e2⟩ := scaleWA_yes (a := x) h7
    rw [e1, e2]
    rw [e2] at hC1
    have HC1 := Lib.hid hC1
    clear e1 e2 hC1
    go_enter Try.func38, Try.ntmps38
    go_wp2_with fail
    refine HC1.out.mono ?_
    rintro e w1 ⟨rfl, hb⟩
    have HB1 := Lib.hid hb
    clear hb
    go_wp2_with fail
    refine (scaled_any _ zs x hn x0 x1 _ (HN.out.below HB1.out)).mono ?_
    rintro e w2 ⟨r, rfl, hr, hb⟩
    have HR := Lib.hid (hr.lower HB1.out.size)
    have HB := Lib.hid (bchain HB1.out hb)
    clear hr hb
    obtain ⟨A1, c1, rfl, _⟩ := HR.out.form
    go_wp2_with fail
    go_ret2
    exact ⟨_, rfl, HR.out, HB.out⟩
  · obtain ⟨e1, e2⟩ := scaleWA_no (a := x) h7
    rw [e1, e2]
    rw [e2] at hC1
    have HC1 := Lib.hid hC1
    clear e1 e2 hC1
    go_enter Try.func38, Try.ntmps38
    go_wp2_with fail
    refine HC1.out.mono ?_
    rintro e w1 ⟨rfl, hb⟩
    have HB1 := Lib.hid hb
    clear hb
    go_wp2_with fail
    go_ret2
    exact ⟨_, rfl, PO.nil0 _ _, HB1.out⟩
end Go.Proofs.Ythhjhfkcgokffaa
