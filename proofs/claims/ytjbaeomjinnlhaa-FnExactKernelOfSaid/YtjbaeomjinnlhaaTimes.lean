/-
  The product of two matrices.
-/
import Derived.Test.YtjbaeomjinnlhaaOk2
import Derived.Deep.RegionHeld
import Derived.Test.YtjbaeomjinnlhaaVec
namespace Go.Proofs.Ytjbaeomjinnlhaa
set_option linter.unusedVariables false
set_option linter.unusedSimpArgs false
open Go.ChangeShapes Go.WideShapes Go.ChangeAt Go.RowKit

/-- the product's columns, one behind the other -/
def prodT (f h : Nat → Int) : Nat → Int := fun t => applyF f (fun n => h (n * 6 + t / 6)) (t % 6)
def timesF (f h : Nat → Int) : Nat → Int := fun s => dotI (fun k => f (s / 6 * 6 + k)) (fun n => h (n * 6 + s % 6)) 6
theorem timesF_b {f h : Nat → Int} (hf : VW f) (hh : VW h) : VW (timesF f h) := fun s => dotI_b (fun t => hf _) (fun t => hh _) 6
theorem timesF_col (f h : Nat → Int) (i j : Nat) (hj : j < 6) : timesF f h (j * 6 + i) = timesF f h (j * 6 + i) := rfl
/-- the program turns the product's columns -/
theorem turn_times (f h : Nat → Int) : ∀ s, s < 36 → turnF (prodT f h) s = timesF f h s := fun s hs => by
  unfold turnF prodT applyF timesF
  show dotI (fun k => f ((s % 6 * 6 + s / 6) % 6 * 6 + k)) (fun n => h (n * 6 + (s % 6 * 6 + s / 6) / 6)) 6 = _
  rw [show (s % 6 * 6 + s / 6) / 6 = s % 6 from by omega, show (s % 6 * 6 + s / 6) % 6 = s / 6 from by omega]
theorem turn_row (h : Nat → Int) (j : Nat) : (fun k => turnF h (j * 6 + k)) = fun k => if k < 6 then h (k * 6 + j) else turnF h (j * 6 + k) := by
  funext k
  by_cases e : k < 6
  · rw [if_pos e]; unfold turnF; rw [show (j * 6 + k) % 6 = k from by omega, show (j * 6 + k) / 6 = j from by omega]
  · rw [if_neg e]
theorem prodT_b {f h : Nat → Int} (hf : VW f) (hh : VW h) : VW (prodT f h) := fun t => applyF_b hf (fun _ => hh _) _
theorem prodT_row (f h : Nat → Int) (j s : Nat) (hs : s < 6) : applyF f (fun k => turnF h (j * 6 + k)) s = prodT f h (j * 6 + s) := by
  unfold prodT
  rw [show (j * 6 + s) / 6 = j from by omega, show (j * 6 + s) % 6 = s from by omega]
  exact dotI_ext 6 (fun _ _ => rfl) (fun k hk => by unfold turnF; rw [show (j * 6 + k) % 6 = k from by omega, show (j * 6 + k) / 6 = j from by omega])
theorem MV_ext {r c : Int} {f g : Nat → Int} (h : ∀ s, s < 36 → f s = g s) : MV r c f = MV r c g := by unfold MV CL; rw [TL_ext h]
theorem apply_ext (f : Nat → Int) {x y : Nat → Int} (h : ∀ k, k < 6 → x k = y k) : applyF f x = applyF f y := by
  funext i
  exact dotI_ext 6 (fun _ _ => rfl) h
theorem field_grid {P : Program} {w : World} {t gt rt : TypeId} {fs : Array Field} (n : Nat) (fd : Field) (ht : P.underlying t = some (.struct fs)) (hf : fs[n]? = some fd) (hty : fd.type = gt) (ho : fd.offset = 2) (hg : P.underlying gt = some (.array 6 rt)) (hs : (P.info? gt).map (·.size) = some 36) (r c : Int) (f : Nat → Int) :
    (Instr.field t (MV r c f) n).run P w = .ok (.agg (TL 36 f).toArray) w := by
  subst hty
  cases hq : P.info? fd.type with
  | none => simp [hq] at hs
  | some j =>
    have hj : j.size = 36 := by simpa [hq] using hs
    have hp : (part fd.type (CL r c f).toArray 2).run P w = .ok (.agg (TL 36 f).toArray) w := by
      have e2 : List.take 36 (List.drop 2 (CL r c f)) = TL 36 f := by
        show List.take 36 (TL 36 f) = TL 36 f
        rw [List.take_of_length_le (by rw [TL_len]; omega)]
      simp [part, isAgg, run_underlying hg, sizeOf, typeInfo, hq, hj, e2]
    simp [Instr.field, run_underlying ht, hf, ho, asAgg, hp]
theorem wpList_field_grid {P : Program} {w : World} {o : Oper} {a : Act} {ops : Array Oper} {rest : List Oper} {Q : Exit → Act → World → Prop} {gt rt : TypeId} {fs : Array Field} (hgd : o.guard = none) (ty : TypeId) (x : Operand) (n : Nat) (ho : o.op = .field ty x n) (r c : Int) (f : Nat → Int) (hx : a.eval x = MV r c f)
    (fd : Field) (ht : P.underlying ty = some (.struct fs)) (hf : fs[n]? = some fd) (hty : fd.type = gt) (hoff : fd.offset = 2) (hg : P.underlying gt = some (.array 6 rt)) (hs : (P.info? gt).map (·.size) = some 36)
    (h : wpList P ops Q rest (a.put o.dst (.agg (TL 36 f).toArray)) w) : wpList P ops Q (o :: rest) a w :=
  wpList_plain hgd fun K hK => by
    unfold Oper.wp execOp
    simp only [ho, hx, Sem.run_bind, Sem.run_pure, Result.andThen_ok, field_grid n fd ht hf hty hoff hg hs r c f]
    exact hK _ _ h
set_option maxRecDepth 100000 in
set_option maxHeartbeats 1000000 in
theorem mtimes_any (r c : Int) (f : Nat → Int) (hm : MW r c f) (p q : Int) (h : Nat → Int) (hm2 : MW p q h) (w : World) : Calls Try.prog 109 #[MV r c f, MV p q h] w fun e w' => e = .returned (MV r q (timesF f h)) ∧ Below w.heap.size w w' := by
  go_enter Try.func109, Try.ntmps109
  go_upto_region 1 with fail
  obtain ⟨a1, a2, a3, a4, a5⟩ := new3 w (.cells (CL r c f).toArray 33) (.cells (CL p q h).toArray 33) (.cells (CL 0 0 fun _ => 0).toArray 33)
  rw [zero38]
  obtain ⟨g, hg⟩ : ∃ g, g = w.heap.size := ⟨_, rfl⟩
  rw [← hg] at a1 a2 a3 a4 a5 ⊢
  generalize World.alloc (World.alloc (World.alloc w _) _) _ = w2 at a1 a2 a3 a4 a5 ⊢
  replace a1 : MB w2 g 33 r c f := a1
  replace a2 : MB w2 (g + 1) 33 p q h := a2
  replace a3 : MB w2 (g + 1 + 1) 33 0 0 (fun _ => 0) := a3
  have HM := Lib.hid hm
  have HM2 := Lib.hid hm2
  have HG := Lib.hid hg
  have A5 := Lib.hid a5
  have c0 := a1.rows
  have c1 := a2.cols
  clear hg hm hm2 a5
  go_upto_region 2 with (first | (guard_target =~ wpList _ _ _ (⟨_, Op.build 33 _, _, _, _, _⟩ :: _) _ _; refine wpList_build2 rfl 33 _ _ rfl (q) (r) rfl rfl (fun _ _ => by kernel_rfl) ?_) | (guard_target =~ wpList _ _ _ (⟨_, Op.store 33 _ _, _, _, _, _⟩ :: _) _ _; refine wpList_store_fresh (cells := (CL q r fun _ => 0).toArray) rfl 33 _ _ rfl rfl rfl (by kernel_rfl) (by rw [CL_size]; rfl) (CL_one _ _ _) ?_))
  have b1 := a1.alloc (.cells (CL q r fun _ => 0).toArray 33)
  have b2 := a2.alloc (.cells (CL q r fun _ => 0).toArray 33)
  have b3 := a3.alloc (.cells (CL q r fun _ => 0).toArray 33)
  have b6 : MB (w2.alloc (.cells (CL q r fun _ => 0).toArray 33)) w2.heap.size 33 q r (fun _ => 0) := heap_alloc_last _ _
  have b4 := a4.alloc (show g ≤ w2.heap.size by have := A5.out; omega) (.cells (CL q r fun _ => 0).toArray 33)
  rw [A5.out] at b6
  rw [A5.out]
  generalize w2.alloc (.cells (CL q r fun _ => 0).toArray 33) = w3 at b1 b2 b3 b4 b6 ⊢
  clear a1 a2 a3 a4 A5 c0 c1
  go_wp2_with (first | (guard_target =~ wpList _ _ _ (⟨_, Op.load 33 (Operand.tmp 3), _, _, _, _⟩ :: _) _ _; refine wpList_load_row rfl 33 _ rfl (g + 1) rfl _ (CL p q h).toArray (0, 0) _ b2 Try.underlying33 rfl (by kernel_rfl) ?_))
  refine (impl_turned p q h HM2.out _).mono ?_
  rintro e wn ⟨rfl, hn⟩
  replace b4 := bnext b4 hn (Nat.le_of_lt b1.lt)
  replace b1 := b1.below hn b1.lt
  replace b3 := b3.below hn b3.lt
  replace b6 := b6.below hn b6.lt
  clear hn b2
  go_wp2_with (first | (guard_target =~ wpList _ _ _ (⟨_, Op.field 33 _ _, _, _, _, _⟩ :: _) _ _; refine wpList_field_grid rfl 33 _ 2 rfl q p (turnF h) rfl _ Try.underlying33 rfl rfl rfl (gt := 31) (rt := 30) (by kernel_rfl) (by kernel_rfl) ?_))
  go_loopw [16] (fun u wr => ∃ (j : Nat), u = .int .i64 j ∧ j ≤ 6 ∧ MB wr g 33 r c f ∧ MB wr (g + 1 + 1) 33 0 0 (fun _ => 0) ∧ MB wr (g + 1 + 1 + 1) 33 q r (mix (j * 6) (prodT f h) fun _ => 0) ∧ Hid (Below g w wr)) (fun u _ => (6 - intOf u).toNat)
  case atStart => exact ⟨0, rfl, by omega, b1, b3, b6.ext (fun s _ => by rw [Nat.zero_mul, mix_zero]), Lib.hid b4⟩
  case round =>
    clear b1 b3 b4 b6
    obtain ⟨j, rfl, hj, m1, m3, m6, hb⟩ := hrel
    by_cases hlt : j < 6
    · have T1 : decide ((j : Int) < 6) = true := by simp; omega
      have k1 : (j : Int) < 6 := by omega
      go_upto_region 5 with (first | (guard_target =~ wpList _ _ _ (⟨_, Op.index 31 _ _, _, _, _, _⟩ :: _) _ _; refine wpList_index_row rfl 31 _ _ rfl (turnF h) j rfl rfl hlt (r := 30) (e := 29) (by kernel_rfl) (by kernel_rfl) (by kernel_rfl) ?_) | (guard_target =~ wpList _ _ _ (⟨_, Op.store 30 _ _, _, _, _, _⟩ :: _) _ _; refine wpList_store_fresh (cells := (TL 6 fun k => turnF h (j * 6 + k)).toArray) rfl 30 _ _ rfl rfl rfl (by kernel_rfl) rfl (TL_one _ _) ?_))
      have n1 := m1.alloc (.cells (TL 6 fun k => turnF h (j * 6 + k)).toArray 30)
      have n3 := m3.alloc (.cells (TL 6 fun k => turnF h (j * 6 + k)).toArray 30)
      have n6 := m6.alloc (.cells (TL 6 fun k => turnF h (j * 6 + k)).toArray 30)
      have n4 : RB (wr.alloc (.cells (TL 6 fun k => turnF h (j * 6 + k)).toArray 30)) wr.heap.size 30 6 (fun k => turnF h (j * 6 + k)) := heap_alloc_last _ _
      have n5 := hb.out.alloc (show g ≤ wr.heap.size by have := m3.lt; omega) (.cells (TL 6 fun k => turnF h (j * 6 + k)).toArray 30)
      obtain ⟨g4, hg4⟩ : ∃ g4, g4 = wr.heap.size := ⟨_, rfl⟩
      rw [← hg4] at n4 ⊢
      generalize wr.alloc (.cells (TL 6 fun k => turnF h (j * 6 + k)).toArray 30) = w5 at n1 n3 n4 n5 n6 ⊢
      clear m1 m3 m6 hb hg4
      go_wp2_with (first | (guard_target =~ wpList _ _ _ (⟨_, Op.load 33 (Operand.tmp 2), _, _, _, _⟩ :: _) _ _; refine wpList_load_row rfl 33 _ rfl (g) rfl _ (CL r c f).toArray (0, 0) _ n1 Try.underlying33 rfl (by kernel_rfl) ?_) | (guard_target =~ wpList _ _ _ (⟨_, Op.load 30 (Operand.tmp 7), _, _, _, _⟩ :: _) _ _; refine wpList_load_row rfl 30 _ rfl (g4) rfl _ (TL 6 fun k => turnF h (j * 6 + k)).toArray (0, 0) (.array 6 29) (n4) (by kernel_rfl) rfl (by kernel_rfl) ?_))
      refine (apply_any r c f (fun k => turnF h (j * 6 + k)) (fun t => HM.out.2.2.2.2 _) (fun t => HM2.out.2.2.2.2 _) _).mono ?_
      rintro e wm ⟨rfl, hn⟩
      replace n5 := bnext n5 hn (Nat.le_of_lt n1.lt)
      replace n1 := n1.below hn n1.lt
      replace n3 := n3.below hn n3.lt
      replace n6 := n6.below hn n6.lt
      have t1 := n6.there (2 + j * 6) 6 (by omega)
      clear hn n4
      go_wp2_with (first | (guard_target =~ wpList _ _ _ (⟨_, Op.store 30 _ _, _, _, _, _⟩ :: _) _ _; refine wpList_store_mid rfl 30 _ _ rfl (g + 1 + 1 + 1) _ (TL 6 (applyF f fun k => turnF h (j * 6 + k))).toArray rfl rfl (by rw [List.size_toArray, TL_len]; exact t1) (by kernel_rfl) (TL_one _ _) ?_))
      exact ⟨⟨j + 1, rfl, by omega, n1.setCells_other (by omega) _, n3.setCells_other (by omega) _, (MB.puts 6 (j * 6) _ _ _ n6 (by omega)).ext (fun s _ => (congrFun (mix_row (j * 6) 6 (prodT f h) (fun _ => 0) _ (fun k hk => prodT_row f h j k hk)) s).trans (by rw [show (j + 1) * 6 = j * 6 + 6 from by omega])), Lib.hid (Below.setCells (by omega) _ _ _ n5)⟩, by simp [intOf]; omega⟩
    · obtain rfl : j = 6 := by omega
      have T1 : decide (((6 : Nat) : Int) < 6) = false := by simp
      have m6' := m6.ext (f' := prodT f h) (fun s hs => by rw [mix_new _ _ hs])
      have hMW : MW q r (prodT f h) := ⟨HM2.out.2.2.1, HM2.out.2.2.2.1, HM.out.1, HM.out.2.1, prodT_b HM.out.2.2.2.2 HM2.out.2.2.2.2⟩
      clear m6
      go_wp2_with (first | (guard_target =~ wpList _ _ _ (⟨_, Op.load 33 (Operand.tmp 5), _, _, _, _⟩ :: _) _ _; refine wpList_load_row rfl 33 _ rfl (g + 1 + 1 + 1) rfl _ (CL q r (prodT f h)).toArray (0, 0) _ m6' Try.underlying33 rfl (by kernel_rfl) ?_))
      refine (impl_turned q r (prodT f h) hMW _).mono ?_
      rintro e wm ⟨rfl, hn⟩
      have n5 := bnext hb.out hn (Nat.le_of_lt m1.lt)
      replace m3 := m3.below hn m3.lt
      have hE : MV r q (turnF (prodT f h)) = MV r q (timesF f h) := MV_ext (turn_times f h)
      rw [hE]
      clear hn m6' hb hE hMW
      go_wp2_with (first | (guard_target =~ wpList _ _ _ (⟨_, Op.store 33 (Operand.tmp 4) _, _, _, _, _⟩ :: _) _ _; refine wpList_store_row rfl 33 _ _ rfl (g + 1 + 1) (CL r q (timesF f h)).toArray rfl rfl _ _ m3 (by kernel_rfl) rfl (CL_one _ _ _) ?_))
      refine bodyPost_ret (v := MV r q (timesF f h)) ?_ rfl ⟨rfl, by obtain rfl := HG.out; exact Below.setRow n5 (by omega) _⟩
      exact results_cell_row rfl _ _ (g + 1 + 1) _ _ (0, 0) _ rfl (m3.setRow (timesF f h)) Try.underlying33 rfl (by kernel_rfl)

/-- the model's product: R rows, Q columns, sums over C -/
def timesN (R C Q : Nat) (f h : Nat → Int) : Nat → Int := fun s => if s / 6 < R ∧ s % 6 < Q then dotI (fun k => f (s / 6 * 6 + k)) (fun n => h (n * 6 + s % 6)) C else 0
theorem timesN_eq {R C P Q : Nat} {f h : Nat → Int} (hf : VW f) (hh : VW h) (hC : C ≤ 6) (hz : ∀ i k : Nat, i < 6 → k < 6 → R ≤ i ∨ C ≤ k → f (i * 6 + k) = 0) (hz2 : ∀ i k : Nat, i < 6 → k < 6 → P ≤ i ∨ Q ≤ k → h (i * 6 + k) = 0) : ∀ s, s < 36 → timesN R C Q f h s = timesF f h s := fun s hs => by
  unfold timesN timesF
  by_cases e : s / 6 < R ∧ s % 6 < Q
  · rw [if_pos e]
    exact (dotI_more (fun t => hf _) (fun t => hh _) C 6 hC (fun k h1 h2 => .inl (hz (s / 6) k (by omega) h2 (.inr h1)))).symm
  · rw [if_neg e]
    symm
    by_cases e2 : s / 6 < R
    · have h0 := dotI_more (a := fun k => f (s / 6 * 6 + k)) (b := fun n => h (n * 6 + s % 6)) (fun t => hf _) (fun t => hh _) 0 6 (by omega) (fun k _ h2 => .inr (hz2 k (s % 6) h2 (by omega) (.inr (by omega))))
      rw [h0]; rfl
    · exact dotI_zero 6 (fun k hk => hz (s / 6) k (by omega) hk (.inl (by omega)))
/-- the cells that come of the first i rows, and of the first j cells of the row i -/
def timesP (i j C Q R : Nat) (f h : Nat → Int) : Nat → Int := fun s => if (s / 6 < i ∧ s % 6 < Q) ∨ (s / 6 = i ∧ s % 6 < j) then dotI (fun k => f (s / 6 * 6 + k)) (fun n => h (n * 6 + s % 6)) C else 0
theorem timesP_zero (C Q R : Nat) (f h : Nat → Int) (s : Nat) : timesP 0 0 C Q R f h s = 0 := by unfold timesP; rw [if_neg (by omega)]
theorem timesP_step (i j C Q R : Nat) (f h : Nat → Int) (hi : i < R) (hj : j < Q) (j6 : j < 6) (i6 : i < 6) : ∀ s, s < 36 → upd (timesP i j C Q R f h) (i * 6 + j) (dotI (fun k => f (i * 6 + k)) (fun n => h (n * 6 + j)) C) s = timesP i (j + 1) C Q R f h s := fun s hs => by
  unfold upd timesP
  by_cases e : s = i * 6 + j
  · rw [if_pos e, if_pos (by omega), e, show (i * 6 + j) / 6 = i from by omega, show (i * 6 + j) % 6 = j from by omega]
  · rw [if_neg e]
    by_cases h1 : (s / 6 < i ∧ s % 6 < Q) ∨ (s / 6 = i ∧ s % 6 < j)
    · rw [if_pos h1, if_pos (by omega)]
    · rw [if_neg h1, if_neg (by omega)]
theorem timesP_row (i C Q R : Nat) (f h : Nat → Int) : ∀ s, s < 36 → timesP i Q C Q R f h s = timesP (i + 1) 0 C Q R f h s := fun s hs => by
  unfold timesP
  by_cases h1 : (s / 6 < i ∧ s % 6 < Q) ∨ (s / 6 = i ∧ s % 6 < Q)
  · rw [if_pos h1, if_pos (by omega)]
  · rw [if_neg h1, if_neg (by omega)]
theorem timesP_all (R C Q : Nat) (f h : Nat → Int) : ∀ s, s < 36 → timesP R 0 C Q R f h s = timesN R C Q f h s := fun s hs => by
  unfold timesP timesN
  by_cases h1 : s / 6 < R ∧ s % 6 < Q
  · rw [if_pos h1, if_pos (by omega)]
  · rw [if_neg h1, if_neg (by omega)]
set_option maxRecDepth 100000 in
set_option maxHeartbeats 2000000 in
theorem l02Times_any (R C Q P : Nat) (hR6 : R ≤ 6) (hC6 : C ≤ 6) (hQ6 : Q ≤ 6) (f h : Nat → Int) (hf : VW f) (hh : VW h) (u v : Nat) (w : World) (hM : MB w u 33 R C f) (hN : MB w v 33 P Q h) : Calls Try.prog 108 #[.pointer (some ⟨u, 0, none⟩), .pointer (some ⟨v, 0, none⟩)] w fun e w' => e = .returned (MV R Q (timesN R C Q f h)) ∧ Below w.heap.size w w' := by
  have hp := hM.lt
  have hq := hN.lt
  have n1 : (R : Int) ≤ 6 := by omega
  have n2 : (C : Int) ≤ 6 := by omega
  have n3 : (Q : Int) ≤ 6 := by omega
  have HF := Lib.hid hf
  have HH := Lib.hid hh
  clear hf hh
  go_enter Try.func108, Try.ntmps108
  go_upto_region 1 with fail
  obtain ⟨a3, a4, a6⟩ := new1 w (.cells (CL 0 0 fun _ => 0).toArray 33)
  rw [zero38]
  replace hM := hM.alloc (.cells (CL 0 0 fun _ => 0).toArray 33)
  replace hN := hN.alloc (.cells (CL 0 0 fun _ => 0).toArray 33)
  obtain ⟨g, hg⟩ : ∃ g, g = w.heap.size := ⟨_, rfl⟩
  rw [← hg] at a3 a4 a6 hp hq ⊢
  generalize World.alloc w _ = w2 at a3 a4 a6 hM hN ⊢
  replace a3 : MB w2 g 33 0 0 (fun _ => 0) := a3
  have HG := Lib.hid hg
  have A6 := Lib.hid a6
  have d1 := hM.rows
  have d2 := hN.cols
  clear hg a6 d1 d2
  refine wp_region_held_drew (S := (fun x => MB x u 33 R C f ∧ MB x v 33 P Q h)) (by kernel_rfl) ?hS0 (fun hS => ?_)
  case hS0 => exact ⟨hM, hN⟩
  refine takeH (i := 0) (v := ?v0) rfl rfl (by kernel_rfl) (by kernel_rfl) (by kernel_rfl) (fun _ _ _ h => h) rfl ?hy0 hS ?rs0
  case hy0 => (intro wq hq; go_simp; try (with_reducible rfl))
  simp only [Act.put, List.setIfInBounds_toArray, List.set_cons_zero, List.set_cons_succ]
  refine takeH (i := 1) (v := ?v1) rfl rfl (by kernel_rfl) (by kernel_rfl) (by kernel_rfl) (fun _ _ _ h => h) rfl ?hy1 hS ?rs1
  case hy1 => (intro wq hq; go_simp; try (with_reducible rfl))
  simp only [Act.put, List.setIfInBounds_toArray, List.set_cons_zero, List.set_cons_succ]
  refine takeH (i := 2) (v := ?v2) rfl rfl (by kernel_rfl) (by kernel_rfl) (by kernel_rfl) (fun _ _ _ h => h) rfl ?hy2 hS ?rs2
  case hy2 => (intro wq hq; go_simp; try (with_reducible rfl))
  simp only [Act.put, List.setIfInBounds_toArray, List.set_cons_zero, List.set_cons_succ]
  refine takeH (i := 3) (v := ?v3) rfl rfl (by kernel_rfl) (by kernel_rfl) (by kernel_rfl) (fun _ _ _ h => h) rfl ?hy3 hS ?rs3
  case hy3 => (intro wq hq; have q1 := MB.rows hq.1; clear hq; go_simp; try (with_reducible rfl))
  simp only [Act.put, List.setIfInBounds_toArray, List.set_cons_zero, List.set_cons_succ]
  refine takeH (i := 4) (v := ?v4) rfl rfl (by kernel_rfl) (by kernel_rfl) (by kernel_rfl) (fun _ _ _ h => h) rfl ?hy4 hS ?rs4
  case hy4 => (intro wq hq; go_simp; try (with_reducible rfl))
  simp only [Act.put, List.setIfInBounds_toArray, List.set_cons_zero, List.set_cons_succ]
  refine takeH (i := 5) (v := ?v5) rfl rfl (by kernel_rfl) (by kernel_rfl) (by kernel_rfl) (fun _ _ _ h => h) rfl ?hy5 hS ?rs5
  case hy5 => (intro wq hq; go_simp; try (with_reducible rfl))
  simp only [Act.put, List.setIfInBounds_toArray, List.set_cons_zero, List.set_cons_succ]
  refine takeH (i := 6) (v := ?v6) rfl rfl (by kernel_rfl) (by kernel_rfl) (by kernel_rfl) (fun _ _ _ h => h) rfl ?hy6 hS ?rs6
  case hy6 => (intro wq hq; go_simp; try (with_reducible rfl))
  simp only [Act.put, List.setIfInBounds_toArray, List.set_cons_zero, List.set_cons_succ]
  refine takeH (i := 7) (v := ?v7) rfl rfl (by kernel_rfl) (by kernel_rfl) (by kernel_rfl) (fun _ _ _ h => h) rfl ?hy7 hS ?rs7
  case hy7 => (intro wq hq; have q1 := MB.cols hq.2; clear hq; go_simp; try (with_reducible rfl))
  simp only [Act.put, List.setIfInBounds_toArray, List.set_cons_zero, List.set_cons_succ]
  refine takeH (i := 8) (v := MV R Q fun _ => 0) rfl rfl (by kernel_rfl) (by kernel_rfl) (by kernel_rfl) (fun _ _ _ h => h) rfl ?hy8 hS ?rs8
  case hy8 => exact fun wq _ => exec_build2 33 _ _ rfl R Q rfl rfl (fun _ _ => by kernel_rfl) wq
  simp only [Act.put, List.setIfInBounds_toArray, List.set_cons_zero, List.set_cons_succ]
  refine wpAnyH_ready (rs := [9]) (by kernel_rfl) (by simp) ?_
  refine AllReadyH.cons rfl (fun K hK => ?_) AllReadyH.nil
  go_simp
  rw [zero38]
  have b1 : MB (w2.alloc (.cells (CL 0 0 fun _ => 0).toArray 33)).drew u 33 R C f := hM.alloc _
  have b5 : MB (w2.alloc (.cells (CL 0 0 fun _ => 0).toArray 33)).drew v 33 P Q h := hN.alloc _
  have b2 : MB (w2.alloc (.cells (CL 0 0 fun _ => 0).toArray 33)).drew g 33 0 0 (fun _ => 0) := a3.alloc _
  have b3 : MB (w2.alloc (.cells (CL 0 0 fun _ => 0).toArray 33)).drew w2.heap.size 33 0 0 (fun _ => 0) := heap_alloc_last w2 (.cells (CL 0 0 fun _ => 0).toArray 33)
  have b4 := (a4.alloc (show g ≤ w2.heap.size by have := A6.out; omega) (.cells (CL 0 0 fun _ => 0).toArray 33)).drew
  rw [A6.out] at b3
  rw [A6.out]
  generalize (w2.alloc (.cells (CL 0 0 fun _ => 0).toArray 33)).drew = w3 at b1 b2 b3 b4 b5 hK ⊢
  clear a3 a4 hM hN hS A6
  refine hK.out _ _ ⟨b1, b5⟩ (fun hS => ?_)
  clear hK
  refine wpAnyH_ready (rs := [10]) (by kernel_rfl) (by simp) ?_
  refine AllReadyH.cons rfl (fun K hK => ?_) AllReadyH.nil
  rw [if_pos (by rfl)]
  refine wp_store_row 33 _ _ rfl (g + 1) (CL R Q fun _ => 0).toArray rfl rfl _ _ b3 (by kernel_rfl) (by rw [CL_size, CL_size]) (CL_one _ _ _) ?_
  refine hK.out _ _ ⟨b1.setRow_other (by omega) _, b5.setRow_other (by omega) _⟩ (fun hS => ?_)
  clear hK
  refine wpAnyH_done (by kernel_rfl) ?_ _
  have d1 := b1.setRow_other (b := g + 1) (by omega) (CL R Q fun _ => 0).toArray
  have d5 := b5.setRow_other (b := g + 1) (by omega) (CL R Q fun _ => 0).toArray
  have d2 := b2.setRow_other (b := g + 1) (by omega) (CL R Q fun _ => 0).toArray
  have d3 := b3.setRow (r' := R) (c' := Q) (fun _ => 0)
  have d4 := Below.setRow b4 (Nat.le_succ g) (CL R Q fun _ => 0).toArray
  generalize w3.setRow (g + 1) (CL R Q fun _ => 0).toArray = w4 at d1 d2 d3 d4 d5 ⊢
  clear hS b1 b2 b3 b4 b5
  go_wp2_with fail
  go_loopw [6] (fun y wr => ∃ (i : Nat), y = .int .i64 i ∧ i ≤ R ∧ MB wr u 33 R C f ∧ MB wr v 33 P Q h ∧ MB wr g 33 0 0 (fun _ => 0) ∧ MB wr (g + 1) 33 R Q (timesP i 0 C Q R f h) ∧ Hid (Below g w wr)) (fun y _ => (6 - intOf y).toNat)
  case atStart => exact ⟨0, rfl, by omega, d1, d5, d2, d3.ext (fun s _ => by rw [timesP_zero]), Lib.hid d4⟩
  case round =>
    clear d1 d2 d3 d4 d5
    obtain ⟨i, rfl, hi, m1, m2, m3, m5, hb⟩ := hrel
    have e1 := m1.rows
    by_cases hlt : i < R
    · have T1 : decide ((i : Int) < (R : Int)) = true := by simp; omega
      have i6 : i < 6 := by omega
      have i1 : (i : Int) < 6 := by omega
      go_wp2_with fail
      clear e1
      go_loopw [7] (fun y wr => ∃ (j : Nat), y = .int .i64 j ∧ j ≤ Q ∧ MB wr u 33 R C f ∧ MB wr v 33 P Q h ∧ MB wr g 33 0 0 (fun _ => 0) ∧ MB wr (g + 1) 33 R Q (timesP i j C Q R f h) ∧ Hid (Below g w wr)) (fun y _ => (6 - intOf y).toNat)
      case atStart => exact ⟨0, rfl, by omega, m1, m2, m3, m5, hb⟩
      case round =>
        clear m1 m2 m3 m5 hb
        obtain ⟨j, rfl, hj, m1, m2, m3, m5, hb⟩ := hrel
        have e2 := m2.cols
        by_cases hlj : j < Q
        · have T2 : decide ((j : Int) < (Q : Int)) = true := by simp; omega
          have j6 : j < 6 := by omega
          have j1 : (j : Int) < 6 := by omega
          go_wp2_with fail
          clear e2
          go_loopw [9, 8] (fun y s wr => ∃ (k : Nat), y = .int .i64 k ∧ k ≤ C ∧ s = .int .u16 (dotI (fun k => f (i * 6 + k)) (fun n => h (n * 6 + j)) k) ∧ MB wr u 33 R C f ∧ MB wr v 33 P Q h ∧ MB wr g 33 0 0 (fun _ => 0) ∧ MB wr (g + 1) 33 R Q (timesP i j C Q R f h) ∧ Hid (Below g w wr)) (fun y _ _ => (6 - intOf y).toNat)
          case atStart => exact ⟨0, rfl, by omega, rfl, m1, m2, m3, m5, hb⟩
          case round =>
            clear m1 m2 m3 m5 hb
            obtain ⟨k, rfl, hk, rfl, m1, m2, m3, m5, hb⟩ := hrel
            have e3 := m1.cols
            have b3 := dotI_b (a := fun k => f (i * 6 + k)) (b := fun n => h (n * 6 + j)) (fun t => HF.out _) (fun t => HH.out _) k
            by_cases hlk : k < C
            · have T3 : decide ((k : Int) < (C : Int)) = true := by simp; omega
              have k6 : k < 6 := by omega
              have k1 : (k : Int) < 6 := by omega
              have q1 := m1.cell2 i k i6 k6
              have q2 := m2.cell2 k j k6 j6
              have b1 := HF.out (i * 6 + k)
              have b2 := HH.out (k * 6 + j)
              have bm := mulI_b b1.1 b1.2 b2.1 b2.2
              have bx := bits_xor (dotI (fun k => f (i * 6 + k)) (fun n => h (n * 6 + j)) k) (mulI (f (i * 6 + k)) (h (k * 6 + j))) b3.1 b3.2 bm.1 bm.2
              have M1 := Lib.hid m1; have M2 := Lib.hid m2; have M3 := Lib.hid m3; have M5 := Lib.hid m5
              clear m1 m2 m3 m5
              go_wp2_with fail
              refine wp_region_still_tail 19 (by kernel_rfl) (by kernel_rfl) ?_
              simp only [List.take_succ_cons, List.take_zero, List.drop_succ_cons, List.drop_zero]
              iterate 17 still_step
              still_call (ltimes_eq (f (i * 6 + k)) (h (k * 6 + j)) b1.1 b1.2 b2.1 b2.2 _)
              iterate 1 still_step
              refine wpStill_nil ?_
              change wpList _ _ _ _ _ wr.drew
              go_wp2_with fail
              exact ⟨⟨k + 1, rfl, by omega, rfl, M1.out, M2.out, M3.out, M5.out, Lib.hid hb.out.drew⟩, by simp [intOf]; omega⟩
            · obtain rfl : k = C := by omega
              have T3 : decide ((k : Int) < (k : Int)) = false := by simp
              have c4 := m5.free (2 + i * 6 + j)
              have c3 := m5.cell2 i j i6 j6
              have M1 := Lib.hid m1; have M2 := Lib.hid m2; have M3 := Lib.hid m3; have M5 := Lib.hid m5
              clear m1 m2 m3 m5
              go_wp2_with fail
              exact ⟨⟨j + 1, rfl, by omega, M1.out.other (by omega) _, M2.out.other (by omega) _, M3.out.other (by omega) _, (M5.out.put2 i j i6 j6 _).ext (timesP_step i j k Q R f h hlt hlj j6 i6), Lib.hid (hb.out.setCell (p := ⟨g + 1, 2 + i * 6 + j, none⟩) (by simp) _)⟩, by simp [intOf]; omega⟩
        · obtain rfl : j = Q := by omega
          have T2 : decide ((j : Int) < (j : Int)) = false := by simp
          go_wp2_with fail
          exact ⟨⟨i + 1, rfl, by omega, m1, m2, m3, m5.ext (timesP_row i C j R f h), hb⟩, by simp [intOf]; omega⟩
    · obtain rfl : i = R := by omega
      have T1 : decide ((i : Int) < (i : Int)) = false := by simp
      have m5' := m5.ext (timesP_all i C Q f h)
      clear m5
      go_wp2_with (first | (guard_target =~ wpList _ _ _ (⟨_, Op.load 33 (Operand.tmp 5), _, _, _, _⟩ :: _) _ _; refine wpList_load_row rfl 33 _ rfl (g + 1) rfl _ (CL i Q (timesN i C Q f h)).toArray (0, 0) _ m5' Try.underlying33 rfl (by kernel_rfl) ?_) | (guard_target =~ wpList _ _ _ (⟨_, Op.store 33 (Operand.tmp 4) _, _, _, _, _⟩ :: _) _ _; refine wpList_store_row rfl 33 _ _ rfl (g) (CL i Q (timesN i C Q f h)).toArray rfl rfl _ _ m3 (by kernel_rfl) rfl (CL_one _ _ _) ?_))
      refine bodyPost_ret (v := MV i Q (timesN i C Q f h)) ?_ rfl ⟨rfl, by obtain rfl := HG.out; exact Below.setRow hb.out (by omega) _⟩
      exact results_cell_row rfl _ _ g _ _ (0, 0) _ rfl (m3.setRow (timesN i C Q f h)) Try.underlying33 rfl (by kernel_rfl)

set_option maxRecDepth 100000 in
set_option maxHeartbeats 2000000 in
theorem spec_TimesMatrix (r c : Int) (f : Nat → Int) (hm : MW r c f) (p q : Int) (h : Nat → Int) (hm2 : MW p q h) (w : World) : Calls Try.prog 36 #[MV r c f, MV p q h] w fun e w' => e = .returned (twoV (c = p) r c f p q h (r) (q) (timesF f h)) ∧ Below w.heap.size w w' := by
  go_enter Try.func36, Try.ntmps36
  go_upto_region 1 with fail
  obtain ⟨a1, a2, a3, a4, a5⟩ := new3 w (.cells (CL r c f).toArray 33) (.cells (CL p q h).toArray 33) (.cells (CL 0 0 fun _ => 0).toArray 33)
  rw [zero38]
  obtain ⟨g, hg⟩ : ∃ g, g = w.heap.size := ⟨_, rfl⟩
  rw [← hg] at a1 a2 a3 a4 a5 ⊢
  generalize World.alloc (World.alloc (World.alloc w _) _) _ = w2 at a1 a2 a3 a4 a5 ⊢
  replace a1 : MB w2 g 33 r c f := a1
  replace a2 : MB w2 (g + 1) 33 p q h := a2
  replace a3 : MB w2 (g + 1 + 1) 33 0 0 (fun _ => 0) := a3
  have HG := Lib.hid hg
  clear hg a5
  go_wp2_with fail
  refine (l02Ok_any r c f hm g _ _ a1).mono ?_
  rintro e wn ⟨rfl, rfl⟩
  rcases ok1 : okB r c f with _ | _
  · have hV : twoV (c = p) r c f p q h (r) (q) (timesF f h) = .tuple #[MV 0 0 (fun _ => 0), .int .i64 1] := by unfold twoV twoC; rw [ok1]; rfl
    have HV := Lib.hid hV
    clear ok1 hV
    go_wp2_with (first | (guard_target =~ wpList _ _ _ (⟨_, Op.build 33 _, _, _, _, _⟩ :: _) _ _; refine wpList_build0 rfl 33 rfl (CL 0 0 fun _ => 0).toArray (by kernel_rfl) ?_) | (guard_target =~ wpList _ _ _ (⟨_, Op.store 33 (Operand.tmp 4) _, _, _, _, _⟩ :: _) _ _; refine wpList_store_row rfl 33 _ _ rfl (g + 1 + 1) (CL 0 0 fun _ => 0).toArray rfl rfl _ _ a3 (by kernel_rfl) rfl (CL_one _ _ _) ?_))
    refine bodyPost_ret (v := .tuple #[MV 0 0 (fun _ => 0), .int .i64 1]) ?_ rfl ⟨congrArg Ending.returned HV.out.symm, by obtain rfl := HG.out; exact Below.setRow a4 (by omega) _⟩
    exact results_cell_tmp2 rfl _ _ (g + 1 + 1) _ _ (0, 0) _ _ rfl rfl (a3.setRow _) Try.underlying33 rfl (by kernel_rfl)
  · skip
    go_wp2_with fail
    refine (l02Ok_any p q h hm2 (g + 1) _ _ a2).mono ?_
    rintro e wk ⟨rfl, rfl⟩
    rcases ok2 : okB p q h with _ | _
    · have hV : twoV (c = p) r c f p q h (r) (q) (timesF f h) = .tuple #[MV 0 0 (fun _ => 0), .int .i64 1] := by unfold twoV twoC; rw [ok1, ok2]; rfl
      have HV := Lib.hid hV
      clear ok1 ok2 hV
      go_wp2_with (first | (guard_target =~ wpList _ _ _ (⟨_, Op.build 33 _, _, _, _, _⟩ :: _) _ _; refine wpList_build0 rfl 33 rfl (CL 0 0 fun _ => 0).toArray (by kernel_rfl) ?_) | (guard_target =~ wpList _ _ _ (⟨_, Op.store 33 (Operand.tmp 4) _, _, _, _, _⟩ :: _) _ _; refine wpList_store_row rfl 33 _ _ rfl (g + 1 + 1) (CL 0 0 fun _ => 0).toArray rfl rfl _ _ a3 (by kernel_rfl) rfl (CL_one _ _ _) ?_))
      refine bodyPost_ret (v := .tuple #[MV 0 0 (fun _ => 0), .int .i64 1]) ?_ rfl ⟨congrArg Ending.returned HV.out.symm, by obtain rfl := HG.out; exact Below.setRow a4 (by omega) _⟩
      exact results_cell_tmp2 rfl _ _ (g + 1 + 1) _ _ (0, 0) _ _ rfl rfl (a3.setRow _) Try.underlying33 rfl (by kernel_rfl)
    · have c1 := a1.rows
      have c2 := a1.cols
      have c3 := a2.rows
      have c4 := a2.cols
      have HO1 := Lib.hid ok1
      have HO2 := Lib.hid ok2
      by_cases hd : c = p
      · have hV : twoV (c = p) r c f p q h (r) (q) (timesF f h) = .tuple #[MV (r) (q) (timesF f h), .int .i64 0] := by unfold twoV twoC; rw [ok1, ok2, if_pos (show (true && true) = true from rfl), if_pos hd]; rfl
        have HV := Lib.hid hV
        have e1 : (c != p) = false := by simpa using hd
        clear hV ok1 ok2 hd
        obtain ⟨R, C, hRe, hCe, _, hR, _, hC⟩ := ok_dims HO1.out
        obtain ⟨P, Q, hPe, hQe, _, hP, _, hQ⟩ := ok_dims HO2.out
        subst hRe; subst hCe; subst hPe; subst hQe
        have hz1 := ok_zeros HO1.out
        have hz2 := ok_zeros HO2.out
        have hE : MV R Q (timesN R C Q f h) = MV R Q (timesF f h) := MV_ext (timesN_eq hm.2.2.2.2 hm2.2.2.2.2 hC hz1 hz2)
        have HE := Lib.hid hE
        clear hz1 hz2 hE HO1 HO2
        go_wp2_with fail
        refine (l02Times_any R C Q P hR hC hQ f h hm.2.2.2.2 hm2.2.2.2.2 g (g + 1) _ a1 a2).mono ?_
        rintro e wm ⟨rfl, hn⟩
        replace a4 := bnext a4 hn (Nat.le_of_lt a1.lt)
        replace a1 := a1.below hn a1.lt
        replace a2 := a2.below hn a2.lt
        replace a3 := a3.below hn a3.lt
        rw [HE.out]
        clear hn HE c1 c2 c3 c4
        go_wp2_with (first | (guard_target =~ wpList _ _ _ (⟨_, Op.store 33 (Operand.tmp 4) _, _, _, _, _⟩ :: _) _ _; refine wpList_store_row rfl 33 _ _ rfl (g + 1 + 1) (CL R Q (timesF f h)).toArray rfl rfl _ _ a3 (by kernel_rfl) rfl (CL_one _ _ _) ?_))
        refine bodyPost_ret (v := .tuple #[MV R Q (timesF f h), .int .i64 0]) ?_ rfl ⟨congrArg Ending.returned HV.out.symm, by obtain rfl := HG.out; exact Below.setRow a4 (by omega) _⟩
        exact results_cell_tmp2 rfl _ _ (g + 1 + 1) _ _ (0, 0) _ _ rfl rfl (a3.setRow _) Try.underlying33 rfl (by kernel_rfl)
      · skip
        have hV : twoV (c = p) r c f p q h (r) (q) (timesF f h) = .tuple #[MV 0 0 (fun _ => 0), .int .i64 4] := by unfold twoV twoC; rw [ok1, ok2, if_pos (show (true && true) = true from rfl), if_neg hd]; rfl
        have HV := Lib.hid hV
        have e1 : (c != p) = true := by simpa using hd
        clear hV ok1 ok2 hd
        go_wp2_with (first | (guard_target =~ wpList _ _ _ (⟨_, Op.build 33 _, _, _, _, _⟩ :: _) _ _; refine wpList_build0 rfl 33 rfl (CL 0 0 fun _ => 0).toArray (by kernel_rfl) ?_) | (guard_target =~ wpList _ _ _ (⟨_, Op.store 33 (Operand.tmp 4) _, _, _, _, _⟩ :: _) _ _; refine wpList_store_row rfl 33 _ _ rfl (g + 1 + 1) (CL 0 0 fun _ => 0).toArray rfl rfl _ _ a3 (by kernel_rfl) rfl (CL_one _ _ _) ?_))
        refine bodyPost_ret (v := .tuple #[MV 0 0 (fun _ => 0), .int .i64 4]) ?_ rfl ⟨congrArg Ending.returned HV.out.symm, by obtain rfl := HG.out; exact Below.setRow a4 (by omega) _⟩
        exact results_cell_tmp2 rfl _ _ (g + 1 + 1) _ _ (0, 0) _ _ rfl rfl (a3.setRow _) Try.underlying33 rfl (by kernel_rfl)

set_option maxRecDepth 100000 in
set_option maxHeartbeats 2000000 in
theorem impl_TimesMatrix (r c : Int) (f : Nat → Int) (hm : MW r c f) (p q : Int) (h : Nat → Int) (hm2 : MW p q h) (w : World) : Calls Try.prog 37 #[MV r c f, MV p q h] w fun e w' => e = .returned (twoV (c = p) r c f p q h (r) (q) (timesF f h)) ∧ Below w.heap.size w w' := by
  go_enter Try.func37, Try.ntmps37
  go_upto_region 1 with fail
  obtain ⟨a1, a2, a3, a4, a5⟩ := new3 w (.cells (CL r c f).toArray 33) (.cells (CL p q h).toArray 33) (.cells (CL 0 0 fun _ => 0).toArray 33)
  rw [zero38]
  obtain ⟨g, hg⟩ : ∃ g, g = w.heap.size := ⟨_, rfl⟩
  rw [← hg] at a1 a2 a3 a4 a5 ⊢
  generalize World.alloc (World.alloc (World.alloc w _) _) _ = w2 at a1 a2 a3 a4 a5 ⊢
  replace a1 : MB w2 g 33 r c f := a1
  replace a2 : MB w2 (g + 1) 33 p q h := a2
  replace a3 : MB w2 (g + 1 + 1) 33 0 0 (fun _ => 0) := a3
  have HG := Lib.hid hg
  clear hg a5
  go_wp2_with (first | (guard_target =~ wpList _ _ _ (⟨_, Op.load 33 (Operand.tmp 2), _, _, _, _⟩ :: _) _ _; refine wpList_load_row rfl 33 _ rfl (g) rfl _ (CL r c f).toArray (0, 0) _ a1 Try.underlying33 rfl (by kernel_rfl) ?_))
  refine (impl_ValidMatrix r c f hm _).mono ?_
  rintro e wn ⟨rfl, hn⟩
  replace a4 := bnext a4 hn (Nat.le_of_lt a1.lt)
  replace a1 := a1.below hn a1.lt
  replace a2 := a2.below hn a2.lt
  replace a3 := a3.below hn a3.lt
  clear hn
  rcases ok1 : okB r c f with _ | _
  · have hV : twoV (c = p) r c f p q h (r) (q) (timesF f h) = .tuple #[MV 0 0 (fun _ => 0), .int .i64 1] := by unfold twoV twoC; rw [ok1]; rfl
    have HV := Lib.hid hV
    clear ok1 hV
    go_wp2_with (first | (guard_target =~ wpList _ _ _ (⟨_, Op.build 33 _, _, _, _, _⟩ :: _) _ _; refine wpList_build0 rfl 33 rfl (CL 0 0 fun _ => 0).toArray (by kernel_rfl) ?_) | (guard_target =~ wpList _ _ _ (⟨_, Op.store 33 (Operand.tmp 4) _, _, _, _, _⟩ :: _) _ _; refine wpList_store_row rfl 33 _ _ rfl (g + 1 + 1) (CL 0 0 fun _ => 0).toArray rfl rfl _ _ a3 (by kernel_rfl) rfl (CL_one _ _ _) ?_))
    refine bodyPost_ret (v := .tuple #[MV 0 0 (fun _ => 0), .int .i64 1]) ?_ rfl ⟨congrArg Ending.returned HV.out.symm, by obtain rfl := HG.out; exact Below.setRow a4 (by omega) _⟩
    exact results_cell_tmp2 rfl _ _ (g + 1 + 1) _ _ (0, 0) _ _ rfl rfl (a3.setRow _) Try.underlying33 rfl (by kernel_rfl)
  · skip
    go_wp2_with (first | (guard_target =~ wpList _ _ _ (⟨_, Op.load 33 (Operand.tmp 3), _, _, _, _⟩ :: _) _ _; refine wpList_load_row_w rfl 33 _ rfl (g + 1) rfl _ (CL p q h).toArray (0, 0) _ a2 Try.underlying33 rfl (by kernel_rfl) ?_))
    refine (impl_ValidMatrix p q h hm2 _).mono ?_
    rintro e wk ⟨rfl, hn⟩
    replace a4 := bnext a4 hn (Nat.le_of_lt a1.lt)
    replace a1 := a1.below hn a1.lt
    replace a2 := a2.below hn a2.lt
    replace a3 := a3.below hn a3.lt
    clear hn
    rcases ok2 : okB p q h with _ | _
    · have hV : twoV (c = p) r c f p q h (r) (q) (timesF f h) = .tuple #[MV 0 0 (fun _ => 0), .int .i64 1] := by unfold twoV twoC; rw [ok1, ok2]; rfl
      have HV := Lib.hid hV
      clear ok1 ok2 hV
      go_wp2_with (first | (guard_target =~ wpList _ _ _ (⟨_, Op.build 33 _, _, _, _, _⟩ :: _) _ _; refine wpList_build0 rfl 33 rfl (CL 0 0 fun _ => 0).toArray (by kernel_rfl) ?_) | (guard_target =~ wpList _ _ _ (⟨_, Op.store 33 (Operand.tmp 4) _, _, _, _, _⟩ :: _) _ _; refine wpList_store_row rfl 33 _ _ rfl (g + 1 + 1) (CL 0 0 fun _ => 0).toArray rfl rfl _ _ a3 (by kernel_rfl) rfl (CL_one _ _ _) ?_))
      refine bodyPost_ret (v := .tuple #[MV 0 0 (fun _ => 0), .int .i64 1]) ?_ rfl ⟨congrArg Ending.returned HV.out.symm, by obtain rfl := HG.out; exact Below.setRow a4 (by omega) _⟩
      exact results_cell_tmp2 rfl _ _ (g + 1 + 1) _ _ (0, 0) _ _ rfl rfl (a3.setRow _) Try.underlying33 rfl (by kernel_rfl)
    · have c1 := a1.rows
      have c2 := a1.cols
      have c3 := a2.rows
      have c4 := a2.cols
      have HO1 := Lib.hid ok1
      have HO2 := Lib.hid ok2
      by_cases hd : c = p
      · have hV : twoV (c = p) r c f p q h (r) (q) (timesF f h) = .tuple #[MV (r) (q) (timesF f h), .int .i64 0] := by unfold twoV twoC; rw [ok1, ok2, if_pos (show (true && true) = true from rfl), if_pos hd]; rfl
        have HV := Lib.hid hV
        have e1 : (c != p) = false := by simpa using hd
        clear hV ok1 ok2 hd
        go_wp2_with (first | (guard_target =~ wpList _ _ _ (⟨_, Op.load 33 (Operand.tmp 2), _, _, _, _⟩ :: _) _ _; refine wpList_load_row rfl 33 _ rfl (g) rfl _ (CL r c f).toArray (0, 0) _ a1 Try.underlying33 rfl (by kernel_rfl) ?_) | (guard_target =~ wpList _ _ _ (⟨_, Op.load 33 (Operand.tmp 3), _, _, _, _⟩ :: _) _ _; refine wpList_load_row rfl 33 _ rfl (g + 1) rfl _ (CL p q h).toArray (0, 0) _ a2 Try.underlying33 rfl (by kernel_rfl) ?_))
        refine (mtimes_any r c f hm p q h hm2 _).mono ?_
        rintro e wm ⟨rfl, hn⟩
        replace a4 := bnext a4 hn (Nat.le_of_lt a1.lt)
        replace a1 := a1.below hn a1.lt
        replace a2 := a2.below hn a2.lt
        replace a3 := a3.below hn a3.lt
        clear hn c1 c2 c3 c4
        go_wp2_with (first | (guard_target =~ wpList _ _ _ (⟨_, Op.store 33 (Operand.tmp 4) _, _, _, _, _⟩ :: _) _ _; refine wpList_store_row rfl 33 _ _ rfl (g + 1 + 1) (CL r q (timesF f h)).toArray rfl rfl _ _ a3 (by kernel_rfl) rfl (CL_one _ _ _) ?_))
        refine bodyPost_ret (v := .tuple #[MV r q (timesF f h), .int .i64 0]) ?_ rfl ⟨congrArg Ending.returned HV.out.symm, by obtain rfl := HG.out; exact Below.setRow a4 (by omega) _⟩
        exact results_cell_tmp2 rfl _ _ (g + 1 + 1) _ _ (0, 0) _ _ rfl rfl (a3.setRow _) Try.underlying33 rfl (by kernel_rfl)
      · skip
        have hV : twoV (c = p) r c f p q h (r) (q) (timesF f h) = .tuple #[MV 0 0 (fun _ => 0), .int .i64 4] := by unfold twoV twoC; rw [ok1, ok2, if_pos (show (true && true) = true from rfl), if_neg hd]; rfl
        have HV := Lib.hid hV
        have e1 : (c != p) = true := by simpa using hd
        clear hV ok1 ok2 hd
        go_wp2_with (first | (guard_target =~ wpList _ _ _ (⟨_, Op.build 33 _, _, _, _, _⟩ :: _) _ _; refine wpList_build0 rfl 33 rfl (CL 0 0 fun _ => 0).toArray (by kernel_rfl) ?_) | (guard_target =~ wpList _ _ _ (⟨_, Op.store 33 (Operand.tmp 4) _, _, _, _, _⟩ :: _) _ _; refine wpList_store_row rfl 33 _ _ rfl (g + 1 + 1) (CL 0 0 fun _ => 0).toArray rfl rfl _ _ a3 (by kernel_rfl) rfl (CL_one _ _ _) ?_))
        refine bodyPost_ret (v := .tuple #[MV 0 0 (fun _ => 0), .int .i64 4]) ?_ rfl ⟨congrArg Ending.returned HV.out.symm, by obtain rfl := HG.out; exact Below.setRow a4 (by omega) _⟩
        exact results_cell_tmp2 rfl _ _ (g + 1 + 1) _ _ (0, 0) _ _ rfl rfl (a3.setRow _) Try.underlying33 rfl (by kernel_rfl)
end Go.Proofs.Ytjbaeomjinnlhaa
