/-
  Conjugates, of the program: a range over a function.
-/
import Derived.Test.YtjbaeomjinnlhaaConj
namespace Go.Proofs.Ytjbaeomjinnlhaa
set_option linter.unusedVariables false
set_option linter.unusedSimpArgs false
open Go.ChangeShapes Go.WideShapes Go.ChangeAt Go.RowKit Go.Shelf
attribute [local go_sem] Oper.semAt_some

open Classical in
/-- how many conjugates are still to come -/
noncomputable def conjLeft (a p : Nat) (v : Value) : Nat :=
  if h : ∃ k, k < p ∧ v = .int .u16 ((Nim.sqs k a : Nat) : Int) then p - Classical.choose h else 0
theorem conjLeft_eq {a p k : Nat} (hp : IsPer a p) (hk : k < p) : conjLeft a p (.int .u16 ((Nim.sqs k a : Nat) : Int)) = p - k := by
  have hex : ∃ j, j < p ∧ Value.int .u16 ((Nim.sqs k a : Nat) : Int) = .int .u16 ((Nim.sqs j a : Nat) : Int) := ⟨k, hk, rfl⟩
  unfold conjLeft
  rw [dif_pos hex]
  obtain ⟨h1, h2⟩ := Classical.choose_spec hex
  generalize Classical.choose hex = j at h1 h2
  have e : Nim.sqs k a = Nim.sqs j a := by
    simp only [Value.int.injEq, true_and] at h2
    omega
  rcases Nat.lt_trichotomy k j with q | q | q
  · exact absurd e (hp.inj q h1)
  · rw [q]
  · exact absurd e.symm (hp.inj q hk)
set_option maxRecDepth 100000 in
set_option maxHeartbeats 2000000 in
theorem conj1_in (n l Bn : Nat) (hn : 1 ≤ n) (a p : Nat) (ha : a < 65536) (hp : IsPer a p) (J Jx : List Int → World → Prop)
    (hY : ∀ pre x W, J pre W → pre.length < p → YieldAt Fence.wide (n - 1) Try.prog l #[.int .u16 x] W fun e W' =>
      (e = .returned (.bool true) ∧ J (pre ++ [x]) W' ∧ W'.cell? ⟨Bn, 0, none⟩ = W.cell? ⟨Bn, 0, none⟩) ∨ (e = .returned (.bool false) ∧ Jx (pre ++ [x]) W'))
    (W : World) (hBn : W.cell? ⟨Bn, 0, none⟩ = some (.int .u16 (a : Int))) (h0 : J [] W) :
    CallsIn Fence.wide n Try.prog 165 #[.func (.yield l) #[] #[], .pointer (some ⟨Bn, 0, none⟩)] W fun e W' => (∃ v, e = .returned v) ∧
      ((∃ ys, ys = conjI a p ∧ J ys W') ∨ (∃ pre, pre <+: conjI a p ∧ Jx pre W')) := by
  have hp1 := hp.1
  have hp2 := hp.2.1
  have HP := Lib.hid hp
  clear hp
  refine callsIn_of_wp Try.func165 rfl trivial ?_ rfl
  simp only [Try.ntmps165, List.size_toArray, List.length_cons, List.length_nil, Nat.reduceAdd, Nat.reduceSub, Array.replicate_succ, Array.replicate_zero, List.push_toArray, List.append_toArray, List.nil_append, List.cons_append]
  gi_wp2
  gi_loopw [3] (fun c wr => ∃ k x : Nat, c = .int .u16 (x : Int) ∧ x < 65536 ∧ k < p ∧ Hid (Nim.sqs k a = x) ∧ J (conjI a k) wr ∧ wr.cell? ⟨Bn, 0, none⟩ = some (.int .u16 (a : Int)))
    (fun c wr => conjLeft a p c)
  case atStart => exact ⟨0, a, rfl, ha, by omega, Lib.hid rfl, h0, hBn⟩
  case round =>
    clear h0 hBn
    obtain ⟨k, x, rfl, hxb, hk, HX, hJ, hc⟩ := hrel
    obtain ⟨fn, tmps, assign, body, hy, hR⟩ := hY (conjI a k) (x : Int) wr hJ (by rw [conjI_len]; exact hk)
    gi_wp2
    refine hR.mono ?_
    rintro e W3 (⟨rfl, hJ3, hk3⟩ | ⟨rfl, hJx3⟩)
    · have hc3 : W3.cell? ⟨Bn, 0, none⟩ = some (.int .u16 (a : Int)) := hk3.trans hc
      have hJ4 : J (conjI a (k + 1)) W3 := by rw [← conjI_snoc, HX.out]; exact hJ3
      have hs2 : Nim.sqs (k + 1) a = Nim.mul x x := by rw [Nim.sqs_succ, HX.out]
      have hb2 := Nim.mul_b hxb hxb
      have HX2 := Lib.hid hs2
      clear hs2 hJ hJ3 hk3 hy hR hc
      by_cases hlt : k + 1 = p
      · have T1 : (((Nim.mul x x : Nat) : Int) == (a : Int)) = true := by
          have : Nim.mul x x = a := by rw [← HX2.out, hlt]; exact HP.out.2.2.1
          rw [this]; simp
        have hJ5 : J (conjI a p) W3 := by rw [← hlt]; exact hJ4
        clear hJ4 hlt
        gi_wp2
        (try refine ⟨trivial, ?_⟩)
        refine (callsIn_wide.2 (square_nat x hxb _)).mono ?_
        rintro e w' ⟨rfl, rfl⟩
        gi_wp2
        refine bodyPost_ret (results_none rfl _ _ _) rfl ?_
        exact ⟨⟨_, rfl⟩, .inl ⟨_, rfl, hJ5⟩⟩
      · have T1 : (((Nim.mul x x : Nat) : Int) == (a : Int)) = false := by
          have h1 : Nim.mul x x ≠ a := by rw [← HX2.out]; exact HP.out.2.2.2 (k + 1) (by omega) (by omega)
          rw [beq_eq_false_iff_ne]; omega
        have hlt2 : k + 1 < p := by omega
        clear hlt
        gi_wp2
        (try refine ⟨trivial, ?_⟩)
        refine (callsIn_wide.2 (square_nat x hxb _)).mono ?_
        rintro e w' ⟨rfl, rfl⟩
        gi_wp2
        go_roundw
        case rel => exact ⟨k + 1, _, rfl, hb2, hlt2, HX2, hJ4, hc3⟩
        case measure => rw [← HX2.out, ← HX.out, conjLeft_eq HP.out hlt2, conjLeft_eq HP.out hk]; omega
    · have hJx4 : Jx (conjI a (k + 1)) W3 := by rw [← conjI_snoc, HX.out]; exact hJx3
      gi_wp2
      go_end0
      exact ⟨⟨_, rfl⟩, .inr ⟨_, conjI_pre a p (k + 1) (by omega), hJx4⟩⟩
theorem own_lower {w : World} {B B' : Nat} {e : TypeId} {s n : Nat} {v : Value} {xs : List Value} (h : w.ownsRow B e s v n xs) (hB : B' ≤ B) : w.ownsRow B' e s v n xs := by
  refine ⟨h.1, ?_⟩
  rcases h.2 with q | ⟨g, c, cur, q1, q2, q3⟩
  · exact .inl q
  · exact .inr ⟨g, c, cur, q1, Nat.le_trans hB q2, q3⟩
theorem kept_box {W w1 : World} {B s k : Nat} {e : TypeId} {v : Value} {xs : List Value} {tmp : Obj} (hrow : W.ownsRow (B + 2) e s v k xs) (hsz : B + 2 ≤ W.heap.size) (hgrow : (W.alloc tmp).grownBy w1 v.ownBlock) :
    w1.cell? ⟨B + 1, 0, none⟩ = W.cell? ⟨B + 1, 0, none⟩ := by
  have hb : Below (B + 2) W w1 := ((Below.refl _ W).alloc hsz tmp).grown hgrow (by simp; omega) (fun k hk => (hrow.lt k hk).1)
  exact hb.cell (p := ⟨B + 1, 0, none⟩) (by show B + 1 < B + 2; omega)
theorem cellK_b {w : World} {Bn : Nat} (hB : Bn < w.heap.size) (W : World) (l : Nat) (o o' : Obj) (hl : w.heap.size ≤ l) (h : W.heap[l]? = some o) (h1 : o.isCells = false) (h2 : o.isWalk = false) :
    (W.putObj l o').cell? ⟨Bn, 0, none⟩ = W.cell? ⟨Bn, 0, none⟩ :=
  (belowK_b (n₀ := Bn + 1) (w := w) hB W l o o' hl h h1 h2).cell (p := ⟨Bn, 0, none⟩) (by show Bn < Bn + 1; omega)
set_option maxHeartbeats 1000000 in
theorem conjugates_in (n : Nat) (a : Int) (w : World) :
    CallsIn Fence.wide n Try.prog 142 #[.int .u16 a] w fun e w' => e = .returned (.func (.func 165) #[] #[.pointer (some ⟨w.heap.size, 0, none⟩)]) ∧ w' = w.alloc (.cells #[.int .u16 a] 29) := by
  refine callsIn_of_wp Try.func142 rfl trivial ?_ rfl
  simp only [Try.ntmps142, List.size_toArray, List.length_cons, List.length_nil, Nat.reduceAdd, Nat.reduceSub, Array.replicate_succ, Array.replicate_zero, List.push_toArray, List.append_toArray, List.nil_append, List.cons_append]
  gi_wp2
  go_ret
  exact ⟨rfl, rfl⟩
theorem conj_stops (n Bn : Nat) (hn : 1 ≤ n) (a p : Nat) (ha : a < 65536) (hp : IsPer a p) (w : World) (hBn : Bn < w.heap.size)
    (hc : w.cell? ⟨Bn, 0, none⟩ = some (.int .u16 (a : Int))) :
    SeqStopsK Fence.wide n Try.prog 165 #[.pointer (some ⟨Bn, 0, none⟩)] (fun x : Int => #[Value.int .u16 x]) (fun W W' => W'.cell? ⟨Bn, 0, none⟩ = W.cell? ⟨Bn, 0, none⟩) (fun ys => ys = conjI a p) (fun pre => pre <+: conjI a p) p w := fun l J Jx W hW _ _ hY h0 =>
  conj1_in n l Bn hn a p ha hp J Jx hY W ((hW.cell (p := ⟨Bn, 0, none⟩) hBn).trans hc) h0
theorem u16s_snoc (l : List Int) (x : Int) : u16s l ++ [Value.int .u16 x] = u16s (l ++ [x]) := by simp [u16s]
set_option maxRecDepth 100000 in
set_option maxHeartbeats 2000000 in
theorem impl_ConjugatesOf (a p : Nat) (ha : a < 65536) (hp : IsPer a p) (w : World) :
    Calls Try.prog 84 #[.int .u16 (a : Int)] w fun e w' => ∃ v, e = .returned v ∧ w'.ownsRow w.heap.size 29 1 v p (u16s (conjI a p)) ∧ Below w.heap.size w w' := by
  obtain ⟨i0, hi, hz0, hz1, hz2⟩ := info_parts info25
  have hp1 := hp.1
  have hp2 := hp.2.1
  refine (callsIn_wide (n := 9)).1 ?_
  refine callsIn_of_wp_marks Try.func84 rfl trivial ?_ rfl
  simp only [Try.ntmps84, List.size_toArray, List.length_cons, List.length_nil, Nat.reduceAdd, Nat.reduceSub, Array.replicate_succ, Array.replicate_zero, List.push_toArray, List.append_toArray, List.nil_append, List.cons_append]
  gi_wp2
  refine ⟨trivial, ?_⟩
  refine (conjugates_in _ _ _).mono ?_
  rintro e w' ⟨rfl, rfl⟩
  gi_wp2
  have bO := Boxed.new w 72 (.slice none 0 0)
  have bN := Boxed.new (w.alloc (.cells #[.slice none 0 0] 72)) 29 (.int .u16 (a : Int))
  rw [World.size_alloc] at bN
  have hB0 : Below w.heap.size w ((w.alloc (.cells #[.slice none 0 0] 72)).alloc (.cells #[.int .u16 (a : Int)] 29)) := ((Below.refl _ w).alloc (Nat.le_refl _) _).alloc (by simp) _
  refine wpIn_rangeFunc_ownG rfl (by omega) (gf := 165) (lb := #[.pointer (some ⟨w.heap.size + 1, 0, none⟩)]) rfl trivial (enters_of Try.func165 (by kernel_rfl) rfl)
    (Kp := fun W W' => W'.cell? ⟨w.heap.size + 1, 0, none⟩ = W.cell? ⟨w.heap.size + 1, 0, none⟩) (conj_stops _ (w.heap.size + 1) (by omega) a p ha hp _ (by simp) bN.cell) (fun h k => k.trans h) (cellK_b (by simp)) (Below.refl _ _) (fun _ => rfl)
    (fun pre W => (∃ v, Boxed W w.heap.size 72 v ∧ W.ownsRow (w.heap.size + 2) 29 1 v pre.length (u16s pre) ∧ True) ∧ (Below w.heap.size w W ∧ w.heap.size + 2 ≤ W.heap.size))
    (fun _ _ _ => False)
    (OwnFrom.and (Own.from (holdsRow_own (w.heap.size + 2) w.heap.size 72 29 1 (fun pre => pre.length) (fun pre => u16s pre) (fun pre v => True)) _) (OwnFrom.and (ownFrom_below (Nat.le_refl _) (by simp; omega)) (fun s A B row hs hg hr => Nat.le_trans hs hg.size)))
    (fun _ _ _ _ _ hs _ _ => hs)
    ⟨⟨_, bO.alloc _, World.ownsRow_nil _ _ _ _, trivial⟩, hB0, by simp⟩
    (fun x => { tmps := #[.int .u16 (a : Int), undef, .slice none 0 0, .pointer (some ⟨w.heap.size, 0, none⟩), .int .u16 x, .int .u16 (a : Int), .func (.func 165) #[] #[.pointer (some ⟨w.heap.size + 1, 0, none⟩)], .int .u16 x, undef, undef, undef, undef, undef], defers := [] }) ?assign ?body ?done ?stop
  case assign =>
    intro l x W K hK
    gi_wp2
    exact hK
  case body =>
    rintro l pre x W ⟨⟨v, hv, hrow, _⟩, hB, hsz⟩ hlt
    have hc := hv.cell
    gi_wp2_with (gi_at_builtin; refine wpListIn_append_own _ rfl _ _ 72 rfl (w.heap.size + 2) 29 i0 (.int .u16 0) 1 2 Try.underlying72 hi hz0 hz1 hz2 rfl (by decide) _ _ _ rfl (hrow.alloc _) ⟨W.heap.size, 0, none⟩ 1 1 [.int .u16 x] rfl rfl (cell_one_new _ _ _) (by simp [Value.oneCell']) (by unfold maxLen; omega) (by omega) (by simp; omega) ?_; intro v' w1 hown' hgrow _; obtain ⟨g', cap', rfl⟩ := ownsRow_succ hown'; obtain ⟨hv1, hv2, _, hk2, hb2⟩ := hv.appended (by decide) (own_lower hrow (Nat.le_add_right w.heap.size 2)) hB.size (Nat.le_refl _) (own_lower hown' (Nat.le_add_right w.heap.size 2)) hgrow; have hc1 := hv1.cell; have hf1 := hv1.frozen)
    have hkp := kept_box hrow hsz hgrow
    have hr2 := hown'.kept (grownBy_setCell' w1 w.heap.size (.slice (some ⟨g', 0, none⟩) (pre.length + 1) cap')) (.inr (hv1.not_row (by decide) hown').symm)
    refine ⟨hk2.from _, ?_, ⟨_, hv2, by rw [← u16s_snoc, List.length_append]; exact hr2, trivial⟩, hB.trans hb2, Nat.le_trans hsz (Nat.le_trans (by simp) hgrow.size) |> fun h => by simpa [World.setCell] using h⟩
    refine Eq.trans (World.cell?_setCell_other _ _ _ _ ?_) hkp
    intro e
    have e2 := congrArg Addr.block e
    have e3 : w.heap.size = w.heap.size + 1 := by first | exact e2 | exact e2.symm
    omega
  case done =>
    rintro D ys W hD rfl ⟨⟨v, hv, hrow, _⟩, hB, _⟩ hK
    have hc := hv.cell
    gi_wp2
    refine ⟨by simp, .inl ⟨_, _, rfl, run_takeDeferred hK, ?_⟩⟩
    rw [conjI_len] at hrow
    exact ⟨_, results_tmp rfl _ _ _, v, rfl, own_lower (ownsRow_putObj hrow _ hK rfl) (by omega), hB.trans (belowK_b (w := w) (Nat.le_refl _) W D _ _ (by simp at hD; omega) hK rfl rfl)⟩
  case stop =>
    rintro D c pre W _ _ h _
    exact h.elim
end Go.Proofs.Ytjbaeomjinnlhaa
