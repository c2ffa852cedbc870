/-
  Conjugates, and minimal polynomials: of the model and of the program.
-/
import Derived.Test.YtnpadkkjaeblfaaPvL
import Derived.Test.YtnpadkkjaeblfaaPvF
namespace Go.Proofs.Ytnpadkkjaeblfaa
set_option linter.unusedVariables false
set_option linter.unusedSimpArgs false
open Go.ChangeShapes Go.WideShapes Go.ChangeAt Go.RowKit Go.Shelf
attribute [local go_sem] Oper.semAt_some

/-! the mathematics -/
theorem Nim.sqs_succ (n : Nat) : ∀ a, Nim.sqs (n + 1) a = Nim.mul (Nim.sqs n a) (Nim.sqs n a) := by
  induction n with
  | zero => exact fun a => rfl
  | succ n ih => intro a; show Nim.sqs (n + 1) (Nim.mul a a) = _; rw [ih]; rfl
theorem Nim.sqs_add (m n : Nat) : ∀ a, Nim.sqs (m + n) a = Nim.sqs m (Nim.sqs n a) := by
  induction n with
  | zero => exact fun a => rfl
  | succ n ih => intro a; show Nim.sqs (m + n) (Nim.mul a a) = Nim.sqs m (Nim.sqs n (Nim.mul a a)); exact ih _
def IsPer (a p : Nat) : Prop := 1 ≤ p ∧ p ≤ 16 ∧ Nim.sqs p a = a ∧ ∀ i, 0 < i → i < p → Nim.sqs i a ≠ a
theorem least_nat (P : Nat → Prop) : ∀ n, P n → ∃ m, m ≤ n ∧ P m ∧ ∀ i, i < m → ¬ P i := by
  intro n
  induction n using Nat.strongRecOn with
  | _ n ih =>
    intro h
    by_cases e : ∃ i, i < n ∧ P i
    · obtain ⟨i, hi, hp⟩ := e
      obtain ⟨m, hm, h1, h2⟩ := ih i hi hp
      exact ⟨m, by omega, h1, h2⟩
    · exact ⟨n, Nat.le_refl _, h, fun i hi hp => e ⟨i, hi, hp⟩⟩
theorem per_ex (a : Nat) (ha : a < 65536) : ∃ p, IsPer a p := by
  obtain ⟨m, hm, h1, h2⟩ := least_nat (fun n => Nim.sqs (n + 1) a = a) 15 (Nim.sqs16 a ha)
  exact ⟨m + 1, by omega, by omega, h1, fun i h0 hi => by have := h2 (i - 1) (by omega); rwa [show i - 1 + 1 = i from by omega] at this⟩
theorem IsPer.inj {a p i j : Nat} (h : IsPer a p) (hij : i < j) (hj : j < p) : Nim.sqs i a ≠ Nim.sqs j a := by
  intro e
  have e2 : Nim.sqs (p - j + i) a = a := by
    rw [Nim.sqs_add, e, ← Nim.sqs_add, show p - j + j = p from by omega, h.2.2.1]
  exact h.2.2.2 (p - j + i) (by omega) (by omega) e2
def conjI (a p : Nat) : List Int := (List.range p).map fun i => ((Nim.sqs i a : Nat) : Int)
theorem conjI_len (a p : Nat) : (conjI a p).length = p := by simp [conjI]
theorem conjI_snoc (a p : Nat) : conjI a p ++ [((Nim.sqs p a : Nat) : Int)] = conjI a (p + 1) := by unfold conjI; rw [List.range_succ, List.map_append]; rfl
theorem u16s_conj (a p : Nat) : u16s (conjI a p) ++ [Value.int .u16 ((Nim.sqs p a : Nat) : Int)] = u16s (conjI a (p + 1)) := by rw [← conjI_snoc]; simp [u16s]
theorem conjI_small (a p : Nat) (ha : a < 65536) : ∀ z ∈ conjI a p, 0 ≤ z ∧ z < 65536 := by
  intro z hz
  unfold conjI at hz
  obtain ⟨i, _, rfl⟩ := List.mem_map.1 hz
  have := Nim.sqs_b i a ha
  omega
theorem conjI_pre (a p k : Nat) (h : k ≤ p) : conjI a k <+: conjI a p := by
  refine ⟨(List.range (p - k)).map (fun i => ((Nim.sqs (k + i) a : Nat) : Int)), ?_⟩
  unfold conjI
  have e := List.range_add (n := k) (m := p - k)
  rw [show k + (p - k) = p from by omega] at e
  rw [e, List.map_append, List.map_map]; rfl
theorem lsquare_nat (x : Nat) (hx : x < 65536) (w : World) : Calls Try.prog 121 #[.int .u16 (x : Int), .int .u16 (x : Int)] w fun e w' => e = .returned (.int .u16 ((Nim.mul x x : Nat) : Int)) ∧ w' = w := by
  have h := ltimes_v (x : Int) (x : Int) (by omega) (by omega) (by omega) (by omega) w
  rw [mulI_nat] at h
  exact h
theorem square_nat (x : Nat) (hx : x < 65536) (w : World) : Calls Try.prog 147 #[.int .u16 (x : Int)] w fun e w' => e = .returned (.int .u16 ((Nim.mul x x : Nat) : Int)) ∧ w' = w := by
  refine (square_any (x : Int) (by omega) (by omega) w).mono ?_
  rintro e w' ⟨⟨v, rfl, hv, _⟩, rfl⟩
  rw [hv.out, mulI_nat]
  exact ⟨rfl, rfl⟩
/-! the model -/
set_option maxRecDepth 100000 in
set_option maxHeartbeats 2000000 in
theorem spec_ConjugatesOf (a p : Nat) (ha : a < 65536) (hp : IsPer a p) (w : World) :
    Calls Try.prog 127 #[.int .u16 (a : Int)] w fun e w' => ∃ v, e = .returned v ∧ w'.ownsRow w.heap.size 41 1 v p (u16s (conjI a p)) ∧ Below w.heap.size w w' := by
  obtain ⟨i0, hi, hz0, hz1, hz2⟩ := info_parts info25
  have hp1 := hp.1
  have hp2 := hp.2.1
  have HP := Lib.hid hp
  clear hp
  go_enter Try.func127, Try.ntmps127
  go_wp2_with fail
  obtain ⟨B, hB⟩ : ∃ B, B = w.heap.size := ⟨_, rfl⟩
  have m1 : (w.alloc (.cells #[.int .u16 (a : Int)] 41)).ownsRow B 41 1 (.slice (some ⟨w.heap.size, 0, none⟩) 1 1) 1 (u16s (conjI a 1)) :=
    ⟨by simp [u16s, conjI], .inr ⟨w.heap.size, 1, #[.int .u16 (a : Int)], rfl, by omega, heap_alloc_new w _, Nat.le_refl _, by unfold maxLen; omega, rfl, by simp [u16s, conjI, Nim.sqs]⟩⟩
  have m2 : Below B w (w.alloc (.cells #[.int .u16 (a : Int)] 41)) := (Below.refl _ _).alloc (by omega) _
  rw [← hB] at m1 ⊢
  have M1 := Lib.hid m1
  have M2 := Lib.hid m2
  have HBB := Lib.hid hB
  clear m1 m2 hB
  generalize w.alloc (.cells #[.int .u16 (a : Int)] 41) = wa at M1 M2 ⊢
  refine (lsquare_nat a ha _).mono ?_
  rintro e w' ⟨rfl, rfl⟩
  have hs1 : Nim.mul a a = Nim.sqs 1 a := rfl
  have hsb := Nim.sqs_b 1 a ha
  rw [hs1]
  clear hs1
  generalize hx : Nim.sqs 1 a = x at hsb ⊢
  have HX := Lib.hid hx
  clear hx
  go_wp2_with fail
  go_loopw [4, 3] (fun y o wr => ∃ k x : Nat, y = .int .u16 (x : Int) ∧ k < p ∧ x < 65536 ∧ Hid (Nim.sqs (k + 1) a = x) ∧ Hid (wr.ownsRow B 41 1 o (k + 1) (u16s (conjI a (k + 1)))) ∧ Hid (Below B w wr) ∧ Hid (B ≤ wr.heap.size)) (fun y o _ => match o with | .slice _ n _ => p - n | _ => 0)
  case atStart => exact ⟨0, x, rfl, by omega, hsb, HX, M1, M2, Lib.hid (by have := M2.out.size; have := HBB.out; omega)⟩
  case round =>
    clear M1 M2 HX hsb
    obtain ⟨k, x, rfl, hk, hxb, HX, HO, HBW, HS⟩ := hrel
    by_cases hlt : k + 1 = p
    · have T1 : ((x : Int) != (a : Int)) = false := by
        have : x = a := by rw [← HX.out, hlt]; exact HP.out.2.2.1
        rw [this]; simp
      have HL := Lib.hid hlt
      clear hlt
      go_wp2_with fail
      go_ret
      obtain rfl := HL.out
      obtain rfl := HBB.out
      exact ⟨_, rfl, HO.out, HBW.out⟩
    · have T1 : ((x : Int) != (a : Int)) = true := by
        have h1 : x ≠ a := by rw [← HX.out]; exact HP.out.2.2.2 (k + 1) (by omega) (by omega)
        rw [bne_iff_ne]; omega
      have hk2 : k + 1 < p := by omega
      clear hlt
      obtain ⟨A0, c0, rfl, _, _⟩ := own_form HO.out
      go_wp2_with (at_builtin; refine wpList_append_own _ rfl _ _ 24 rfl (B) 41 i0 (.int .u16 0) 1 2 Try.underlying24 hi hz0 hz1 hz2 rfl (by decide) _ (k + 1) _ rfl (HO.out.alloc _) ⟨wr.heap.size, 0, none⟩ 1 1 [.int .u16 (x : Int)] rfl rfl ?c1 ?c2 ?c3 ?c4 ?c5 ?_)
      case c1 => exact one_cellC _ _ _
      case c2 => simp [Value.oneCell']
      case c3 => unfold maxLen; omega
      case c4 => omega
      case c5 => rw [World.size_alloc]; have := HS.out; omega
      intro s' wy hown hgrow _
      have hown2 : wy.ownsRow B 41 1 s' (k + 1 + 1) (u16s (conjI a (k + 1 + 1))) := by
        rw [← u16s_conj, HX.out]; exact hown
      have HB2 := Lib.hid ((HBW.out.alloc HS.out _).grown hgrow (by rw [World.size_alloc]; have := HS.out; omega) (fun x hx => (HO.out.lt x hx).1))
      have HS2 := Lib.hid (Nat.le_trans (show B ≤ (wr.alloc (.cells #[.int .u16 (x : Int)] 41)).heap.size by rw [World.size_alloc]; have := HS.out; omega) hgrow.size)
      obtain ⟨A1, c1, rfl, _, _⟩ := own_form hown2
      have HQ2 := Lib.hid hown2
      clear hown hown2 hgrow HO HBW HS
      have hs2 : Nim.mul x x = Nim.sqs (k + 1 + 1) a := by rw [Nim.sqs_succ, HX.out]
      have HX2 := Lib.hid hs2
      have hb2 := Nim.mul_b hxb hxb
      clear hs2
      go_wp2_with fail
      refine (lsquare_nat x hxb _).mono ?_
      rintro e w' ⟨rfl, rfl⟩
      go_wp2_with fail
      exact ⟨⟨k + 1, _, rfl, by omega, hb2, Lib.hid HX2.out.symm, HQ2, HB2, HS2⟩, by simp; omega⟩
open Classical in
/-- how many conjugates are still to come -/
noncomputable def conjLeft (a p : Nat) (v : Value) : Nat :=
  if h : ∃ k, k < p ∧ v = .int .u16 ((Nim.sqs k a : Nat) : Int) then p - Classical.choose h else 0
theorem conjLeft_eq {a p k : Nat} (hp : IsPer a p) (hk : k < p) : conjLeft a p (.int .u16 ((Nim.sqs k a : Nat) : Int)) = p - k := by
  have hex : ∃ j, j < p ∧ Value.int .u16 ((Nim.sqs k a : Nat) : Int) = .int .u16 ((Nim.sqs j a : Nat) : Int) := ⟨k, hk, rfl⟩
  unfold conjLeft
  rw [dif_pos hex]
  obtain ⟨h1, h2⟩ := Classical.choose_spec hex
  generalize Classical.choose hex = j at h1 h2
  have e : Nim.sqs k a = Nim.sqs j a := by
    simp only [Value.int.injEq, true_and] at h2
    omega
  rcases Nat.lt_trichotomy k j with q | q | q
  · exact absurd e (hp.inj q h1)
  · rw [q]
  · exact absurd e.symm (hp.inj q hk)
set_option maxRecDepth 100000 in
set_option maxHeartbeats 2000000 in
theorem conj1_in (n l Bn : Nat) (hn : 1 ≤ n) (a p : Nat) (ha : a < 65536) (hp : IsPer a p) (J Jx : List Int → World → Prop)
    (hY : ∀ pre x W, J pre W → pre.length < p → YieldAt Fence.wide (n - 1) Try.prog l #[.int .u16 (x % 65536)] W fun e W' =>
      (e = .returned (.bool true) ∧ J (pre ++ [x]) W' ∧ W'.cell? ⟨Bn, 0, none⟩ = W.cell? ⟨Bn, 0, none⟩) ∨ (e = .returned (.bool false) ∧ Jx (pre ++ [x]) W'))
    (W : World) (hBn : W.cell? ⟨Bn, 0, none⟩ = some (.int .u16 (a : Int))) (h0 : J [] W) :
    CallsIn Fence.wide n Try.prog 146 #[.func (.yield l) #[] #[], .pointer (some ⟨Bn, 0, none⟩)] W fun e W' => (∃ v, e = .returned v) ∧
      ((∃ ys, ys = conjI a p ∧ J ys W') ∨ (∃ pre, pre <+: conjI a p ∧ Jx pre W')) := by
  have hp1 := hp.1
  have hp2 := hp.2.1
  have HP := Lib.hid hp
  clear hp
  refine callsIn_of_wp Try.func146 rfl trivial ?_ rfl
  simp only [Try.ntmps146, List.size_toArray, List.length_cons, List.length_nil, Nat.reduceAdd, Nat.reduceSub, Array.replicate_succ, Array.replicate_zero, List.push_toArray, List.append_toArray, List.nil_append, List.cons_append]
  gi_wp2
  gi_loopw [3] (fun c wr => ∃ k x : Nat, c = .int .u16 (x : Int) ∧ x < 65536 ∧ k < p ∧ Hid (Nim.sqs k a = x) ∧ J (conjI a k) wr ∧ wr.cell? ⟨Bn, 0, none⟩ = some (.int .u16 (a : Int)))
    (fun c wr => conjLeft a p c)
  case atStart => exact ⟨0, a, rfl, ha, by omega, Lib.hid rfl, h0, hBn⟩
  case round =>
    clear h0 hBn
    obtain ⟨k, x, rfl, hxb, hk, HX, hJ, hc⟩ := hrel
    have hyx := hY (conjI a k) (x : Int) wr hJ (by rw [conjI_len]; exact hk)
    rw [show ((x : Int) % 65536) = (x : Int) from by omega] at hyx
    obtain ⟨fn, tmps, assign, body, hy, hR⟩ := hyx
    gi_wp2
    refine hR.mono ?_
    rintro e W3 (⟨rfl, hJ3, hk3⟩ | ⟨rfl, hJx3⟩)
    · have hc3 : W3.cell? ⟨Bn, 0, none⟩ = some (.int .u16 (a : Int)) := hk3.trans hc
      have hJ4 : J (conjI a (k + 1)) W3 := by rw [← conjI_snoc, HX.out]; exact hJ3
      have hs2 : Nim.sqs (k + 1) a = Nim.mul x x := by rw [Nim.sqs_succ, HX.out]
      have hb2 := Nim.mul_b hxb hxb
      have HX2 := Lib.hid hs2
      clear hs2 hJ hJ3 hk3 hy hR hc
      by_cases hlt : k + 1 = p
      · have T1 : (((Nim.mul x x : Nat) : Int) == (a : Int)) = true := by
          have : Nim.mul x x = a := by rw [← HX2.out, hlt]; exact HP.out.2.2.1
          rw [this]; simp
        have hJ5 : J (conjI a p) W3 := by rw [← hlt]; exact hJ4
        clear hJ4 hlt
        gi_wp2
        (try refine ⟨trivial, ?_⟩)
        refine (callsIn_wide.2 (square_nat x hxb _)).mono ?_
        rintro e w' ⟨rfl, rfl⟩
        gi_wp2
        refine bodyPost_ret (results_none rfl _ _ _) rfl ?_
        exact ⟨⟨_, rfl⟩, .inl ⟨_, rfl, hJ5⟩⟩
      · have T1 : (((Nim.mul x x : Nat) : Int) == (a : Int)) = false := by
          have h1 : Nim.mul x x ≠ a := by rw [← HX2.out]; exact HP.out.2.2.2 (k + 1) (by omega) (by omega)
          rw [beq_eq_false_iff_ne]; omega
        have hlt2 : k + 1 < p := by omega
        clear hlt
        gi_wp2
        (try refine ⟨trivial, ?_⟩)
        refine (callsIn_wide.2 (square_nat x hxb _)).mono ?_
        rintro e w' ⟨rfl, rfl⟩
        gi_wp2
        go_roundw
        case rel => exact ⟨k + 1, _, rfl, hb2, hlt2, HX2, hJ4, hc3⟩
        case measure => rw [← HX2.out, ← HX.out, conjLeft_eq HP.out hlt2, conjLeft_eq HP.out hk]; omega
    · have hJx4 : Jx (conjI a (k + 1)) W3 := by rw [← conjI_snoc, HX.out]; exact hJx3
      gi_wp2
      go_end0
      exact ⟨⟨_, rfl⟩, .inr ⟨_, conjI_pre a p (k + 1) (by omega), hJx4⟩⟩
open Classical in
noncomputable def minP (a : Int) : List Int := if h : ∃ p, IsPer a.toNat p then rootsL (conjI a.toNat (Classical.choose h)) else []
theorem minP_ex {a : Int} (a0 : 0 ≤ a) (a1 : a < 65536) : ∃ p, IsPer a.toNat p ∧ minP a = rootsL (conjI a.toNat p) := by
  have h := per_ex a.toNat (by omega)
  refine ⟨Classical.choose h, Classical.choose_spec h, ?_⟩
  unfold minP
  rw [dif_pos h]
theorem minP_len {a : Int} (a0 : 0 ≤ a) (a1 : a < 65536) : (minP a).length ≤ 21 := by
  obtain ⟨p, hp, e⟩ := minP_ex a0 a1
  have := rootsL_len (conjI a.toNat p)
  rw [conjI_len] at this
  have := hp.2.1
  rw [e]; omega
theorem conjugates_any (a : Int) (w : World) :
    Calls Try.prog 128 #[.int .u16 a] w fun e w' => e = .returned (.func (.func 146) #[] #[.pointer (some ⟨w.heap.size, 0, none⟩)]) ∧ w' = w.alloc (.cells #[.int .u16 a] 41) := by
  go_enter Try.func128, Try.ntmps128
  go_wp2_with fail
  go_ret
  exact ⟨rfl, rfl⟩
theorem enters_C1 : ∀ args w, (callFunc 146 args).run Try.prog w = .ok (.enter 146 args) w := enters_of Try.func146 (by kernel_rfl) rfl
theorem spec_MinimalPoly (a : Int) (a0 : 0 ≤ a) (a1 : a < 65536) (w : World) :
    Calls Try.prog 73 #[.int .u16 a] w fun e w' => ∃ r, e = .returned r ∧ PO w' w.heap.size r (minP a) ∧ Below w.heap.size w w' := by
  obtain ⟨p, hp, hm⟩ := minP_ex a0 a1
  obtain ⟨n, rfl⟩ : ∃ n : Nat, a = n := ⟨a.toNat, by omega⟩
  rw [show ((n : Int)).toNat = n from rfl] at hp hm
  rw [hm]
  have n1 : n < 65536 := by omega
  have hp2 := hp.2.1
  have HP := Lib.hid hp
  clear hp hm a0 a1
  obtain ⟨zs, hzs⟩ : ∃ zs, zs = conjI n p := ⟨_, rfl⟩
  have hln : zs.length ≤ 1000 := by rw [hzs, conjI_len]; omega
  have HZ := Lib.hid hzs
  rw [← hzs]
  clear hzs
  go_enter Try.func73, Try.ntmps73
  go_wp2_with fail
  refine (spec_ConjugatesOf n p n1 HP.out _).mono ?_
  rintro e w1 ⟨v1, rfl, ho1, hb1⟩
  have hpo : PO w1 w.heap.size v1 zs := by
    rw [← HZ.out] at ho1
    exact PO.of_own ho1 (by rw [HZ.out, conjI_len]) (by rw [HZ.out]; exact conjI_small n p n1)
  have HPO := Lib.hid hpo
  have HB1 := Lib.hid hb1
  clear ho1 hb1 hpo
  go_wp2_with fail
  refine (l05Roots_any _ zs hln _ HPO.out.ns).mono ?_
  rintro e w2 ⟨r, rfl, ho, hb⟩
  have HQ := Lib.hid ((PO.of_own ho rfl (rootsL_in zs)).lower HB1.out.size)
  have HB := Lib.hid (bchain HB1.out hb)
  clear ho hb
  go_wp2_with fail
  go_ret
  exact ⟨_, rfl, HQ.out, HB.out⟩
theorem impl_MinimalPoly (a : Int) (a0 : 0 ≤ a) (a1 : a < 65536) (w : World) :
    Calls Try.prog 74 #[.int .u16 a] w fun e w' => ∃ r, e = .returned r ∧ PO w' w.heap.size r (minP a) ∧ Below w.heap.size w w' := by
  obtain ⟨p, hp, hm⟩ := minP_ex a0 a1
  obtain ⟨n, rfl⟩ : ∃ n : Nat, a = n := ⟨a.toNat, by omega⟩
  rw [show ((n : Int)).toNat = n from rfl] at hp hm
  rw [hm]
  have n1 : n < 65536 := by omega
  have hp2 := hp.2.1
  obtain ⟨wa, hwa⟩ : ∃ wa, wa = w.alloc (.cells #[.int .u16 (n : Int)] 41) := ⟨_, rfl⟩
  have hba : Below w.heap.size w wa := by rw [hwa]; exact (Below.refl _ _).alloc (Nat.le_refl _) _
  have hsz : wa.heap.size = w.heap.size + 1 := by rw [hwa]; simp
  have hbx : wa.cell? ⟨w.heap.size, 0, none⟩ = some (.int .u16 (n : Int)) := by rw [hwa]; exact (Boxed.new w 41 (.int .u16 (n : Int))).cell
  have hst := polyOfRoots_any 146 #[.pointer (some ⟨w.heap.size, 0, none⟩)] enters_C1 (conjI n p) (by rw [conjI_len]; omega) wa
    (fun l J Jx W hW _ _ hY h0 => by
      rw [conjI_len] at hY
      exact conj1_in 8 l w.heap.size (by omega) n p n1 hp J Jx (fun pre x W1 hJ hl => by
        obtain ⟨fn, tmps, assign, body, h1, h2⟩ := hY pre x W1 hJ hl
        exact ⟨fn, tmps, assign, body, h1, h2.mono (fun e W2 h => h.imp (fun q => ⟨q.1, q.2.1, cell_same (q.2.2 w.heap.size (by omega))⟩) (fun q => q))⟩) W ((hW.cell (p := ⟨w.heap.size, 0, none⟩) (by show w.heap.size < wa.heap.size; omega)).trans hbx) h0)
  have HST := Lib.hid hst
  have HBA := Lib.hid hba
  have HV : Hid (Calls Try.prog 128 #[.int .u16 (n : Int)] w fun e w' => e = .returned (.func (.func 146) #[] #[.pointer (some ⟨w.heap.size, 0, none⟩)]) ∧ w' = wa) := Lib.hid (by rw [hwa]; exact conjugates_any (n : Int) w)
  obtain ⟨zs, hzs⟩ : ∃ zs, zs = conjI n p := ⟨_, rfl⟩
  rw [← hzs] at HST ⊢
  clear hst hba hwa hsz hbx hp hm a0 a1 hzs
  go_enter Try.func74, Try.ntmps74
  go_wp2_with fail
  refine HV.out.mono ?_
  rintro e w' ⟨rfl, rfl⟩
  go_wp2_with fail
  refine HST.out.mono ?_
  rintro e wn ⟨r, rfl, ho, hb⟩
  have HPO := Lib.hid ((PO.of_own ho rfl (rootsL_in zs)).lower HBA.out.size)
  have HB := Lib.hid (bchain HBA.out hb)
  clear ho hb
  go_wp2_with fail
  go_ret
  exact ⟨_, rfl, HPO.out, HB.out⟩
end Go.Proofs.Ytnpadkkjaeblfaa
