/-
  The program makes rows reduced.
-/
import Derived.Test.YtjbaeomjinnlhaaOk2
import Derived.Deep.RegionHeld
import Derived.Test.YtjbaeomjinnlhaaTrace
import Derived.WalkMore
namespace Go.Proofs.Ytjbaeomjinnlhaa
set_option linter.unusedVariables false
set_option linter.unusedSimpArgs false
open Go.ChangeShapes Go.WideShapes Go.ChangeAt Go.RowKit

def un12 (G : Nat → Nat → Nat) : Nat → Int := fun s => ((G (s / 12) (s % 12) : Nat) : Int)
def row12 (G : Nat → Nat → Nat) (i : Nat) : Nat → Int := fun k => ((G i k : Nat) : Int)
theorem un12_at (G : Nat → Nat → Nat) (i k : Nat) (hk : k < 12) : un12 G (i * 12 + k) = row12 G i k := by
  unfold un12 row12
  rw [show (i * 12 + k) / 12 = i from by omega, show (i * 12 + k) % 12 = k from by omega]
theorem un12_row (G : Nat → Nat → Nat) (i : Nat) : TL 12 (fun k => un12 G (i * 12 + k)) = TL 12 (row12 G i) := TL_ext fun k hk => un12_at G i k hk
theorem row12_b {G : Nat → Nat → Nat} (h : Nim.GB G) (i : Nat) : VW (row12 G i) := fun k => by have := h i k; unfold row12; omega
theorem part_struct {P : Program} {w : World} {r : TypeId} {fs : Array Field} (ht : P.underlying r = some (.struct fs)) (m : Nat) (hr : (P.info? r).map (·.size) = some m) (n o : Nat) (f : Nat → Int) (h : o + m ≤ n) :
    (part r (TL n f).toArray o).run P w = .ok (.agg (TL m fun k => f (o + k)).toArray) w := by
  cases hq : P.info? r with
  | none => simp [hq] at hr
  | some i =>
    have hs : i.size = m := by simpa [hq] using hr
    have e2 : List.take m (List.drop o (TL n f)) = TL m fun k => f (o + k) := by
      have := congrArg Array.toList (TL_extract n m o f h)
      simpa [List.extract] using this
    simp [part, isAgg, run_underlying ht, sizeOf, typeInfo, hq, hs, e2]
theorem index_struct {P : Program} {w : World} {t r : TypeId} {fs : Array Field} (ht : P.underlying t = some (.array 6 r)) (hr : P.underlying r = some (.struct fs)) (hs : (P.info? r).map (·.size) = some 12) (f : Nat → Int) (i : Nat) (hi : i < 6) :
    (Instr.index t (.agg (TL 72 f).toArray) (.int .i64 i)).run P w = .ok (.agg (TL 12 fun k => f (i * 12 + k)).toArray) w := by
  have hp := part_struct (w := w) hr 12 hs 72 (i * 12) f (by omega)
  cases hq : P.info? r with
  | none => simp [hq] at hs
  | some j =>
    have hj : j.size = 12 := by simpa [hq] using hs
    have e1 : (0 : Int) ≤ i ∧ (i : Int) < (6 : Nat) := by omega
    simp [Instr.index, asIntOf, run_underlying ht, sizeOf, typeInfo, hq, hj, hp, hi]
theorem wpList_index_struct {P : Program} {w : World} {o : Oper} {a : Act} {ops : Array Oper} {rest : List Oper} {Q : Exit → Act → World → Prop} {r : TypeId} {fs : Array Field} (hgd : o.guard = none) (ty : TypeId) (x y : Operand) (ho : o.op = .index ty x y) (f : Nat → Int) (i : Nat) (hx : a.eval x = .agg (TL 72 f).toArray) (hy : a.eval y = .int .i64 i) (hi : i < 6)
    (ht : P.underlying ty = some (.array 6 r)) (hr : P.underlying r = some (.struct fs)) (hs : (P.info? r).map (·.size) = some 12)
    (h : wpList P ops Q rest (a.put o.dst (.agg (TL 12 fun k => f (i * 12 + k)).toArray)) w) : wpList P ops Q (o :: rest) a w :=
  wpList_plain hgd fun K hK => by
    unfold Oper.wp execOp
    simp only [ho, hx, hy, Sem.run_bind, Sem.run_pure, Result.andThen_ok, index_struct ht hr hs f i hi]
    exact hK _ _ h
theorem zero72 : Try.zeroCells150 = (TL 72 fun _ => 0).toArray := by kernel_rfl
theorem invI_row (G : Nat → Nat → Nat) (i n : Nat) : invI (row12 G i n) = ((Nim.inv (G i n) : Nat) : Int) := by
  unfold invI row12
  rw [Int.toNat_natCast]
theorem lead_eq (G : Nat → Nat → Nat) (i n k : Nat) : mulI (row12 G i k) (invI (row12 G i n)) = row12 (fun _ => Nim.lead G i n) 0 k := by
  rw [invI_row]
  unfold mulI row12 Nim.lead
  rw [Int.toNat_natCast, Int.toNat_natCast]
theorem lead_TL (G : Nat → Nat → Nat) (i n : Nat) : (TL 12 fun k => mulI (row12 G i k) (invI (row12 G i n))) = TL 12 (row12 (fun _ => Nim.lead G i n) 0) := TL_ext fun k _ => lead_eq G i n k
/-- all rows behind the loop over them (the row t too) -/
def allF (G : Nat → Nat → Nat) (t i n : Nat) : Nat → Nat → Nat := fun r k => Nim.other G t i r k ^^^ Nim.mul (Nim.lead G i n k) (Nim.other G t i r n)
theorem all_eq (G : Nat → Nat → Nat) (t i n j k : Nat) (hk : k < 12) : xorI (row12 (Nim.other G t i) j k) (mulI (row12 (fun _ => Nim.lead G i n) 0 k) (row12 (Nim.other G t i) j n)) = un12 (allF G t i n) (j * 12 + k) := by
  rw [un12_at _ _ _ hk]
  unfold xorI mulI row12 allF
  rw [Int.toNat_natCast, Int.toNat_natCast, Int.toNat_natCast, Int.toNat_natCast]
theorem all_other (G : Nat → Nat → Nat) (t i : Nat) (hi : i < 6) : ∀ s, s < 72 → puts (un12 G) (i * 12) 12 (row12 G t) s = un12 (Nim.other G t i) s := fun s hs => by
  unfold puts un12 row12 Nim.other
  by_cases e : i * 12 ≤ s ∧ s < i * 12 + 12
  · rw [if_pos e, if_pos (by omega), show s - i * 12 = s % 12 from by omega]
  · rw [if_neg e, if_neg (by omega)]
theorem all_elim (G : Nat → Nat → Nat) (t i n : Nat) (ht : t < 6) : ∀ s, s < 72 → puts (un12 (allF G t i n)) (t * 12) 12 (fun k => ((Nim.lead G i n k : Nat) : Int)) s = un12 (Nim.elim G t i n) s := fun s hs => by
  unfold puts un12 allF Nim.elim
  by_cases e : t * 12 ≤ s ∧ s < t * 12 + 12
  · rw [if_pos e, if_pos (by omega), show s - t * 12 = s % 12 from by omega]
  · rw [if_neg e, if_neg (by omega)]

set_option maxRecDepth 100000 in
set_option maxHeartbeats 4000000 in
theorem reduceRows_any (G0 : Nat → Nat → Nat) (hG0 : Nim.GB G0) (w : World) : Calls Try.prog 153 #[.agg (TL 72 (un12 G0)).toArray] w fun e w' => e = .returned (.agg (TL 72 (un12 (Nim.redN G0 6).1)).toArray) ∧ Below w.heap.size w w' := by
  obtain ⟨RES, hRES⟩ : ∃ R, R = (Nim.redN G0 6).1 := ⟨_, rfl⟩
  rw [← hRES]
  have HRES := Lib.hid hRES
  clear hRES
  go_enter Try.func153, Try.ntmps153
  go_upto_region 1 with fail
  obtain ⟨a1, a2, a4, _⟩ := new2 w (.cells (TL 72 (un12 G0)).toArray 150) (.cells (TL 72 fun _ => 0).toArray 150)
  rw [zero72]
  obtain ⟨g, hg⟩ : ∃ g, g = w.heap.size := ⟨_, rfl⟩
  rw [← hg] at a1 a2 a4 ⊢
  generalize World.alloc (World.alloc w _) _ = w2 at a1 a2 a4 ⊢
  replace a1 : RB w2 g 150 72 (un12 G0) := a1
  replace a2 : RB w2 (g + 1) 150 72 (fun _ => 0) := a2
  have HG0 := Lib.hid hG0
  have HG := Lib.hid hg
  clear hg hG0
  go_step3
  go_wp2_with fail
  go_step3
  go_wp2_with fail
  go_loopw [10, 3] (fun p q wr => ∃ (n : Nat), p = .int .i64 n ∧ n ≤ 6 ∧ q = .int .i64 ((Nim.redN G0 n).2.length : Nat) ∧ RB wr g 150 72 (un12 (Nim.redN G0 n).1) ∧ RB wr (g + 1) 150 72 (fun _ => 0) ∧ Hid (Below g w wr)) (fun p _ _ => (6 - intOf p).toNat)
  case atStart => exact ⟨0, rfl, by omega, rfl, a1, a2, Lib.hid a4⟩
  case round =>
    clear a1 a2 a4
    obtain ⟨n, rfl, hn, rfl, h1, h2, hb⟩ := hrel
    by_cases hlt : n < 6
    · have T1 : decide ((n : Int) < 6) = true := by simp; omega
      have k1 : (n : Int) < 6 := by omega
      have hst := Lib.hid (Nim.redN_step G0 n)
      have HGB := Lib.hid (Nim.redN_b HG0.out n)
      have ht6 := Nim.redN_len HG0.out n
      obtain ⟨E, hE⟩ : ∃ E, E = Nim.redN G0 (n + 1) := ⟨_, rfl⟩
      rw [← hE] at hst
      have HE := Lib.hid hE
      clear hE
      generalize Nim.redN G0 n = rn at hst HGB ht6 h1 ⊢
      obtain ⟨G, fs⟩ := rn
      replace h1 : RB wr g 150 72 (un12 G) := h1
      replace HGB : Hid (Nim.GB G) := HGB
      obtain ⟨t, ht⟩ : ∃ t, t = fs.length := ⟨_, rfl⟩
      replace hst := Lib.hid (show E = if Nim.pivotFrom G n (6 - t) t < 6 then (Nim.elim G t (Nim.pivotFrom G n (6 - t) t) n, fs ++ [n]) else (G, fs) by rw [ht]; exact hst.out)
      replace ht6 : t ≤ 6 := by rw [ht]; exact ht6
      have HT := Lib.hid ht
      show Code.wp _ _ _ _ _
      rw [show ((((G, fs) : (Nat → Nat → Nat) × List Nat).2.length : Nat) : Int) = (t : Int) from by rw [ht]]
      clear ht
      go_wp2_with fail
      go_loopw [5, 3] (fun p q wr => ∃ (i : Nat), p = .int .i64 i ∧ q = .int .i64 (t : Int) ∧ t ≤ i ∧ i ≤ 6 ∧ Hid (Nim.pivotFrom G n (6 - t) t = Nim.pivotFrom G n (6 - i) i) ∧ RB wr g 150 72 (un12 G) ∧ RB wr (g + 1) 150 72 (fun _ => 0) ∧ Hid (Below g w wr)) (fun p _ _ => (6 - intOf p).toNat)
      case atStart => exact ⟨t, rfl, rfl, Nat.le_refl t, ht6, Lib.hid rfl, h1, h2, hb⟩
      case round =>
        clear h1 h2 hb
        obtain ⟨i, rfl, rfl, hti, hi, hp, h1, h2, hb⟩ := hrel
        by_cases hli : i < 6
        · have T2 : decide ((i : Int) < 6) = true := by simp; omega
          have i1 : (i : Int) < 6 := by omega
          have c1 := h1.cell (i * 12 + n) (by omega)
          rw [un12_at G i n (by omega)] at c1
          by_cases h0 : G i n = 0
          · have T3 : (row12 G i n == 0) = true := by unfold row12; simp [h0]
            have H0 := Lib.hid h0
            clear h0
            go_wp2_with fail
            exact ⟨⟨i + 1, rfl, rfl, by omega, by omega, Lib.hid (hp.out.trans (Nim.pivot_step G n i hli H0.out)), h1, h2, hb⟩, by simp [intOf]; omega⟩
          · have T3 : (row12 G i n == 0) = false := by unfold row12; simp; omega
            have hY : E = (Nim.elim G t i n, fs ++ [n]) := by
              rw [hst.out, hp.out, Nim.pivot_here G n i hli h0, if_pos hli]
            have HY := Lib.hid hY
            clear h0 hY
            go_upto_region 10 with fail
            have H1 := Lib.hid h1
            have H2 := Lib.hid h2
            clear h1 h2 c1
            refine region_post (A := ?A10) (fun n7 u => ((fun v => RB v g 150 72 (un12 G) ∧ RB v (g + 1) 150 72 (fun _ => 0) ∧ Hid (Below g w v)) u) ∧ RB u n7 149 12 (row12 (fun _ => Nim.lead G i n) 0)) ?_ ?_
            rotate_left
            · refine wp_region_held_drew (S := (fun v => RB v g 150 72 (un12 G) ∧ RB v (g + 1) 150 72 (fun _ => 0) ∧ Hid (Below g w v))) (by kernel_rfl) ?hS10 (fun hS => ?_)
              case hS10 => exact ⟨H1.out, H2.out, Lib.hid hb.out.drew⟩
              change wpAnyH _ _ _ _ _ _ _ _ wr.drew at *
              generalize wr.drew = wv0 at hS ⊢
              refine takeH (i := 0) (v := ?v0a) rfl rfl (by kernel_rfl) (by kernel_rfl) (by kernel_rfl) (fun _ _ _ h => by cases h.1) rfl ?hy0a hS ?rs0a
              case hy0a => (intro wq hq; go_simp; try (with_reducible rfl))
              simp only [Act.put, List.setIfInBounds_toArray, List.set_cons_zero, List.set_cons_succ]
              refine takeH (i := 1) (v := ?v1a) rfl rfl (by kernel_rfl) (by kernel_rfl) (by kernel_rfl) (fun _ _ _ h => by cases h.1) rfl ?hy1a hS ?rs1a
              case hy1a => (intro wq hq; go_simp; try (with_reducible rfl))
              simp only [Act.put, List.setIfInBounds_toArray, List.set_cons_zero, List.set_cons_succ]
              refine takeH (i := 2) (v := .agg (TL 12 (row12 G i)).toArray) rfl rfl (by kernel_rfl) (by kernel_rfl) (by kernel_rfl) (fun _ _ _ h => by cases h.1) rfl ?hy2a hS ?rs2a
              case hy2a => exact fun wq hq => exec_load_mid 149 _ rfl g (i * 12) rfl (TL 12 (row12 G i)) _ (un12_row G i ▸ RB.sub hq.1 (i * 12) 12 (by omega)) Try.underlying149 (by kernel_rfl) (by kernel_rfl)
              simp only [Act.put, List.setIfInBounds_toArray, List.set_cons_zero, List.set_cons_succ]
              refine takeH (i := 3) (v := ?v3a) rfl rfl (by kernel_rfl) (by kernel_rfl) (by kernel_rfl) (fun _ _ _ h => by cases h.1) rfl ?hy3a hS ?rs3a
              case hy3a => (intro wq hq; go_simp; try (with_reducible rfl))
              simp only [Act.put, List.setIfInBounds_toArray, List.set_cons_zero, List.set_cons_succ]
              refine wpAnyH_ready (rs := [4, 6]) (by kernel_rfl) (by simp) ?_
              refine AllReadyH.cons rfl (fun K hK => ?_) (AllReadyH.cons rfl (fun K hK => ?_) AllReadyH.nil)
              · simp only [List.getElem_toArray, List.getElem_cons_zero, List.getElem_cons_succ]
                go_simp
                refine (inv_eq (row12 G i n) (row12_b HGB.out i n).1 (row12_b HGB.out i n).2 _).mono ?_
                rintro e wv1 ⟨rfl, rfl⟩
                refine hK.out _ _ hS (fun hS => ?_)
                clear hK
                refine wpAnyH_ready (rs := [5, 6]) (by kernel_rfl) (by simp) ?_
                refine AllReadyH.cons rfl (fun K hK => ?_) (AllReadyH.cons rfl (fun K hK => ?_) AllReadyH.nil)
                · simp only [List.getElem_toArray, List.getElem_cons_zero, List.getElem_cons_succ]
                  go_simp
                  refine (scaledT_any (row12 G i) (row12_b HGB.out i) (invI (row12 G i n)) (by rw [invI_row]; omega) (by have := Nim.inv_b (HGB.out i n); rw [invI_row]; omega) _).mono ?_
                  rintro e wv2 ⟨rfl, hn⟩
                  rw [lead_TL]
                  refine hK.out _ _ ⟨hS.1.below hn hS.1.lt, hS.2.1.below hn hS.2.1.lt, Lib.hid (bnext hS.2.2.out hn (Nat.le_of_lt hS.1.lt))⟩ (fun hS => ?_)
                  clear hK hn
                  refine wpAnyH_ready (rs := [6]) (by kernel_rfl) (by simp) ?_
                  refine AllReadyH.cons rfl (fun K hK => ?_) AllReadyH.nil
                  simp only [List.getElem_toArray, List.getElem_cons_zero, List.getElem_cons_succ]
                  go_simp
                  rw [zero12]
                  obtain ⟨m, hm⟩ : ∃ m, m = wv2.heap.size := ⟨_, rfl⟩
                  have N0 : RB (wv2.alloc (.cells (TL 12 fun _ => 0).toArray 149)) m 149 12 (fun _ => 0) := by rw [hm]; exact heap_alloc_last _ _
                  have mlt : g + 1 < m := by rw [hm]; exact hS.2.1.lt
                  rw [← hm]
                  refine hK.out _ _ ⟨hS.1.alloc _, hS.2.1.alloc _, Lib.hid (hS.2.2.out.alloc (by omega) _)⟩ (fun hS => ?_)
                  clear hK
                  generalize wv2.alloc (.cells (TL 12 fun _ => 0).toArray 149) = wv2 at N0 hS ⊢
                  clear hm
                  refine wpAnyH_ready (rs := [7]) (by kernel_rfl) (by simp) ?_
                  refine AllReadyH.cons rfl (fun K hK => ?_) AllReadyH.nil
                  simp only [List.getElem_toArray, List.getElem_cons_zero, List.getElem_cons_succ]
                  rw [if_pos (by rfl)]
                  refine wp_store_row 149 _ _ rfl m (TL 12 (row12 (fun _ => Nim.lead G i n) 0)).toArray rfl rfl _ _ N0 (by kernel_rfl) rfl (TL_one _ _) ?_
                  have N1 : RB (World.setRow _ m (TL 12 (row12 (fun _ => Nim.lead G i n) 0)).toArray) m 149 12 (row12 (fun _ => Nim.lead G i n) 0) := N0.setRow _
                  refine hK.out _ _ ⟨hS.1.setRow_other (by omega) _, hS.2.1.setRow_other (by omega) _, Lib.hid (Below.setRow hS.2.2.out (by omega) _)⟩ (fun hS => ?_)
                  clear hK
                  refine wpAnyH_done (by kernel_rfl) ?_ _
                  refine ⟨rfl, m, ?_, hS, N1⟩
                  rfl
                · simp only [List.getElem_toArray, List.getElem_cons_zero, List.getElem_cons_succ]
                  go_simp
                  rw [zero12]
                  obtain ⟨m, hm⟩ : ∃ m, m = wv1.heap.size := ⟨_, rfl⟩
                  have N0 : RB (wv1.alloc (.cells (TL 12 fun _ => 0).toArray 149)) m 149 12 (fun _ => 0) := by rw [hm]; exact heap_alloc_last _ _
                  have mlt : g + 1 < m := by rw [hm]; exact hS.2.1.lt
                  rw [← hm]
                  refine hK.out _ _ ⟨hS.1.alloc _, hS.2.1.alloc _, Lib.hid (hS.2.2.out.alloc (by omega) _)⟩ (fun hS => ?_)
                  clear hK
                  generalize wv1.alloc (.cells (TL 12 fun _ => 0).toArray 149) = wv1 at N0 hS ⊢
                  clear hm
                  refine wpAnyH_ready (rs := [5]) (by kernel_rfl) (by simp) ?_
                  refine AllReadyH.cons rfl (fun K hK => ?_) AllReadyH.nil
                  simp only [List.getElem_toArray, List.getElem_cons_zero, List.getElem_cons_succ]
                  go_simp
                  refine (scaledT_any (row12 G i) (row12_b HGB.out i) (invI (row12 G i n)) (by rw [invI_row]; omega) (by have := Nim.inv_b (HGB.out i n); rw [invI_row]; omega) _).mono ?_
                  rintro e wv2 ⟨rfl, hn⟩
                  rw [lead_TL]
                  replace N0 := N0.below hn N0.lt
                  refine hK.out _ _ ⟨hS.1.below hn hS.1.lt, hS.2.1.below hn hS.2.1.lt, Lib.hid (bnext hS.2.2.out hn (Nat.le_of_lt hS.1.lt))⟩ (fun hS => ?_)
                  clear hK hn
                  refine wpAnyH_ready (rs := [7]) (by kernel_rfl) (by simp) ?_
                  refine AllReadyH.cons rfl (fun K hK => ?_) AllReadyH.nil
                  simp only [List.getElem_toArray, List.getElem_cons_zero, List.getElem_cons_succ]
                  rw [if_pos (by rfl)]
                  refine wp_store_row 149 _ _ rfl m (TL 12 (row12 (fun _ => Nim.lead G i n) 0)).toArray rfl rfl _ _ N0 (by kernel_rfl) rfl (TL_one _ _) ?_
                  have N1 : RB (World.setRow _ m (TL 12 (row12 (fun _ => Nim.lead G i n) 0)).toArray) m 149 12 (row12 (fun _ => Nim.lead G i n) 0) := N0.setRow _
                  refine hK.out _ _ ⟨hS.1.setRow_other (by omega) _, hS.2.1.setRow_other (by omega) _, Lib.hid (Below.setRow hS.2.2.out (by omega) _)⟩ (fun hS => ?_)
                  clear hK
                  refine wpAnyH_done (by kernel_rfl) ?_ _
                  refine ⟨rfl, m, ?_, hS, N1⟩
                  rfl
              · simp only [List.getElem_toArray, List.getElem_cons_zero, List.getElem_cons_succ]
                go_simp
                rw [zero12]
                obtain ⟨m, hm⟩ : ∃ m, m = wv0.heap.size := ⟨_, rfl⟩
                have N0 : RB (wv0.alloc (.cells (TL 12 fun _ => 0).toArray 149)) m 149 12 (fun _ => 0) := by rw [hm]; exact heap_alloc_last _ _
                have mlt : g + 1 < m := by rw [hm]; exact hS.2.1.lt
                rw [← hm]
                refine hK.out _ _ ⟨hS.1.alloc _, hS.2.1.alloc _, Lib.hid (hS.2.2.out.alloc (by omega) _)⟩ (fun hS => ?_)
                clear hK
                generalize wv0.alloc (.cells (TL 12 fun _ => 0).toArray 149) = wv0 at N0 hS ⊢
                clear hm
                refine wpAnyH_ready (rs := [4]) (by kernel_rfl) (by simp) ?_
                refine AllReadyH.cons rfl (fun K hK => ?_) AllReadyH.nil
                simp only [List.getElem_toArray, List.getElem_cons_zero, List.getElem_cons_succ]
                go_simp
                refine (inv_eq (row12 G i n) (row12_b HGB.out i n).1 (row12_b HGB.out i n).2 _).mono ?_
                rintro e wv1 ⟨rfl, rfl⟩
                refine hK.out _ _ hS (fun hS => ?_)
                clear hK
                refine wpAnyH_ready (rs := [5]) (by kernel_rfl) (by simp) ?_
                refine AllReadyH.cons rfl (fun K hK => ?_) AllReadyH.nil
                simp only [List.getElem_toArray, List.getElem_cons_zero, List.getElem_cons_succ]
                go_simp
                refine (scaledT_any (row12 G i) (row12_b HGB.out i) (invI (row12 G i n)) (by rw [invI_row]; omega) (by have := Nim.inv_b (HGB.out i n); rw [invI_row]; omega) _).mono ?_
                rintro e wv2 ⟨rfl, hn⟩
                rw [lead_TL]
                replace N0 := N0.below hn N0.lt
                refine hK.out _ _ ⟨hS.1.below hn hS.1.lt, hS.2.1.below hn hS.2.1.lt, Lib.hid (bnext hS.2.2.out hn (Nat.le_of_lt hS.1.lt))⟩ (fun hS => ?_)
                clear hK hn
                refine wpAnyH_ready (rs := [7]) (by kernel_rfl) (by simp) ?_
                refine AllReadyH.cons rfl (fun K hK => ?_) AllReadyH.nil
                simp only [List.getElem_toArray, List.getElem_cons_zero, List.getElem_cons_succ]
                rw [if_pos (by rfl)]
                refine wp_store_row 149 _ _ rfl m (TL 12 (row12 (fun _ => Nim.lead G i n) 0)).toArray rfl rfl _ _ N0 (by kernel_rfl) rfl (TL_one _ _) ?_
                have N1 : RB (World.setRow _ m (TL 12 (row12 (fun _ => Nim.lead G i n) 0)).toArray) m 149 12 (row12 (fun _ => Nim.lead G i n) 0) := N0.setRow _
                refine hK.out _ _ ⟨hS.1.setRow_other (by omega) _, hS.2.1.setRow_other (by omega) _, Lib.hid (Below.setRow hS.2.2.out (by omega) _)⟩ (fun hS => ?_)
                clear hK
                refine wpAnyH_done (by kernel_rfl) ?_ _
                refine ⟨rfl, m, ?_, hS, N1⟩
                rfl
            rintro n7 wb ⟨⟨h1, h2, hb⟩, h7⟩
            have hgm : g + 1 < n7 ∨ n7 < g ∨ n7 = g ∨ n7 = g + 1 := by omega
            have n7g : n7 ≠ g := by
              intro e
              rw [e] at h7
              have hh := h1.symm.trans h7
              simp only [Option.some.injEq, Obj.cells.injEq] at hh
              have := congrArg List.length (congrArg Array.toList hh.1)
              simp [TL_len] at this
            clear H1 H2 hgm
            replace hb := hb.out
            have ti : t < 6 := by omega
            have t1' : (t : Int) < 6 := by omega
            have r1 : wb.rangeAt g (t * 12) (TL 12 (row12 G t)) := un12_row G t ▸ RB.sub h1 (t * 12) 12 (by omega)
            have q1 := h1.there (i * 12) 12 (by omega)
            go_upto_region 12 with (first | (guard_target =~ wpList _ _ _ (⟨_, Op.load 149 _, _, _, _, _⟩ :: _) _ _; refine wpList_load_mid rfl 149 _ rfl g _ rfl (TL 12 (row12 G t)) _ r1 Try.underlying149 rfl (by kernel_rfl) ?_) | (guard_target =~ wpList _ _ _ (⟨_, Op.store 149 _ _, _, _, _, _⟩ :: _) _ _; refine wpList_store_mid rfl 149 _ _ rfl g _ (TL 12 (row12 G t)).toArray rfl rfl (by rw [List.size_toArray, TL_len]; exact q1) (by kernel_rfl) (TL_one _ _) ?_))
            replace h1 := (RB.puts 12 (i * 12) (row12 G t) _ _ h1 (by omega)).ext (all_other G t i hli)
            replace h2 := h2.setCells_other (b := g) (o := i * 12) (by omega) (TL 12 (row12 G t))
            replace h7 := h7.setCells_other (b := g) (o := i * 12) (Ne.symm n7g) (TL 12 (row12 G t))
            replace hb := Below.setCells (Nat.le_refl g) (TL 12 (row12 G t)) (i * 12) _ hb
            generalize World.setCells wb g (i * 12) (TL 12 (row12 G t)) = wc at h1 h2 h7 hb ⊢
            clear r1 q1
            go_wp2_with (first | (guard_target =~ wpList _ _ _ (⟨_, Op.load 150 _, _, _, _, _⟩ :: _) _ _; refine wpList_load_row rfl 150 _ rfl g rfl _ (TL 72 (un12 (Nim.other G t i))).toArray (0, 0) (.array 6 149) h1 (by kernel_rfl) rfl (by kernel_rfl) ?_))
            go_loopw [38] (fun p wr => ∃ (j : Nat), p = .int .i64 j ∧ j ≤ 6 ∧ RB wr g 150 72 (mix (j * 12) (un12 (allF G t i n)) (un12 (Nim.other G t i))) ∧ RB wr (g + 1) 150 72 (fun _ => 0) ∧ RB wr n7 149 12 (row12 (fun _ => Nim.lead G i n) 0) ∧ Hid (Below g w wr)) (fun p _ => (6 - intOf p).toNat)
            case atStart => exact ⟨0, rfl, by omega, h1.ext (fun s _ => by rw [Nat.zero_mul, mix_zero]), h2, h7, Lib.hid hb⟩
            case round =>
              clear h1 h2 h7 hb
              obtain ⟨j, rfl, hj, h1, h2, h7, hb⟩ := hrel
              by_cases hlj : j < 6
              · have T4 : decide ((j : Int) < 6) = true := by simp; omega
                have j1 : (j : Int) < 6 := by omega
                go_upto_region 15 with (first | (guard_target =~ wpList _ _ _ (⟨_, Op.index 150 _ _, _, _, _, _⟩ :: _) _ _; refine wpList_index_struct rfl 150 _ _ rfl (un12 (Nim.other G t i)) j rfl rfl hlj (r := 149) (by kernel_rfl) Try.underlying149 (by kernel_rfl) ?_) | (guard_target =~ wpList _ _ _ (⟨_, Op.store 149 _ _, _, _, _, _⟩ :: _) _ _; refine wpList_store_fresh (cells := (TL 12 fun k => un12 (Nim.other G t i) (j * 12 + k)).toArray) rfl 149 _ _ rfl rfl rfl (by kernel_rfl) rfl (TL_one _ _) ?_))
                have d1 := h1.alloc (.cells (TL 12 fun k => un12 (Nim.other G t i) (j * 12 + k)).toArray 149)
                have d2 := h2.alloc (.cells (TL 12 fun k => un12 (Nim.other G t i) (j * 12 + k)).toArray 149)
                have d7 := h7.alloc (.cells (TL 12 fun k => un12 (Nim.other G t i) (j * 12 + k)).toArray 149)
                have d9 : RB (World.alloc _ (.cells (TL 12 fun k => un12 (Nim.other G t i) (j * 12 + k)).toArray 149)) _ 149 12 (row12 (Nim.other G t i) j) := RB.ext (heap_alloc_last wr (.cells (TL 12 fun k => un12 (Nim.other G t i) (j * 12 + k)).toArray 149)) (fun k hk => un12_at _ j k hk)
                have d4 := hb.out.alloc (show g ≤ wr.heap.size by have := h2.lt; omega) (.cells (TL 12 fun k => un12 (Nim.other G t i) (j * 12 + k)).toArray 149)
                have n9g : g < wr.heap.size := h1.lt
                obtain ⟨n9, hn9⟩ : ∃ n9, n9 = wr.heap.size := ⟨_, rfl⟩
                rw [← hn9] at d9 n9g ⊢
                generalize World.alloc wr (.cells (TL 12 fun k => un12 (Nim.other G t i) (j * 12 + k)).toArray 149) = wd at d1 d2 d7 d9 d4 ⊢
                clear h1 h2 h7 hb hn9
                have HOB := Lib.hid (Nim.other_b HGB.out t i)
                have HLB := Lib.hid (show VW (row12 (fun _ => Nim.lead G i n) 0) from fun k => by have := Nim.lead_b HGB.out i n k; show 0 ≤ ((Nim.lead G i n k : Nat) : Int) ∧ ((Nim.lead G i n k : Nat) : Int) < 65536; omega)
                have D1 := Lib.hid d1
                have D2 := Lib.hid d2
                have D4 := Lib.hid d4
                have D7 := Lib.hid d7
                have D9 := Lib.hid d9
                clear d1 d2 d4 d7 d9
                refine region_post (A := ?A15) (fun _ u => RB u g 150 72 (mix ((j + 1) * 12) (un12 (allF G t i n)) (un12 (Nim.other G t i))) ∧ RB u (g + 1) 150 72 (fun _ => 0) ∧ RB u n7 149 12 (row12 (fun _ => Nim.lead G i n) 0) ∧ Hid (Below g w u)) ?_ ?_
                rotate_left
                · refine wp_region_held_drew (S := (fun v => RB v n7 149 12 (row12 (fun _ => Nim.lead G i n) 0) ∧ RB v n9 149 12 (row12 (Nim.other G t i) j))) (by kernel_rfl) ?hS15 (fun hS => ?_)
                  case hS15 => exact ⟨D7.out, D9.out⟩
                  change wpAnyH _ _ _ _ _ _ _ _ wd.drew at *
                  replace D1 : Hid (RB wd.drew g 150 72 (mix (j * 12) (un12 (allF G t i n)) (un12 (Nim.other G t i)))) := D1
                  replace D2 : Hid (RB wd.drew (g + 1) 150 72 (fun _ => 0)) := D2
                  replace D4 := Lib.hid D4.out.drew
                  generalize wd.drew = we at D1 D2 D4 hS ⊢
                  refine takeH (i := 0) (v := ?v0b) rfl rfl (by kernel_rfl) (by kernel_rfl) (by kernel_rfl) (fun _ _ _ h => by cases h.1) rfl ?hy0b hS ?rs0b
                  case hy0b => (intro wq hq; go_simp; try (with_reducible rfl))
                  simp only [Act.put, List.setIfInBounds_toArray, List.set_cons_zero, List.set_cons_succ]
                  refine takeH (i := 1) (v := .agg (TL 12 (row12 (Nim.other G t i) j)).toArray) rfl rfl (by kernel_rfl) (by kernel_rfl) (by kernel_rfl) (fun _ _ _ h => by cases h.1) rfl ?hy1b hS ?rs1b
                  case hy1b => exact fun wq hq => exec_load_mid 149 _ rfl n9 0 rfl (TL 12 (row12 (Nim.other G t i) j)) _ (RB.range hq.2) Try.underlying149 (by kernel_rfl) (by kernel_rfl)
                  simp only [Act.put, List.setIfInBounds_toArray, List.set_cons_zero, List.set_cons_succ]
                  refine takeH (i := 2) (v := .agg (TL 12 (row12 (fun _ => Nim.lead G i n) 0)).toArray) rfl rfl (by kernel_rfl) (by kernel_rfl) (by kernel_rfl) (fun _ _ _ h => by cases h.1) rfl ?hy2b hS ?rs2b
                  case hy2b => exact fun wq hq => exec_load_mid 149 _ rfl n7 0 rfl (TL 12 (row12 (fun _ => Nim.lead G i n) 0)) _ (RB.range hq.1) Try.underlying149 (by kernel_rfl) (by kernel_rfl)
                  simp only [Act.put, List.setIfInBounds_toArray, List.set_cons_zero, List.set_cons_succ]
                  refine takeH (i := 3) (v := ?v3b) rfl rfl (by kernel_rfl) (by kernel_rfl) (by kernel_rfl) (fun _ _ _ h => by cases h.1) rfl ?hy3b hS ?rs3b
                  case hy3b => (intro wq hq; go_simp; try (with_reducible rfl))
                  simp only [Act.put, List.setIfInBounds_toArray, List.set_cons_zero, List.set_cons_succ]
                  refine takeH (i := 4) (v := ?v4b) rfl rfl (by kernel_rfl) (by kernel_rfl) (by kernel_rfl) (fun _ _ _ h => by cases h.1) rfl ?hy4b hS ?rs4b
                  case hy4b => (intro wq hq; go_simp; try (with_reducible rfl))
                  simp only [Act.put, List.setIfInBounds_toArray, List.set_cons_zero, List.set_cons_succ]
                  refine takeH (i := 5) (v := ?v5b) rfl rfl (by kernel_rfl) (by kernel_rfl) (by kernel_rfl) (fun _ _ _ h => by cases h.1) rfl ?hy5b hS ?rs5b
                  case hy5b => (intro wq hq; go_simp; try (with_reducible rfl))
                  simp only [Act.put, List.setIfInBounds_toArray, List.set_cons_zero, List.set_cons_succ]
                  refine takeH (i := 6) (v := ?v6b) rfl rfl (by kernel_rfl) (by kernel_rfl) (by kernel_rfl) (fun _ _ _ h => by cases h.1) rfl ?hy6b hS ?rs6b
                  case hy6b => (intro wq hq; have q1 := RB.cell hq.2 n (by omega); clear hq; go_simp; try (with_reducible rfl))
                  simp only [Act.put, List.setIfInBounds_toArray, List.set_cons_zero, List.set_cons_succ]
                  refine wpAnyH_ready (rs := [7]) (by kernel_rfl) (by simp) ?_
                  refine AllReadyH.cons rfl (fun K hK => ?_) AllReadyH.nil
                  simp only [List.getElem_toArray, List.getElem_cons_zero, List.getElem_cons_succ]
                  go_simp
                  refine (scaledT_any (row12 (fun _ => Nim.lead G i n) 0) HLB.out (row12 (Nim.other G t i) j n) (by unfold row12; omega) (by have := HOB.out j n; unfold row12; omega) _).mono ?_
                  rintro e wf ⟨rfl, hn⟩
                  replace D4 := Lib.hid (bnext D4.out hn (Nat.le_of_lt D1.out.lt))
                  replace D1 := Lib.hid (D1.out.below hn D1.out.lt)
                  replace D2 := Lib.hid (D2.out.below hn D2.out.lt)
                  refine hK.out _ _ ⟨hS.1.below hn hS.1.lt, hS.2.below hn hS.2.lt⟩ (fun hS => ?_)
                  clear hK
                  clear hn
                  refine wpAnyH_ready (rs := [8]) (by kernel_rfl) (by simp) ?_
                  refine AllReadyH.cons rfl (fun K hK => ?_) AllReadyH.nil
                  simp only [List.getElem_toArray, List.getElem_cons_zero, List.getElem_cons_succ]
                  go_simp
                  refine (plusT_any (row12 (Nim.other G t i) j) (fun k => mulI ((row12 (fun _ => Nim.lead G i n) 0) k) (row12 (Nim.other G t i) j n)) (row12_b HOB.out j) (fun k => mulI_b (HLB.out k).1 (HLB.out k).2 (row12_b HOB.out j n).1 (row12_b HOB.out j n).2) _).mono ?_
                  rintro e wh ⟨rfl, hn⟩
                  replace D4 := Lib.hid (bnext D4.out hn (Nat.le_of_lt D1.out.lt))
                  replace D1 := Lib.hid (D1.out.below hn D1.out.lt)
                  replace D2 := Lib.hid (D2.out.below hn D2.out.lt)
                  refine hK.out _ _ ⟨hS.1.below hn hS.1.lt, hS.2.below hn hS.2.lt⟩ (fun hS => ?_)
                  clear hK
                  clear hn
                  have q1 := D1.out.there (j * 12) 12 (by omega)
                  refine takeH (i := 9) (v := ?v9b) rfl rfl (by kernel_rfl) (by kernel_rfl) (by kernel_rfl) (fun _ _ _ h => by cases h.1) rfl ?hy9b hS ?rs9b
                  case hy9b => (intro wq hq; go_simp; try (with_reducible rfl))
                  simp only [Act.put, List.setIfInBounds_toArray, List.set_cons_zero, List.set_cons_succ]
                  refine wpAnyH_ready (rs := [10]) (by kernel_rfl) (by simp) ?_
                  refine AllReadyH.cons rfl (fun K hK => ?_) AllReadyH.nil
                  simp only [List.getElem_toArray, List.getElem_cons_zero, List.getElem_cons_succ]
                  rw [if_pos (by rfl)]
                  refine wp_store_mid0 149 _ _ rfl rfl g _ (TL 12 fun k => xorI (row12 (Nim.other G t i) j k) (mulI ((row12 (fun _ => Nim.lead G i n) 0) k) (row12 (Nim.other G t i) j n))) rfl rfl (by rw [TL_len]; exact q1) (by kernel_rfl) (TL_one _ _) ?_
                  refine hK.out _ _ ⟨hS.1.setCells_other (Ne.symm n7g) _, hS.2.setCells_other (by omega) _⟩ (fun hS => ?_)
                  clear hK
                  refine wpAnyH_done (by kernel_rfl) ?_ _
                  have e1 := RB.puts 12 (j * 12) (fun k => xorI (row12 (Nim.other G t i) j k) (mulI ((row12 (fun _ => Nim.lead G i n) 0) k) (row12 (Nim.other G t i) j n))) _ _ D1.out (by omega)
                  have e2 := D2.out.setCells_other (b := g) (o := j * 12) (by omega) (TL 12 fun k => xorI (row12 (Nim.other G t i) j k) (mulI ((row12 (fun _ => Nim.lead G i n) 0) k) (row12 (Nim.other G t i) j n)))
                  have e4 := Below.setCells (Nat.le_refl g) (TL 12 fun k => xorI (row12 (Nim.other G t i) j k) (mulI ((row12 (fun _ => Nim.lead G i n) 0) k) (row12 (Nim.other G t i) j n))) (j * 12) _ D4.out
                  have e7 := hS.1
                  generalize World.setCells _ g (j * 12) _ = wk at e1 e2 e4 e7 ⊢
                  clear D1 D2 D4 hS q1
                  obtain ⟨q0, _⟩ : ∃ q : Nat, q = 0 := ⟨0, rfl⟩
                  refine ⟨rfl, q0, ?_, e1.ext (fun s _ => (congrFun (mix_row (j * 12) 12 (un12 (allF G t i n)) (un12 (Nim.other G t i)) _ (fun k hk => all_eq G t i n j k hk)) s).trans (by rw [show (j + 1) * 12 = j * 12 + 12 from by omega])), e2, e7, Lib.hid e4⟩
                  rfl
                rintro n9' wk ⟨e1, e2, e7, e4⟩
                go_wp2_with fail
                exact ⟨⟨j + 1, rfl, by omega, e1, e2, e7, e4⟩, by simp [intOf]; omega⟩
              · obtain rfl : j = 6 := by omega
                have T4 : decide (((6 : Nat) : Int) < 6) = false := by simp
                have h1' := h1.ext (f' := un12 (allF G t i n)) (fun s hs => by rw [mix_new _ _ hs])
                have q1 := h1'.there (t * 12) 12 (by omega)
                clear h1
                go_upto_region 18 with (first | (guard_target =~ wpList _ _ _ (⟨_, Op.load 149 _, _, _, _, _⟩ :: _) _ _; refine wpList_load_row rfl 149 _ rfl n7 rfl _ (TL 12 (row12 (fun _ => Nim.lead G i n) 0)).toArray (0, 0) _ h7 Try.underlying149 rfl (by kernel_rfl) ?_) | (guard_target =~ wpList _ _ _ (⟨_, Op.store 149 _ _, _, _, _, _⟩ :: _) _ _; refine wpList_store_mid rfl 149 _ _ rfl g _ (TL 12 (row12 (fun _ => Nim.lead G i n) 0)).toArray rfl rfl (by rw [List.size_toArray, TL_len]; exact q1) (by kernel_rfl) (TL_one _ _) ?_))
                have e1 := (RB.puts 12 (t * 12) (row12 (fun _ => Nim.lead G i n) 0) _ _ h1' (by omega)).ext (all_elim G t i n ti)
                have e2 := h2.setCells_other (b := g) (o := t * 12) (by omega) (TL 12 (row12 (fun _ => Nim.lead G i n) 0))
                have e4 := Below.setCells (Nat.le_refl g) (TL 12 (row12 (fun _ => Nim.lead G i n) 0)) (t * 12) _ hb.out
                generalize World.setCells _ g (t * 12) (TL 12 (row12 (fun _ => Nim.lead G i n) 0)) = wk at e1 e2 e4 ⊢
                clear h1' h2 h7 hb q1
                go_wp2_with fail
                refine ⟨⟨n + 1, rfl, by omega, ?_, ?_, e2, Lib.hid e4⟩, by simp [intOf]; omega⟩
                · rw [← HE.out, HY.out]
                  show Value.int .i64 ((t : Int) + 1) = Value.int .i64 (((fs ++ [n]).length : Nat) : Int)
                  rw [List.length_append, ← HT.out]; rfl
                · rw [← HE.out, HY.out]; exact e1
        · obtain rfl : i = 6 := by omega
          have T2 : decide (((6 : Nat) : Int) < 6) = false := by simp
          have hN : E = (G, fs) := by
            rw [hst.out, hp.out, if_neg (by simp [Nim.pivotFrom])]
          have HN := Lib.hid hN
          clear hN
          go_wp2_with fail
          refine ⟨⟨n + 1, rfl, by omega, ?_, ?_, h2, hb⟩, by simp [intOf]; omega⟩
          · rw [← HE.out, HN.out, ← HT.out]
          · rw [← HE.out, HN.out]; exact h1
    · obtain rfl : n = 6 := by omega
      have T1 : decide (((6 : Nat) : Int) < 6) = false := by simp
      rw [← HRES.out] at h1
      have HB := hb.out
      go_wp2_with (first | (guard_target =~ wpList _ _ _ (⟨_, Op.load 150 _, _, _, _, _⟩ :: _) _ _; refine wpList_load_row rfl 150 _ rfl g rfl _ (TL 72 (un12 RES)).toArray (0, 0) (.array 6 149) h1 (by kernel_rfl) rfl (by kernel_rfl) ?_) | (guard_target =~ wpList _ _ _ (⟨_, Op.store 150 _ _, _, _, _, _⟩ :: _) _ _; refine wpList_store_row rfl 150 _ _ rfl (g + 1) (TL 72 (un12 RES)).toArray rfl rfl _ _ h2 (by kernel_rfl) rfl (TL_one _ _) ?_))
      try rw [Exit.noGoto_ret]
      refine bodyPost_ret (v := .agg (TL 72 (un12 RES)).toArray) ?_ rfl ⟨rfl, by obtain rfl := HG.out; exact Below.setRow HB (by omega) _⟩
      exact results_cell_row rfl _ _ (g + 1) _ _ (0, 0) (.array 6 149) rfl (h2.setRow _) (by kernel_rfl) rfl (by kernel_rfl)
end Go.Proofs.Ytjbaeomjinnlhaa
