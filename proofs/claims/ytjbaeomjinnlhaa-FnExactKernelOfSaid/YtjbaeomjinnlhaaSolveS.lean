/-
  The model solves.
-/
import Derived.Test.YtjbaeomjinnlhaaOk2
import Derived.Deep.RegionHeld
import Derived.Test.YtjbaeomjinnlhaaSolve
import Derived.Test.YtjbaeomjinnlhaaVec
namespace Go.Proofs.Ytjbaeomjinnlhaa
set_option linter.unusedVariables false
set_option linter.unusedSimpArgs false
open Go.ChangeShapes Go.WideShapes Go.ChangeAt Go.RowKit

/-- the vector while rows are added -/
def adV (U : Nat → Int) (f : Nat → Int) (t n j : Nat) : Nat → Int := fun r => if r < j ∧ r ≠ t then xorI (U r) (mulI (U t) (f (r * 6 + n))) else U r
theorem adV_zero (U f : Nat → Int) (t n : Nat) : adV U f t n 0 = U := by funext r; unfold adV; rw [if_neg (by omega)]
theorem adV_same (U f : Nat → Int) (n j : Nat) : adV U f j n (j + 1) = adV U f j n j := by
  funext r; unfold adV
  by_cases h : r < j ∧ r ≠ j
  · rw [if_pos h, if_pos (by omega)]
  · rw [if_neg h, if_neg (by omega)]
theorem adV_at (U f : Nat → Int) (t n j : Nat) : adV U f t n j j = U j := by unfold adV; rw [if_neg (by omega)]
theorem adV_top (U f : Nat → Int) (t n j : Nat) : adV U f t n j t = U t := by unfold adV; rw [if_neg (by omega)]
theorem adV_step (U f : Nat → Int) (t n j : Nat) (h : j ≠ t) : upd (adV U f t n j) j (xorI (U j) (mulI (U t) (f (j * 6 + n)))) = adV U f t n (j + 1) := by
  funext r; unfold upd adV
  by_cases e : r = j
  · rw [if_pos e, if_pos (by omega), e]
  · rw [if_neg e]
    by_cases h2 : r < j ∧ r ≠ t
    · rw [if_pos h2, if_pos (by omega)]
    · rw [if_neg h2, if_neg (by omega)]

theorem solN_succ (F : Nat → Nat → Nat) (u : Nat → Int) (n : Nat) : solN F u (n + 1) = if Nim.pivotFrom (Nim.redN F n).1 n (6 - (Nim.redN F n).2.length) (Nim.redN F n).2.length < 6 then elV (solN F u n) (Nim.redN F n).1 (Nim.redN F n).2.length (Nim.pivotFrom (Nim.redN F n).1 n (6 - (Nim.redN F n).2.length) (Nim.redN F n).2.length) n else solN F u n := rfl
theorem adV_elim {G : Nat → Nat → Nat} (hG : Nim.GB G) {U : Nat → Int} (hU : VW U) {R C t i n : Nat} (ht : t < 6) (hti : t ≤ i) (hiR : i < R) (hR : R ≤ 6) (hn : n < C) (hC : C ≤ 6) (hzr : Nim.ZR R G) :
    ∀ s, s < 6 → adV (upd (upd U i (U t)) t (mulI (U i) (invI (swapF (un6 G) t i (t * 6 + n))))) (scF (swapF (un6 G) t i) t (invI (swapF (un6 G) t i (t * 6 + n))) C) t n R s = elV U G t i n s := fun s hs => by
  have sw : ∀ r k, r < 6 → k < 6 → swapF (un6 G) t i (r * 6 + k) = if r = t then ((G i k : Nat) : Int) else ((Nim.other G t i r k : Nat) : Int) := fun r k hr hk => by
    unfold swapF
    rw [show (r * 6 + k) / 6 = r from by omega, show (r * 6 + k) % 6 = k from by omega]
    by_cases h1 : r = i
    · rw [if_pos h1, un6_at G t k hk]
      by_cases h2 : r = t
      · rw [if_pos h2, ← h2, h1]
      · rw [if_neg h2]; unfold Nim.other; rw [if_pos h1]
    · rw [if_neg h1]
      by_cases h2 : r = t
      · rw [if_pos h2, if_pos h2, un6_at G i k hk]
      · rw [if_neg h2, if_neg h2, un6_at G r k hk]; unfold Nim.other; rw [if_neg h1]
  have hinv : swapF (un6 G) t i (t * 6 + n) = ((G i n : Nat) : Int) := by rw [sw t n ht (by omega), if_pos rfl]
  rw [hinv]
  have u1 : upd (upd U i (U t)) t (mulI (U i) (invI ((G i n : Nat) : Int))) t = mulI (U i) (invI ((G i n : Nat) : Int)) := by unfold upd; rw [if_pos rfl]
  unfold adV elV
  rw [u1]
  by_cases h1 : s = t
  · rw [if_neg (by omega), if_pos h1, h1, u1]
  · rw [if_neg h1]
    have u2 : upd (upd U i (U t)) t (mulI (U i) (invI ((G i n : Nat) : Int))) s = if s = i then U t else U s := by unfold upd; rw [if_neg h1]
    rw [u2]
    by_cases h2 : s < R
    · rw [if_pos ⟨h2, h1⟩]
      have f2 : scF (swapF (un6 G) t i) t (invI ((G i n : Nat) : Int)) C (s * 6 + n) = ((Nim.other G t i s n : Nat) : Int) := by
        unfold scF; rw [if_neg (by omega), sw s n hs (by omega), if_neg h1]
      rw [f2]
    · rw [if_neg (by omega), if_neg (by omega)]
      have h5 : Nim.other G t i s n = 0 := by unfold Nim.other; rw [if_neg (by omega)]; exact hzr s n (by omega) hs (by omega)
      rw [h5]
      have h6 : ∀ a : Int, mulI a ((0 : Nat) : Int) = 0 := fun a => by unfold mulI; rw [Int.toNat_natCast, Nim.mul_zero_right]; rfl
      rw [h6, xorI_zero (hU s).1]
def Oth (p : Nat) (w w' : World) : Prop := (∀ x, x ≠ p → x < w.heap.size → w'.heap[x]? = w.heap[x]?) ∧ w.heap.size ≤ w'.heap.size ∧ w'.os = w.os ∧ w'.tape = w.tape ∧ w'.output = w.output
theorem Oth.setCell (p o : Nat) (w : World) (v : Value) : Oth p w (w.setCell ⟨p, o, none⟩ v) := by
  have hb := (Below.refl 0 w).setCell (p := ⟨p, o, none⟩) (Nat.zero_le _) v
  exact ⟨fun x hx _ => heap_setCell_other _ _ _ _ (by simpa using hx), hb.size, hb.os, hb.tape, hb.output⟩
theorem RB.oth {w w' : World} {b n p : Nat} {t : TypeId} {f : Nat → Int} (h : RB w b t n f) (o : Oth p w w') (hb : b ≠ p) : RB w' b t n f := (o.1 b hb h.lt).trans h
theorem MB.oth {w w' : World} {b p : Nat} {t : TypeId} {r c : Int} {f : Nat → Int} (h : MB w b t r c f) (o : Oth p w w') (hb : b ≠ p) : MB w' b t r c f := (o.1 b hb h.lt).trans h
theorem below_oth {B p : Nat} {w a b : World} (h : Below B w a) (o : Oth p a b) (hp : B ≤ p) (hs : B ≤ a.heap.size) : Below B w b :=
  ⟨o.2.2.1.trans h.os, o.2.2.2.1.trans h.tape, o.2.2.2.2.trans h.output, Nat.le_trans h.size o.2.1, fun k hk => (o.1 k (by omega) (by omega)).trans (h.block k hk)⟩
/-- what stands beside the matrix and the vector -/
def KP (g : Nat) (w wr : World) (gb t cap : Nat) (fs : List Nat) : Prop :=
  RB wr (g + 1 + 1) 45 6 (fun _ => 0) ∧ RB wr (g + 1 + 1 + 1) 45 6 (fun _ => 0) ∧ wr.ownsRow (g + 1 + 1 + 1 + 1) 3 1 (.slice (some ⟨gb, 0, none⟩) t cap) t (ints fs) ∧ Below g w wr
theorem KP.oth {g gb t cap p : Nat} {w a b : World} {fs : List Nat} (h : KP g w a gb t cap fs) (o : Oth p a b) (hp : p = g ∨ p = g + 1) : KP g w b gb t cap fs :=
  ⟨h.1.oth o (by omega), h.2.1.oth o (by omega), own_keep h.2.2.1 (fun k h1 h2 => o.1 k (by omega) h2), below_oth h.2.2.2 o (by omega) (by have := h.1.lt; omega)⟩
theorem KP.drew {g gb t cap : Nat} {w a : World} {fs : List Nat} (h : KP g w a gb t cap fs) : KP g w a.drew gb t cap fs := ⟨h.1, h.2.1, h.2.2.1.drew, h.2.2.2.drew⟩
theorem upd_b {U : Nat → Int} (h : VW U) (k : Nat) {x : Int} (x0 : 0 ≤ x) (x1 : x < 65536) : VW (upd U k x) := fun s => by
  unfold upd
  split
  · exact ⟨x0, x1⟩
  · exact h s
theorem adV_b {U : Nat → Int} {f : Nat → Int} (hU : VW U) (hf : VW f) (t n j : Nat) : VW (adV U f t n j) := fun r => by
  unfold adV
  split
  · have := mulI_b (hU t).1 (hU t).2 (hf (r * 6 + n)).1 (hf (r * 6 + n)).2
    exact xorI_b (hU r).1 (hU r).2 this.1 this.2
  · exact hU r
theorem own_cell {w : World} {base gb t cap : Nat} {fs : List Nat} (h : w.ownsRow base 3 1 (.slice (some ⟨gb, 0, none⟩) t cap) t (ints fs)) (j : Nat) (hj : j < fs.length) : w.cell? ⟨gb, j, none⟩ = some (.int .i64 ((fs[j]! : Nat) : Int)) := by
  obtain ⟨h0, h1⟩ := h
  rcases h1 with ⟨h1, _⟩ | ⟨g2, cap2, cur, e, hb, hg, hn, hc, hs, hx⟩
  · cases h1
  · cases e
    rw [cell_of_row _ _ _ _ _ _ hg]
    have hl : fs.length = t := by rw [ints_len] at h0; omega
    have e2 : (cur.toList.take (t * 1))[j]? = cur.toList[j]? := by rw [List.getElem?_take]; rw [if_pos (by omega)]
    rw [hx] at e2
    rw [← Array.getElem?_toList, ← e2]
    unfold ints
    rw [List.getElem?_map, List.getElem?_eq_getElem hj]
    simp [hj]
/-- the solution that the model makes: its first n rows -/
def xS (fs : List Nat) (U : Nat → Int) : Nat → (Nat → Int)
  | 0 => fun _ => 0
  | n + 1 => if n < fs.length then upd (xS fs U n) fs[n]! (U n) else xS fs U n
theorem xS_yes (fs : List Nat) (U : Nat → Int) (n : Nat) (h : n < fs.length) : xS fs U (n + 1) = upd (xS fs U n) fs[n]! (U n) := by
  show (if n < fs.length then upd (xS fs U n) fs[n]! (U n) else xS fs U n) = _
  rw [if_pos h]
theorem xS_no (fs : List Nat) (U : Nat → Int) (n : Nat) (h : ¬ n < fs.length) : xS fs U (n + 1) = xS fs U n := by
  show (if n < fs.length then upd (xS fs U n) fs[n]! (U n) else xS fs U n) = _
  rw [if_neg h]
/-- what l02Solve answers -/
def SolveR (fs : List Nat) (U : Nat → Int) (R : Nat) (e : Ending) : Prop :=
  ((∀ i, fs.length ≤ i → i < R → U i = 0) ∧ e = .returned (.tuple #[VV (xS fs U R), .bool true])) ∨ ((∃ i, fs.length ≤ i ∧ i < R ∧ U i ≠ 0) ∧ e = .returned (.tuple #[VV fun _ => 0, .bool false]))
theorem redN_lt (F : Nat → Nat → Nat) : ∀ n, ∀ x ∈ (Nim.redN F n).2, x < n
  | 0, x, hx => by simp [Nim.redN] at hx
  | n + 1, x, hx => by
    rw [Nim.redN_step] at hx
    split at hx
    · rcases List.mem_append.1 hx with h | h
      · have := redN_lt F n x h; omega
      · simp at h; omega
    · have := redN_lt F n x hx; omega

set_option maxRecDepth 100000 in
set_option maxHeartbeats 8000000 in
theorem l02Solve_any (R C : Nat) (hR : R ≤ 6) (hC : C ≤ 6) (F : Nat → Nat → Nat) (hF : Nim.GB F) (hzr : Nim.ZR R F) (hzc : ∀ k, C ≤ k → k < 6 → Nim.ZC k F) (u : Nat → Int) (hu : VW u) (w : World) :
    Calls Try.prog 123 #[MV R C (un6 F), VV u] w fun e w' => SolveR (Nim.redN F C).2 (solN F u C) R e ∧ Below w.heap.size w w' := by
  obtain ⟨i0, hi, hz0, hz1, hz2⟩ := info_parts infoInt
  have n1 : (R : Int) ≤ 6 := by omega
  have n2 : (C : Int) ≤ 6 := by omega
  have HF := Lib.hid hF
  have HZR := Lib.hid hzr
  have HZC := Lib.hid hzc
  have HU := Lib.hid hu
  clear hF hzr hzc hu
  go_enter Try.func123, Try.ntmps123
  go_upto_region 1 with fail
  obtain ⟨a1, a2, a3, a4, a5⟩ := new3 w (.cells (CL R C (un6 F)).toArray 33) (.cells (TL 6 u).toArray 45) (.cells (TL 6 fun _ => 0).toArray 45)
  rw [zero6]
  obtain ⟨g, hg⟩ : ∃ g, g = w.heap.size := ⟨_, rfl⟩
  rw [← hg] at a1 a2 a3 a4 a5 ⊢
  generalize World.alloc (World.alloc (World.alloc w _) _) _ = w2 at a1 a2 a3 a4 a5 ⊢
  replace a1 : MB w2 g 33 R C (un6 F) := a1
  replace a2 : RB w2 (g + 1) 45 6 u := a2
  replace a3 : RB w2 (g + 1 + 1) 45 6 (fun _ => 0) := a3
  have HG := Lib.hid hg
  have A5 := Lib.hid a5
  clear hg a5
  go_upto_region 2 with (first | guard_target =~ wpList _ _ _ (⟨_, Op.build 45 _, _, _, _, _⟩ :: _) _ _; refine wpList_build0 rfl 45 rfl (TL 6 fun _ => 0).toArray (by kernel_rfl) ?_ | guard_target =~ wpList _ _ _ (⟨_, Op.store 45 _ _, _, _, _, _⟩ :: _) _ _; refine wpList_store_fresh (cells := (TL 6 fun _ => 0).toArray) rfl 45 _ _ rfl rfl rfl (by kernel_rfl) rfl (TL_one _ _) ?_)
  have b1 := a1.alloc (.cells (TL 6 fun _ => 0).toArray 45)
  have b2 := a2.alloc (.cells (TL 6 fun _ => 0).toArray 45)
  have b3 := a3.alloc (.cells (TL 6 fun _ => 0).toArray 45)
  have b5 : RB (w2.alloc (.cells (TL 6 fun _ => 0).toArray 45)) w2.heap.size 45 6 (fun _ => 0) := heap_alloc_last _ _
  have b4 := a4.alloc (show g ≤ w2.heap.size by have := a3.lt; omega) (.cells (TL 6 fun _ => 0).toArray 45)
  rw [A5.out] at b5
  rw [A5.out]
  generalize w2.alloc (.cells (TL 6 fun _ => 0).toArray 45) = w3 at b1 b2 b3 b4 b5 ⊢
  clear a1 a2 a3 a4 A5
  have l5 := b5.lt
  go_wp2_with fail
  go_loopw [8, 7] (fun y s wr => ∃ (n gb cap : Nat), y = .int .i64 n ∧ n ≤ C ∧ s = .slice (some ⟨gb, 0, none⟩) (Nim.redN F n).2.length cap ∧ MB wr g 33 R C (un6 (Nim.redN F n).1) ∧ RB wr (g + 1) 45 6 (solN F u n) ∧ Hid (KP g w wr gb (Nim.redN F n).2.length cap (Nim.redN F n).2)) (fun y _ _ => (6 - intOf y).toNat)
  case atStart => exact ⟨0, w3.heap.size, 0, rfl, by omega, rfl, b1.alloc _, b2.alloc _, Lib.hid ⟨b3.alloc _, b5.alloc _, ⟨rfl, .inr ⟨w3.heap.size, 0, #[], rfl, by omega, heap_alloc_new w3 _, Nat.le_refl _, by unfold maxLen; omega, rfl, rfl⟩⟩, b4.alloc (by omega) _⟩⟩
  case round =>
    clear b1 b2 b3 b4 b5 l5
    obtain ⟨n, gb, cap, rfl, hn, rfl, m1, m2, K⟩ := hrel
    have d2 := m1.cols
    by_cases hlt : n < C
    · have T1 : decide ((n : Int) < (C : Int)) = true := by simp; omega
      have hst := Lib.hid (Nim.redN_step F n)
      have hsv := Lib.hid (solN_succ F u n)
      have HGB := Lib.hid (Nim.redN_b HF.out n)
      have HZR1 := Lib.hid (HZR.out.redN HF.out n (by omega))
      have HZC1 := Lib.hid (fun k (h1 : C ≤ k) (h2 : k < 6) => (HZC.out k h1 h2).redN HF.out n (by omega))
      have HUB := Lib.hid (solN_b HF.out HU.out n)
      have hlen := HZR.out.len HF.out n (by omega)
      obtain ⟨E, hE⟩ : ∃ E, E = Nim.redN F (n + 1) := ⟨_, rfl⟩
      rw [← hE] at hst
      have HE := Lib.hid hE
      clear hE
      obtain ⟨W1, hW1⟩ : ∃ W1, W1 = solN F u (n + 1) := ⟨_, rfl⟩
      rw [← hW1] at hsv
      have HW1 := Lib.hid hW1
      clear hW1
      generalize solN F u n = U at hsv HUB m2
      generalize Nim.redN F n = rn at hst hsv HGB HZR1 HZC1 hlen K m1 ⊢
      obtain ⟨G, fs⟩ := rn
      replace m1 : MB wr g 33 R C (un6 G) := m1
      replace HGB : Hid (Nim.GB G) := HGB
      replace HZR1 : Hid (Nim.ZR R G) := HZR1
      replace HZC1 : Hid (∀ k, C ≤ k → k < 6 → Nim.ZC k G) := HZC1
      obtain ⟨t, ht⟩ : ∃ t, t = fs.length := ⟨_, rfl⟩
      replace hst := Lib.hid (show E = if Nim.pivotFrom G n (6 - t) t < 6 then (Nim.elim G t (Nim.pivotFrom G n (6 - t) t) n, fs ++ [n]) else (G, fs) by rw [ht]; exact hst.out)
      replace hsv := Lib.hid (show W1 = if Nim.pivotFrom G n (6 - t) t < 6 then elV U G t (Nim.pivotFrom G n (6 - t) t) n else U by rw [ht]; exact hsv.out)
      replace hlen : t ≤ R := by rw [ht]; exact hlen
      replace K : Hid (KP g w wr gb t cap fs) := by rw [ht]; exact K
      show Code.wp _ _ _ _ _
      rw [show (((G, fs) : (Nat → Nat → Nat) × List Nat).2.length) = t from ht.symm]
      have HT := Lib.hid ht
      clear ht
      go_wp2_with fail
      clear d2
      go_loopw [10] (fun y wr => ∃ (i : Nat), y = .int .i64 i ∧ t ≤ i ∧ i ≤ R ∧ Hid (Nim.pivotFrom G n (6 - t) t = Nim.pivotFrom G n (6 - i) i) ∧ MB wr g 33 R C (un6 G) ∧ RB wr (g + 1) 45 6 U ∧ Hid (KP g w wr gb t cap fs)) (fun y _ => (6 - intOf y).toNat)
      case atStart => exact ⟨t, rfl, Nat.le_refl t, hlen, Lib.hid rfl, m1, m2, K⟩
      case round =>
        clear K m1 m2
        obtain ⟨i, rfl, hti, hiR, hp', m1, m2, K⟩ := hrel
        have d1 := m1.rows
        by_cases hli : i < R
        · have T2 : decide ((i : Int) < (R : Int)) = true := by simp; omega
          have i1 : (i : Int) < 6 := by omega
          have k1 : (n : Int) < 6 := by omega
          have c1 := m1.cell2 i n (by omega) (by omega)
          have ev := un6_at G i n (by omega)
          by_cases h0 : G i n = 0
          · have T3 : (un6 G (i * 6 + n) == 0) = true := by rw [ev, h0]; rfl
            have H0 := Lib.hid h0
            clear h0 ev
            go_wp2_with fail
            exact ⟨⟨i + 1, rfl, by omega, by omega, Lib.hid (hp'.out.trans (Nim.pivot_step G n i (by omega) H0.out)), m1, m2, K⟩, by simp [intOf]; omega⟩
          · have T3 : (un6 G (i * 6 + n) == 0) = false := by rw [ev]; simp; omega
            have T4 : ((i : Int) == (R : Int)) = false := by simp; omega
            have hY : E = (Nim.elim G t i n, fs ++ [n]) := by
              rw [hst.out, hp'.out, Nim.pivot_here G n i (by omega) h0, if_pos (by omega)]
            have hX : W1 = elV U G t i n := by
              rw [hsv.out, hp'.out, Nim.pivot_here G n i (by omega) h0, if_pos (by omega)]
            have HY := Lib.hid hY
            have HX := Lib.hid hX
            clear h0 hY hX ev
            go_wp2_with fail
            refine (spec_l02Swap R C (un6 G) g t i (by omega) (by omega) _ m1).mono ?_
            rintro e wa ⟨rfl, b1, b3, b4, b5, b6, b7⟩
            have o : Oth g wr wa := ⟨b3, b4, b5, b6, b7⟩
            replace m2 := m2.oth o (by omega)
            replace K := Lib.hid (K.out.oth o (.inl rfl))
            obtain ⟨f1, hf1⟩ : ∃ f1, f1 = swapF (un6 G) t i := ⟨_, rfl⟩
            rw [← hf1] at b1
            have V1 := Lib.hid (show VW f1 by rw [hf1]; exact swapF_b (un6_b HGB.out) t i)
            have Hf1 := Lib.hid hf1
            have t6 : t < 6 := by omega
            have n6 : n < 6 := by omega
            have i6 : i < 6 := by omega
            have t1 : (t : Int) < 6 := by omega
            clear hf1 b3 b4 b5 b6 b7 m1 c1 d1 o
            have q1 := m2.cell i i6
            have q2 := m2.cell t t6
            have q3 := m2.free i
            go_upto_region 14 with fail
            have e1 := b1.other (b := g + 1) (o := i) (by omega) (.int .u16 (U t))
            have e2 := m2.put i i6 (U t)
            have e3 := K.out.oth (Oth.setCell (g + 1) i wa (.int .u16 (U t))) (.inr rfl)
            generalize World.setCell wa _ _ = wb at e1 e2 e3 ⊢
            clear b1 m2 K q1 q2 q3
            have c1 := e1.cell2 t n t6 n6
            go_wp2_with fail
            refine (linv_eq (f1 (t * 6 + n)) (V1.out _).1 (V1.out _).2 _).mono ?_
            rintro e wc ⟨rfl, rfl⟩
            obtain ⟨y, hy⟩ : ∃ y, y = invI (f1 (t * 6 + n)) := ⟨_, rfl⟩
            rw [← hy]
            have y0 : 0 ≤ y := by rw [hy]; unfold invI; omega
            have y1 : y < 65536 := by
              rw [hy]
              have := Nim.inv_b (a := (f1 (t * 6 + n)).toNat) (by have := V1.out (t * 6 + n); omega)
              unfold invI; omega
            have Hy := Lib.hid hy
            clear hy c1
            have ub := HUB.out i
            have q3 := e2.free t
            have q4 := e2.cell t t6
            go_wp2_with fail
            refine (ltimes_eq (U i) y ub.1 ub.2 y0 y1 _).mono ?_
            rintro e wd ⟨rfl, rfl⟩
            go_upto_region 16 with fail
            have p1 := e1.other (b := g + 1) (o := t) (by omega) (.int .u16 (mulI (U i) y))
            have p2 := e2.put t t6 (mulI (U i) y)
            have p3 := e3.oth (Oth.setCell (g + 1) t _ (.int .u16 (mulI (U i) y))) (.inr rfl)
            generalize World.setCell _ _ _ = we at p1 p2 p3 ⊢
            clear e1 e2 e3 q3 q4
            have bm := mulI_b ub.1 ub.2 y0 y1
            obtain ⟨U1, hU1⟩ : ∃ U1, U1 = upd (upd U i (U t)) t (mulI (U i) y) := ⟨_, rfl⟩
            rw [← hU1] at p2
            have HU1B := Lib.hid (show VW U1 by rw [hU1]; exact upd_b (upd_b HUB.out i (HUB.out t).1 (HUB.out t).2) t bm.1 bm.2)
            have HU1 := Lib.hid hU1
            have P3 := Lib.hid p3
            clear hU1 ub bm p3
            go_wp2_with fail
            go_loopw [13] (fun q wr => ∃ (k : Nat), q = .int .i64 k ∧ k ≤ C ∧ MB wr g 33 R C (scF f1 t y k) ∧ RB wr (g + 1) 45 6 U1 ∧ Hid (KP g w wr gb t cap fs)) (fun q _ => (6 - intOf q).toNat)
            case atStart => exact ⟨0, rfl, by omega, p1.ext (fun s _ => by rw [scF_zero]), p2, P3⟩
            case round =>
              clear p1 p2 P3
              obtain ⟨k, rfl, hk, m1, m2, K⟩ := hrel
              have d2 := m1.cols
              by_cases hlk : k < C
              · have T5 : decide ((k : Int) < (C : Int)) = true := by simp; omega
                have k6 : k < 6 := by omega
                have k2 : (k : Int) < 6 := by omega
                have q1 := m1.cell2 t k t6 k6
                rw [scF_at f1 t y k k6] at q1
                have q3 := m1.free (2 + t * 6 + k)
                have bb := V1.out (t * 6 + k)
                have M1 := Lib.hid m1
                have M2 := Lib.hid m2
                clear m1 m2
                go_wp2_with fail
                refine wp_region_still_tail 13 (by kernel_rfl) (by kernel_rfl) ?_
                simp only [List.take_succ_cons, List.take_zero, List.drop_succ_cons, List.drop_zero]
                iterate 9 still_step
                still_call (ltimes_eq (f1 (t * 6 + k)) y bb.1 bb.2 y0 y1 _)
                iterate 3 still_step
                refine wpStill_nil ?_
                change wpList _ _ _ _ _ (World.drew _)
                go_wp2_with fail
                exact ⟨⟨k + 1, rfl, by omega, (M1.out.put2 t k t6 k6 _).ext (scF_step f1 t y k k6), M2.out.other (by omega) _, Lib.hid (K.out.drew.oth (Oth.setCell g _ _ _) (.inl rfl))⟩, by simp [intOf]; omega⟩
              · obtain rfl : k = C := by omega
                have T5 : decide ((k : Int) < (k : Int)) = false := by simp
                obtain ⟨f2, hf2⟩ : ∃ f2, f2 = scF f1 t y k := ⟨_, rfl⟩
                rw [← hf2] at m1
                have V2 := Lib.hid (show VW f2 by rw [hf2]; exact scF_b V1.out t y0 y1 k)
                have Hf2 := Lib.hid hf2
                clear hf2
                go_wp2_with fail
                clear d2
                go_loopw [14] (fun q wr => ∃ (j : Nat), q = .int .i64 j ∧ j ≤ R ∧ MB wr g 33 R k (adF f2 t n k j) ∧ RB wr (g + 1) 45 6 (adV U1 f2 t n j) ∧ Hid (KP g w wr gb t cap fs)) (fun q _ => (6 - intOf q).toNat)
                case atStart => exact ⟨0, rfl, by omega, m1.ext (fun s _ => by rw [adF_zero]), m2.ext (fun s _ => by rw [adV_zero]), K⟩
                case round =>
                  clear m1 m2 K
                  obtain ⟨j, rfl, hj, m1, m2, K⟩ := hrel
                  have d1 := m1.rows
                  by_cases hlj : j < R
                  · have T6 : decide ((j : Int) < (R : Int)) = true := by simp; omega
                    have j6 : j < 6 := by omega
                    have j1 : (j : Int) < 6 := by omega
                    by_cases hjt : j = t
                    · subst hjt
                      have T7 : ((j : Int) != (j : Int)) = false := by simp
                      go_wp2_with fail
                      exact ⟨⟨j + 1, rfl, by omega, m1.ext (fun s _ => by rw [adF_same]), m2.ext (fun s _ => by rw [adV_same]), K⟩, by simp [intOf]; omega⟩
                    · have T7 : ((j : Int) != (t : Int)) = true := by simp; omega
                      have q1 := m1.cell2 j n j6 n6
                      rw [adF_at f2 t n k j n6] at q1
                      have bb := V2.out (j * 6 + n)
                      have M1 := Lib.hid m1
                      have M2 := Lib.hid m2
                      clear m1 m2
                      go_wp2_with fail
                      refine (spec_l02Add R k hC (adF f2 t n k j) (adF_b V2.out t n k j) g t j t6 j6 (fun e => hjt e.symm) (f2 (j * 6 + n)) bb.1 bb.2 _ M1.out).mono ?_
                      rintro e wc ⟨rfl, b1, b3, b4⟩
                      have o : Oth g _ wc := ⟨fun x hx _ => b3 x hx, b4.size, b4.os, b4.tape, b4.output⟩
                      have m2 := M2.out.oth o (by omega)
                      replace K := Lib.hid (K.out.oth o (.inl rfl))
                      replace M1 := Lib.hid b1
                      clear b1 b3 b4 q1 d1 o M2
                      have r1 := m2.cell j j6
                      have r2 := m2.cell t t6
                      have r3 := m2.free j
                      rw [adV_at] at r1
                      rw [adV_top] at r2
                      have bt := HU1B.out t
                      have bj := HU1B.out j
                      have bm := mulI_b bt.1 bt.2 bb.1 bb.2
                      have bx := bits_xor (U1 j) (mulI (U1 t) (f2 (j * 6 + n))) bj.1 bj.2 bm.1 bm.2
                      have M2 := Lib.hid m2
                      clear m2
                      go_wp2_with fail
                      refine wp_region_still_tail 11 (by kernel_rfl) (by kernel_rfl) ?_
                      simp only [List.take_succ_cons, List.take_zero, List.drop_succ_cons, List.drop_zero]
                      iterate 8 still_step
                      still_call (ltimes_eq (U1 t) (f2 (j * 6 + n)) bt.1 bt.2 bb.1 bb.2 _)
                      iterate 2 still_step
                      refine wpStill_nil ?_
                      change wpList _ _ _ _ _ (World.drew _)
                      go_wp2_with fail
                      exact ⟨⟨j + 1, rfl, by omega, (M1.out.other (by omega) _).ext (adF_step f2 t n k j n6 hjt), (M2.out.put j j6 _).ext (fun s _ => by rw [adV_step U1 f2 t n j hjt]), Lib.hid (K.out.drew.oth (Oth.setCell (g + 1) _ _ _) (.inr rfl))⟩, by simp [intOf]; omega⟩
                  · obtain rfl : j = R := by omega
                    have T6 : decide ((j : Int) < (j : Int)) = false := by simp
                    obtain ⟨k3, k4, k5, k6⟩ := K.out
                    have hgb : g + 1 + 1 + 1 + 1 ≤ gb := (k5.lt gb rfl).1
                    have hsz := k4.lt
                    go_wp2_with (at_builtin; refine wpList_append_own _ rfl _ _ 110 rfl (g + 1 + 1 + 1 + 1) 3 i0 (.int .i64 0) 1 8 Try.underlying110 hi hz0 hz1 hz2 rfl (by decide) _ t _ rfl (k5.alloc _) ⟨wr.heap.size, 0, none⟩ 1 1 [.int .i64 n] rfl rfl ?c1 ?c2 ?c3 ?c4 ?c5 ?_)
                    case c1 => exact one_cell2 _ _ _
                    case c2 => simp [Value.oneCell']
                    case c3 => unfold maxLen; omega
                    case c4 => omega
                    case c5 => rw [World.size_alloc]; omega
                    intro s' wz hown2 hgrow2 _
                    rw [ints_snoc] at hown2
                    have keep : ∀ x, x < g + 1 + 1 + 1 + 1 → wz.heap[x]? = (wr.alloc (.cells #[.int .i64 n] 3)).heap[x]? := fun x hx => hgrow2.block x (by rw [World.size_alloc]; omega) (by intro e; have hxe : x = gb := Option.some.inj e; omega)
                    have hm2 : MB wz g 33 j k (adF f2 t n k j) := (keep g (by omega)).trans (m1.alloc _)
                    have hv2 : RB wz (g + 1) 45 6 (adV U1 f2 t n j) := (keep (g + 1) (by omega)).trans (m2.alloc _)
                    have hr2 : RB wz (g + 1 + 1) 45 6 (fun _ => 0) := (keep (g + 1 + 1) (by omega)).trans (k3.alloc _)
                    have ho2 : RB wz (g + 1 + 1 + 1) 45 6 (fun _ => 0) := (keep (g + 1 + 1 + 1) (by omega)).trans (k4.alloc _)
                    have hb2 : Below g w wz := by
                      have hA := k6.alloc (show g ≤ wr.heap.size by omega) (.cells #[.int .i64 n] 3)
                      exact ⟨hgrow2.os.trans hA.os, hgrow2.tape.trans hA.tape, hgrow2.output.trans hA.output, Nat.le_trans hA.size hgrow2.size, fun x hx => (keep x (by omega)).trans (hA.block x hx)⟩
                    rcases hown2.2 with ⟨_, h0⟩ | ⟨gb2, cap2, cur2, rfl, _⟩
                    · omega
                    have e2 : (Nim.redN F (n + 1)).2 = fs ++ [n] := by rw [← HE.out, HY.out]
                    have e1 : (Nim.redN F (n + 1)).1 = Nim.elim G t i n := by rw [← HE.out, HY.out]
                    have e3 : (fs ++ [n]).length = t + 1 := by rw [List.length_append, ← HT.out]; rfl
                    have M2 := Lib.hid (hm2.ext (f' := un6 (Nim.elim G t i n)) (fun s hs => by
                      rw [Hf2.out, Hy.out, Hf1.out]
                      exact ad_elim HGB.out t6 hti (by omega) hR hlt hC HZR1.out HZC1.out s hs))
                    have N2 := Lib.hid (hv2.ext (f' := W1) (fun s hs => by
                      rw [HX.out, HU1.out, Hf2.out, Hy.out, Hf1.out]
                      exact adV_elim HGB.out HUB.out t6 hti (by omega) hR hlt hC HZR1.out s hs))
                    have E1 := Lib.hid e1; have E2 := Lib.hid e2; have E3 := Lib.hid e3
                    have K2 : Hid (KP g w wz gb2 (t + 1) cap2 (fs ++ [n])) := Lib.hid ⟨hr2, ho2, hown2, hb2⟩
                    clear hown2 hgrow2 hm2 hv2 hr2 ho2 hb2 e1 e2 e3 m1 m2 K k3 k4 k5 k6 keep hsz
                    go_wp2_with fail
                    exact ⟨⟨n + 1, gb2, cap2, rfl, by omega, by rw [E2.out, E3.out], by rw [E1.out]; exact M2.out, by rw [← HW1.out]; exact N2.out, by rw [E2.out, E3.out]; exact K2⟩, by simp [intOf]; omega⟩
        · obtain rfl : i = R := by omega
          have T2 : decide ((i : Int) < (i : Int)) = false := by simp
          have T4 : ((i : Int) == (i : Int)) = true := by simp
          have hnp : ¬ Nim.pivotFrom G n (6 - t) t < 6 := by
            rw [hp'.out, Nim.pivot_zero G n (6 - i) i (fun r h1 h2 => HZR1.out r n h1 (by omega) (by omega))]; omega
          have hN : E = (G, fs) := by rw [hst.out, if_neg hnp]
          have hX : W1 = U := by rw [hsv.out, if_neg hnp]
          have e2 : (Nim.redN F (n + 1)).2 = fs := by rw [← HE.out, hN]
          have e1 : (Nim.redN F (n + 1)).1 = G := by rw [← HE.out, hN]
          have E1 := Lib.hid e1
          have E2 := Lib.hid e2
          have HX := Lib.hid hX
          clear hN e1 e2 hX hnp
          go_wp2_with fail
          exact ⟨⟨n + 1, gb, cap, rfl, by omega, by rw [E2.out, ← HT.out], by rw [E1.out]; exact m1, by rw [← HW1.out, HX.out]; exact m2, by rw [E2.out, ← HT.out]; exact K⟩, by simp [intOf]; omega⟩
    · obtain rfl : n = C := by omega
      have T1 : decide ((n : Int) < (n : Int)) = false := by simp
      have HUB := Lib.hid (solN_b HF.out HU.out n)
      have hlen := HZR.out.len HF.out n (by omega)
      have HL := Lib.hid (redN_lt F n)
      generalize hUe : solN F u n = U at HUB m2 ⊢
      generalize hRe : Nim.redN F n = rn at HL hlen K m1 ⊢
      have HUe := Lib.hid hUe
      clear hUe
      obtain ⟨G, fs⟩ := rn
      have HRe := Lib.hid hRe
      clear hRe
      replace m1 : MB wr g 33 R n (un6 G) := m1
      replace HL : Hid (∀ x ∈ fs, x < n) := HL
      replace hlen : fs.length ≤ R := hlen
      replace K : Hid (KP g w wr gb fs.length cap fs) := K
      show Code.wp _ _ _ _ _
      rw [show (((G, fs) : (Nat → Nat → Nat) × List Nat).2) = fs from rfl]
      go_wp2_with fail
      clear d2
      obtain ⟨k3, k4, k5, k6⟩ := K.out
      go_loopw [16] (fun y wr => ∃ (i : Nat), y = .int .i64 i ∧ i ≤ R ∧ MB wr g 33 R n (un6 G) ∧ RB wr (g + 1) 45 6 U ∧ RB wr (g + 1 + 1) 45 6 (fun _ => 0) ∧ RB wr (g + 1 + 1 + 1) 45 6 (xS fs U i) ∧ Hid (wr.ownsRow (g + 1 + 1 + 1 + 1) 3 1 (.slice (some ⟨gb, 0, none⟩) fs.length cap) fs.length (ints fs)) ∧ Hid (Below g w wr) ∧ Hid (∀ j, fs.length ≤ j → j < i → U j = 0)) (fun y _ => (6 - intOf y).toNat)
      case atStart => exact ⟨0, rfl, by omega, m1, m2, k3, k4, Lib.hid k5, Lib.hid k6, Lib.hid (fun j h1 h2 => by omega)⟩
      case round =>
        clear m1 m2 k3 k4 k5 k6 K
        obtain ⟨i, rfl, hi6, m1, m2, m3, m4, HO, HB, HZ⟩ := hrel
        have d1 := m1.rows
        by_cases hlt2 : i < R
        · have T2 : decide ((i : Int) < (R : Int)) = true := by simp; omega
          have i6 : i < 6 := by omega
          have i1 : (i : Int) < 6 := by omega
          have q1 := m2.cell i i6
          by_cases hil : i < fs.length
          · have T3 : decide ((i : Int) < (fs.length : Int)) = true := by simp; omega
            have hm : fs[i]! < n := by
              rw [getElem!_pos fs i hil]
              exact HL.out _ (List.getElem_mem hil)
            have q2 := own_cell HO.out i hil
            obtain ⟨x, hx⟩ : ∃ x, x = fs[i]! := ⟨_, rfl⟩
            rw [← hx] at q2 hm
            have x6 : x < 6 := by omega
            have x1 : (x : Int) < 6 := by omega
            have q3 := m4.free x
            have q4 := m4.cell x x6
            have HX := Lib.hid (show upd (xS fs U i) x (U i) = xS fs U (i + 1) by rw [hx, xS_yes fs U i hil])
            have hgb : g + 1 + 1 + 1 + 1 ≤ gb := (HO.out.lt gb rfl).1
            have HIL := Lib.hid hil
            have M1 := Lib.hid m1; have M2 := Lib.hid m2; have M3 := Lib.hid m3; have M4 := Lib.hid m4
            clear hx m1 m2 m3 m4 hil
            go_upto_region 32 with fail
            refine wp_region_still_tail 8 (by kernel_rfl) (by kernel_rfl) ?_
            simp only [List.take_succ_cons, List.take_zero, List.drop_succ_cons, List.drop_zero]
            iterate 8 still_step
            refine wpStill_nil ?_
            change wpList _ _ _ _ _ (World.drew _)
            go_wp2_with fail
            exact ⟨⟨i + 1, rfl, by omega, M1.out.other (by omega) _, M2.out.other (by omega) _, M3.out.other (by omega) _, (M4.out.put x x6 _).ext (fun s _ => by rw [HX.out]), Lib.hid (own_keep HO.out.drew (fun k h1 h2 => heap_setCell_other _ _ _ _ (by show k ≠ g + 1 + 1 + 1; omega))), Lib.hid (HB.out.drew.setCell (p := ⟨g + 1 + 1 + 1, x, none⟩) (by show g ≤ g + 1 + 1 + 1; omega) _), Lib.hid (fun j h1 h2 => HZ.out j h1 (by have := HIL.out; omega))⟩, by simp [intOf]; omega⟩
          · have T3 : decide ((i : Int) < (fs.length : Int)) = false := by simp; omega
            have HX := Lib.hid (xS_no fs U i hil)
            by_cases hz : U i = 0
            · have T4 : (U i != 0) = false := by simpa using hz
              have H0 := Lib.hid hz
              have M1 := Lib.hid m1; have M2 := Lib.hid m2; have M3 := Lib.hid m3; have M4 := Lib.hid m4
              clear hz m1 m2 m3 m4
              go_wp2_with fail
              exact ⟨⟨i + 1, rfl, by omega, M1.out, M2.out, M3.out, M4.out.ext (fun s _ => by rw [HX.out]), HO, HB, Lib.hid (fun j h1 h2 => by
                by_cases e : j = i
                · rw [e]; exact H0.out
                · exact HZ.out j h1 (by omega))⟩, by simp [intOf]; omega⟩
            · have T4 : (U i != 0) = true := by simpa using hz
              have HN := Lib.hid hz
              clear hz
              go_wp2_with (first | (guard_target =~ wpList _ _ _ (⟨_, Op.build 45 _, _, _, _, _⟩ :: _) _ _; refine wpList_build0 rfl 45 rfl (TL 6 fun _ => 0).toArray (by kernel_rfl) ?_) | (guard_target =~ wpList _ _ _ (⟨_, Op.store 45 (Operand.tmp 4) _, _, _, _, _⟩ :: _) _ _; refine wpList_store_row rfl 45 _ _ rfl (g + 1 + 1) (TL 6 fun _ => 0).toArray rfl rfl _ _ (m3) (by kernel_rfl) rfl (TL_one _ _) ?_))
              try rw [Exit.noGoto_ret]
              refine bodyPost_ret (v := .tuple #[VV fun _ => 0, .bool false]) ?_ rfl ⟨by rw [HRe.out, HUe.out]; exact .inr ⟨⟨i, Nat.le_of_not_lt hil, hlt2, HN.out⟩, rfl⟩, by obtain rfl := HG.out; exact Below.setRow HB.out (by omega) _⟩
              exact results_cell_tmp2 rfl _ _ (g + 1 + 1) _ _ (0, 0) (.array 6 29) _ rfl rfl (m3.setRow _) (by kernel_rfl) rfl (by kernel_rfl)
        · obtain rfl : i = R := by omega
          have T2 : decide ((i : Int) < (i : Int)) = false := by simp
          have HB3 := HB.out
          go_wp2_with (first | (guard_target =~ wpList _ _ _ (⟨_, Op.load 45 (Operand.tmp 6), _, _, _, _⟩ :: _) _ _; refine wpList_load_row rfl 45 _ rfl (g + 1 + 1 + 1) rfl _ (TL 6 (xS fs U i)).toArray (0, 0) (.array 6 29) (m4) (by kernel_rfl) rfl (by kernel_rfl) ?_) | (guard_target =~ wpList _ _ _ (⟨_, Op.store 45 (Operand.tmp 4) _, _, _, _, _⟩ :: _) _ _; refine wpList_store_row rfl 45 _ _ rfl (g + 1 + 1) (TL 6 (xS fs U i)).toArray rfl rfl _ _ (m3) (by kernel_rfl) rfl (TL_one _ _) ?_))
          refine bodyPost_ret (v := .tuple #[VV (xS fs U i), .bool true]) ?_ rfl ⟨by rw [HRe.out, HUe.out]; exact .inl ⟨HZ.out, rfl⟩, by obtain rfl := HG.out; exact Below.setRow HB3 (by omega) _⟩
          exact results_cell_tmp2 rfl _ _ (g + 1 + 1) _ _ (0, 0) (.array 6 29) _ rfl rfl (m3.setRow _) (by kernel_rfl) rfl (by kernel_rfl)
end Go.Proofs.Ytjbaeomjinnlhaa
