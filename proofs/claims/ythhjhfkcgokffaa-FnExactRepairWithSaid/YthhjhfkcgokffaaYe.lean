/-
  The word that is nearest to another one: NearestOf.
-/
import Derived.Test.YthhjhfkcgokffaaYd
namespace Go.Proofs.Ythhjhfkcgokffaa
set_option linter.unusedVariables false
set_option linter.unusedSimpArgs false
open Go.ChangeShapes Go.WideShapes Go.ChangeAt Go.RowKit

/-- the place of the first least one of the first k + 1 numbers -/
def bst (f : Nat → Nat) : Nat → Nat
  | 0 => 0
  | k + 1 => if f (k + 1) < f (bst f k) then k + 1 else bst f k
theorem bst_yes {f : Nat → Nat} {k : Nat} (h : f (k + 1) < f (bst f k)) : bst f (k + 1) = k + 1 := by rw [bst, if_pos h]
theorem bst_no {f : Nat → Nat} {k : Nat} (h : ¬ f (k + 1) < f (bst f k)) : bst f (k + 1) = bst f k := by rw [bst, if_neg h]
theorem bst_le (f : Nat → Nat) : ∀ k, bst f k ≤ k
  | 0 => Nat.le_refl _
  | k + 1 => by
    have := bst_le f k
    rw [bst]; split <;> omega
theorem bst_min (f : Nat → Nat) : ∀ k j, j ≤ k → f (bst f k) ≤ f j
  | 0, j, hj => by
    obtain rfl : j = 0 := by omega
    exact Nat.le_refl _
  | k + 1, j, hj => by
    have ih := bst_min f k
    by_cases h : f (k + 1) < f (bst f k)
    · rw [bst_yes h]
      by_cases e : j = k + 1
      · rw [e]; exact Nat.le_refl _
      · have := ih j (by omega); omega
    · rw [bst_no h]
      by_cases e : j = k + 1
      · rw [e]; omega
      · exact ih j (by omega)
theorem bst_first (f : Nat → Nat) : ∀ k j, j < bst f k → f (bst f k) < f j
  | 0, j, hj => by unfold bst at hj; omega
  | k + 1, j, hj => by
    by_cases h : f (k + 1) < f (bst f k)
    · rw [bst_yes h] at hj ⊢
      have := bst_min f k j (by omega)
      omega
    · rw [bst_no h] at hj ⊢
      exact bst_first f k j hj
def mnN (f : Nat → Nat) : Nat → Nat
  | 0 => f 0
  | k + 1 => min (mnN f k) (f (k + 1))
theorem mnN_bst (f : Nat → Nat) : ∀ k, mnN f k = f (bst f k)
  | 0 => rfl
  | k + 1 => by
    have ih := mnN_bst f k
    show min (mnN f k) (f (k + 1)) = _
    rw [ih]
    by_cases h : f (k + 1) < f (bst f k)
    · rw [bst_yes h]; omega
    · rw [bst_no h]; omega
/-- the value v is a slice of n numbers -/
def R64 (w : World) (v : Value) (n : Nat) (f : Nat → Nat) : Prop := ∃ A c, v = .slice A n c ∧ (0 < n → ∃ b off, A = some ⟨b, off, none⟩ ∧ b < w.heap.size ∧ ∀ i, i < n → w.cell? ⟨b, off + i, none⟩ = some (.int .i64 (f i : Int)))
theorem R64.below {w w' : World} {v : Value} {n : Nat} {f : Nat → Nat} (h : R64 w v n f) (hb : Below w.heap.size w w') : R64 w' v n f := by
  obtain ⟨A, c, e, hc⟩ := h
  refine ⟨A, c, e, fun hn => ?_⟩
  obtain ⟨b, off, hA, hlt, hcell⟩ := hc hn
  exact ⟨b, off, hA, Nat.lt_of_lt_of_le hlt hb.size, fun i hi => (hb.cell (p := ⟨b, off + i, none⟩) hlt).trans (hcell i hi)⟩
theorem infoI64 : (Try.prog.info? 2).map (fun i => (i.zero, i.size, i.bytes)) = some (some (.int .i64 0), 1, 8) := by kernel_rfl
/-- what is asked of a function that finds a number for each word, with one word kept -/
def FindAt (gf : Nat) (x : Value) (us : Nat → Value) (f : Nat → Nat) (n : Nat) (w : World) : Prop :=
  ∀ (i : Nat) (W : World), i < n → Below w.heap.size w W → Calls Try.prog gf #[x, us i] W fun e W' => e = .returned (.int .i64 (f i : Int)) ∧ Below W.heap.size W W'
set_option maxHeartbeats 2000000 in
theorem each64_any (A : Option Addr) (n c : Nat) (hn : n ≤ 1048576) (gf : Nat) (x : Value) (hg : ∀ args w, (callFunc gf args).run Try.prog w = .ok (.enter gf args) w) (us : Nat → Value) (f : Nat → Nat) (w : World)
    (hc : 0 < n → ∃ b off, A = some ⟨b, off, none⟩ ∧ b < w.heap.size ∧ ∀ i, i < n → w.cell? ⟨b, off + i, none⟩ = some (us i)) (hp : FindAt gf x us f n w) :
    Calls Try.prog 111 #[.slice A n c, .func (.func gf) #[x] #[]] w fun e w' => ∃ r, e = .returned r ∧ R64 w' r n f ∧ Below w.heap.size w w' := by
  obtain ⟨i0, hi, hz0, hz1, hz2⟩ := info_parts infoI64
  have HC := Lib.hid hc; clear hc
  have HP := Lib.hid hp; clear hp
  go_enter Try.func111, Try.ntmps111
  go_wp2_with (at_make; refine wpList_make_full _ rfl _ _ 107 rfl w.heap.size 2 i0 (.int .i64 0) 1 Try.underlying107 hi hz0 hz1 _ _ _ _ n rfl rfl rfl rfl (by rw [hz2]; omega) (by unfold maxLen; omega) (Nat.le_refl _) ?_)
  intro w1 hown hgrow
  have hb1 : Below w.heap.size w w1 := (Below.refl _ w).grown hgrow (Nat.le_refl _) (fun k hk => by cases hk)
  obtain ⟨g, hg2⟩ : ∃ g, g = w.heap.size := ⟨_, rfl⟩
  rw [← hg2] at hown hb1 ⊢
  have hsz : g < w1.heap.size := (hown.lt g rfl).2
  have HG := Lib.hid hg2; clear hg2
  obtain ⟨vs0, hvs⟩ : ∃ vs0, vs0 = (madeCells #[Value.int .i64 0] n).toList := ⟨_, rfl⟩
  rw [← hvs] at hown
  have HOWN := Lib.hid hown
  have HB1 := Lib.hid hb1
  clear hown hgrow hvs hb1
  go_wp2_with fail
  go_loopw [13] (fun y wr => ∃ (k : Nat) (vs : List Value), y = .int .i64 (k : Int) ∧ k ≤ n ∧ g < wr.heap.size ∧ Hid (Below g w wr) ∧ Hid (wr.ownsRow g 2 1 (.slice (some ⟨g, 0, none⟩) n n) n vs) ∧ Hid (∀ j, j < k → vs[j]? = some (.int .i64 (f j : Int)))) (fun y _ => n - (intOf y).toNat)
  case atStart => exact ⟨0, vs0, rfl, Nat.zero_le _, hsz, HB1, HOWN, Lib.hid (fun j hj => absurd hj (by omega))⟩
  case round =>
    obtain ⟨k, vs, rfl, hk, hgs, HB, HO, HH⟩ := hrel
    clear HB1 HOWN hsz
    by_cases hlt : k < n
    · obtain ⟨b, off, rfl, hlb, hcell⟩ := HC.out (by omega)
      have i1 : (k : Int) < (n : Int) := by omega
      have q1 : wr.cell? ⟨b, off + k, none⟩ = some (us k) := (HB.out.cell (p := ⟨b, off + k, none⟩) (by rw [HG.out]; exact hlb)).trans (hcell k hlt)
      have hcall := HP.out k wr hlt (by rw [← HG.out]; exact HB.out)
      obtain ⟨ux, hux⟩ : ∃ ux, ux = us k := ⟨_, rfl⟩
      rw [← hux] at q1 hcall
      have HCL := Lib.hid hcell
      have HCA := Lib.hid hcall
      clear hcell hux hcall
      go_wp2_with (go_at_fn gf; refine HCA.out.mono ?_)
      rintro e w2 ⟨rfl, hb2⟩
      have ho3 := own_below HO.out hb2
      have hb3 : Below g w w2 := HB.out.trans (hb2.mono (by omega))
      have hgs2 : g < w2.heap.size := Nat.lt_of_lt_of_le hgs hb2.size
      have hvk : vs.length = n := by have := ho3.1; omega
      obtain ⟨fk, hfk⟩ : ∃ fk, fk = f k := ⟨_, rfl⟩
      rw [← hfk]
      have hvs2 : ∀ j, j < k + 1 → (vs.set k (.int .i64 (fk : Int)))[j]? = some (.int .i64 (f j : Int)) := fun j hj => by
        by_cases e : j = k
        · subst e
          rw [List.getElem?_set, if_pos rfl, if_pos (by omega), hfk]
        · rw [List.getElem?_set, if_neg (fun x => e x.symm)]
          exact HH.out j (by omega)
      have h4 : w2.cell? ⟨g, k, none⟩ = vs[k]? := ho3.cellAt k (by omega)
      have h5 : w2.frozen? ⟨g, k, none⟩ = false := ho3.frozenAt k
      have h6 := Lib.hid (ho3.stored k (.int .i64 (fk : Int))).1
      have h8 := Lib.hid (hb3.setCell (p := ⟨g, k, none⟩) (Nat.le_refl _) (.int .i64 (fk : Int)))
      have h9 : g < (w2.setCell ⟨g, k, none⟩ (.int .i64 (fk : Int))).heap.size := by simpa [World.setCell] using hgs2
      obtain ⟨y, hy⟩ : ∃ y, vs[k]? = some y := ⟨_, List.getElem?_eq_getElem (by omega)⟩
      rw [hy] at h4
      have H7 := Lib.hid hvs2
      have H9 := Lib.hid h9
      clear HB HO HH hb2 ho3 hb3 hy h9 hgs2 hgs hvk hvs2 q1 hfk
      go_wp2_with fail
      exact ⟨⟨k + 1, _, by go_num, by omega, H9.out, h8, h6, H7⟩, by simp [intOf]; omega⟩
    · obtain rfl : k = n := by omega
      have T1 : decide ((k : Int) < (k : Int)) = false := by simp
      have hf : R64 wr (.slice (some ⟨g, 0, none⟩) k k) k f := ⟨_, _, rfl, fun h0 => ⟨g, 0, rfl, hgs, fun i hi => by rw [Nat.zero_add, HO.out.cellAt i (by omega)]; exact HH.out i hi⟩⟩
      have HF := Lib.hid hf
      clear hf
      go_wp2_with fail
      go_ret
      exact ⟨_, rfl, HF.out, by rw [← HG.out]; exact HB.out⟩
set_option maxHeartbeats 1000000 in
theorem min64_any (v : Value) (n : Nat) (f : Nat → Nat) (h0 : 0 < n) (hn : n ≤ 1048576) (hf : ∀ i, i < n → f i ≤ 1048576) (w : World) (h : R64 w v n f) :
    Calls Try.prog 112 #[v] w fun e w' => e = .returned (.int .i64 (mnN f (n - 1) : Int)) ∧ w = w' := by
  have HF := Lib.hid hf
  obtain ⟨A, c, rfl, hc⟩ := h
  obtain ⟨b, off, rfl, hlb, hcell⟩ := hc h0
  obtain ⟨t, ht⟩ : ∃ t, t = mnN f (n - 1) := ⟨_, rfl⟩
  rw [← ht]
  have HT := Lib.hid ht
  have q0 : w.cell? ⟨b, off, none⟩ = some (.int .i64 (f 0 : Int)) := hcell 0 h0
  obtain ⟨x0, hx0⟩ : ∃ x, x = f 0 := ⟨_, rfl⟩
  have hx01 : x0 ≤ 1048576 := by rw [hx0]; exact hf 0 h0
  rw [← hx0] at q0
  have HX0 := Lib.hid hx0
  have HC := Lib.hid hcell
  have i0 : (0 : Int) < (n : Int) := by omega
  have T0 : decide ((n : Int) < 1) = false := by simp; omega
  clear ht hc hcell hx0 hf
  go_enter Try.func112, Try.ntmps112
  go_wp2_with fail
  go_loop [4, 3] (fun y o => ∃ k x : Nat, y = .int .i64 ((k + 1 : Nat) : Int) ∧ k + 1 ≤ n ∧ o = .int .i64 (x : Int) ∧ x ≤ 1048576 ∧ Hid (x = mnN f k)) (fun y _ => n + 1 - (intOf y).toNat)
  case atStart => exact ⟨0, x0, rfl, h0, rfl, hx01, Lib.hid HX0.out⟩
  case round =>
    clear HX0 q0
    obtain ⟨k, x, rfl, hk, rfl, hx1, HX⟩ := hrel
    by_cases hlt : k + 1 < n
    · have i1 : ((k + 1 : Nat) : Int) < (n : Int) := by omega
      have q1 := HC.out (k + 1) hlt
      have hst : mnN f (k + 1) = min (mnN f k) (f (k + 1)) := rfl
      have hb1 := HF.out (k + 1) hlt
      rw [← HX.out] at hst
      obtain ⟨y, hy⟩ : ∃ y, y = f (k + 1) := ⟨_, rfl⟩
      rw [← hy] at q1 hst hb1
      have HST := Lib.hid hst.symm
      clear hst hy
      go_wp2_with fail
      exact ⟨⟨k + 1, min x y, by go_num, by omega, by first | rfl | (simp <;> omega), by omega, HST⟩, by simp [intOf]; omega⟩
    · have hke : k = n - 1 := by omega
      have T1 : decide (((k + 1 : Nat) : Int) < (n : Int)) = false := by simp; omega
      have HKE := Lib.hid hke
      clear hke
      go_wp2_with fail
      go_ret
      exact ⟨by rw [HT.out, HX.out, HKE.out]; rfl, rfl⟩
set_option maxHeartbeats 1000000 in
theorem index64_any (v : Value) (n : Nat) (f : Nat → Nat) (t : Nat) (hn : n ≤ 1048576) (k0 : Nat) (hk0 : k0 < n) (hk1 : f k0 = t) (hk2 : ∀ j, j < k0 → f j ≠ t) (w : World) (h : R64 w v n f) :
    Calls Try.prog 113 #[v, .int .i64 (t : Int)] w fun e w' => e = .returned (.int .i64 (k0 : Int)) ∧ w = w' := by
  have H1 := Lib.hid hk1
  have H2 := Lib.hid hk2
  obtain ⟨A, c, rfl, hc⟩ := h
  obtain ⟨b, off, rfl, hlb, hcell⟩ := hc (by omega)
  have HC := Lib.hid hcell
  clear hk1 hk2 hc hcell
  go_enter Try.func113, Try.ntmps113
  go_wp2_with fail
  go_loop [8] (fun y => ∃ k : Nat, y = .int .i64 (k : Int) ∧ k ≤ k0) (fun y => n - (intOf y).toNat)
  case atStart => exact ⟨0, rfl, Nat.zero_le _⟩
  case round =>
    obtain ⟨k, rfl, hk⟩ := hrel
    have i1 : (k : Int) < (n : Int) := by omega
    have q1 := HC.out k (by omega)
    by_cases hlt : k < k0
    · have hne := H2.out k hlt
      have T1 : ((t : Int) == (f k : Int)) = false := by rw [beq_eq_false_iff_ne]; omega
      obtain ⟨y, hy⟩ : ∃ y, y = f k := ⟨_, rfl⟩
      rw [← hy] at q1 T1
      clear hy hne
      go_wp2_with fail
      exact ⟨⟨k + 1, by go_num, by omega⟩, by simp [intOf]; omega⟩
    · obtain rfl : k = k0 := by omega
      have T1 : ((t : Int) == (f k : Int)) = true := by rw [H1.out]; simp
      obtain ⟨y, hy⟩ : ∃ y, y = f k := ⟨_, rfl⟩
      rw [← hy] at q1 T1
      clear hy
      go_wp2_with fail
      go_ret
      exact ⟨rfl, rfl⟩
/-- in how many nimbers the words of a list differ from another one -/
def apZ (gs : List (List Int)) (z : List Int) (i : Nat) : Nat := apN (gs.getD i []) z
def neC (n : Int) (gs : List (List Int)) (z : List Int) : Int := if lsC n gs [z] = 0 then (if gs.length = 0 then 6 else 0) else lsC n gs [z]
def neI (n : Int) (gs : List (List Int)) (z : List Int) : Int := if neC n gs z = 0 then (bst (apZ gs z) (gs.length - 1) : Int) else 0
def neV (n : Int) (gs : List (List Int)) (z : List Int) : Int := if neC n gs z = 0 then (apZ gs z (bst (apZ gs z) (gs.length - 1)) : Int) else 0
theorem ne_no {n : Int} {gs : List (List Int)} {z : List Int} (h : ¬ lsC n gs [z] = 0) : neC n gs z = lsC n gs [z] ∧ neI n gs z = 0 ∧ neV n gs z = 0 := by
  have e : neC n gs z = lsC n gs [z] := by unfold neC; rw [if_neg h]
  exact ⟨e, by unfold neI; rw [e, if_neg h], by unfold neV; rw [e, if_neg h]⟩
theorem ne_none {n : Int} {gs : List (List Int)} {z : List Int} (h : lsC n gs [z] = 0) (h2 : gs.length = 0) : neC n gs z = 6 ∧ neI n gs z = 0 ∧ neV n gs z = 0 := by
  have e : neC n gs z = 6 := by unfold neC; rw [if_pos h, if_pos h2]
  exact ⟨e, by unfold neI; rw [e, if_neg (by decide)], by unfold neV; rw [e, if_neg (by decide)]⟩
theorem ne_ok {n : Int} {gs : List (List Int)} {z : List Int} (h : lsC n gs [z] = 0) (h2 : ¬ gs.length = 0) : neC n gs z = 0 ∧ neI n gs z = (bst (apZ gs z) (gs.length - 1) : Int) ∧ neV n gs z = (apZ gs z (bst (apZ gs z) (gs.length - 1)) : Int) := by
  have e : neC n gs z = 0 := by unfold neC; rw [if_pos h, if_neg h2]
  exact ⟨e, by unfold neI; rw [e, if_pos rfl], by unfold neV; rw [e, if_pos rfl]⟩
/-- the words of a list that is valid, beside another word -/
theorem ask_len {n : Int} {gs : List (List Int)} {z : List Int} (h : lsC n gs [z] = 0) : (∀ i, i < gs.length → (gs.getD i []).length = z.length) ∧ z.length ≤ 7 ∧ gs.length ≤ 300 := by
  obtain ⟨h1, h2, h3⟩ := lsC_ok h
  have hl : gs.length < (gs ++ [z]).length := by simp
  have l1 := ws_len h2 hl
  rw [getD_last] at l1
  refine ⟨fun i hi => ?_, l1.2.1, h3⟩
  have l2 := ws_len h2 (i := i) (by rw [List.length_append]; omega)
  rw [getD_app z hi] at l2
  omega
set_option maxHeartbeats 4000000 in
theorem spec_NearestOf (n : Int) (v : Value) (gs : List (List Int)) (u : Value) (z : List Int) (hb : -9223372036854775808 ≤ n ∧ n ≤ 9223372036854775807) (hn : gs.length ≤ 1048576) (hm : ∀ i, i < gs.length → (gs.getD i []).length ≤ 1048576) (hz : z.length ≤ 1048576) (w : World) (h : WS w v gs) (h' : NS w u z) :
    Calls Try.prog 60 #[.int .i64 n, v, u] w fun e w' => e = .returned (.tuple #[.int .i64 (neI n gs z), .int .i64 (neV n gs z), .int .i64 (neC n gs z)]) ∧ Below w.heap.size w w' := by
  have HWS := Lib.hid h
  have HNS := Lib.hid h'
  obtain ⟨A, c, us, rfl, hc, hu⟩ := h.open
  have HM := Lib.hid hm
  have HB := Lib.hid hb
  have HC := Lib.hid hc
  have HU := Lib.hid hu
  clear h hc hu hm hb h'
  by_cases h0 : lsC n gs [z] = 0
  · by_cases h2 : gs.length = 0
    · rw [(ne_none h0 h2).1, (ne_none h0 h2).2.1, (ne_none h0 h2).2.2]
      have H0 := Lib.hid h0
      have T1 : ((gs.length : Int) == 0) = true := by rw [h2]; rfl
      clear h0 h2
      go_enter Try.func60, Try.ntmps60
      go_wp2_with fail
      refine (l06Asked_any n _ u gs z hn HM.out hz HB.out _ HWS.out HNS.out).mono ?_
      rintro e w' ⟨rfl, m, rfl⟩
      rw [H0.out]
      go_wp2_with fail
      go_ret3
      exact ⟨rfl, bdrewN (Below.refl _ w) m⟩
    · rw [(ne_ok h0 h2).1, (ne_ok h0 h2).2.1, (ne_ok h0 h2).2.2]
      obtain ⟨hlen, hz7, h300⟩ := ask_len h0
      have HLN := Lib.hid hlen
      have H0 := Lib.hid h0
      obtain ⟨bv, hbv⟩ : ∃ t, t = bst (apZ gs z) (gs.length - 1) := ⟨_, rfl⟩
      rw [← hbv]
      obtain ⟨av, hav⟩ : ∃ t, t = apZ gs z bv := ⟨_, rfl⟩
      rw [← hav]
      have HBV := Lib.hid hbv
      have HAV := Lib.hid hav
      have T1 : ((gs.length : Int) == 0) = false := by rw [beq_eq_false_iff_ne]; omega
      obtain ⟨b, off, rfl, hlb, hcell⟩ := HC.out (by omega)
      have HCL := Lib.hid hcell
      clear h0 hlen hbv hav hcell
      go_enter Try.func60, Try.ntmps60
      go_wp2_with fail
      refine (l06Asked_any n _ u gs z hn HM.out hz HB.out _ HWS.out HNS.out).mono ?_
      rintro e w' ⟨rfl, m0, rfl⟩
      rw [H0.out]
      go_wp2_with fail
      go_loopw [11, 10] (fun y o wr => ∃ k b m : Nat, y = .int .i64 ((k + 1 : Nat) : Int) ∧ k + 1 ≤ gs.length ∧ o = .int .i64 (b : Int) ∧ b ≤ k ∧ Hid (b = bst (apZ gs z) k) ∧ wr = w.drewN m) (fun y _ _ => gs.length + 1 - (intOf y).toNat)
      case atStart => exact ⟨0, 0, m0, rfl, by omega, rfl, Nat.le_refl _, Lib.hid rfl, rfl⟩
      case round =>
        obtain ⟨k, bb, m, rfl, hk, rfl, hbk, HX, rfl⟩ := hrel
        by_cases hlt : k + 1 < gs.length
        · have i1 : ((k + 1 : Nat) : Int) < (gs.length : Int) := by omega
          have i2 : (bb : Int) < (gs.length : Int) := by omega
          have q1 : w.cell? ⟨b, off + (k + 1), none⟩ = some (us (k + 1)) := HCL.out (k + 1) hlt
          have q2 : w.cell? ⟨b, off + bb, none⟩ = some (us bb) := HCL.out bb (by omega)
          have n1 := HU.out (k + 1) hlt
          have n2 := HU.out bb (by omega)
          have hea : ∀ x, Calls Try.prog 80 #[us (k + 1), u] (w.drewN (m + x)) fun e w'' => e = .returned (.int .i64 (apZ gs z (k + 1) : Int)) ∧ ∃ n, w'' = w.drewN (m + n) :=
            fun x => quiet_at (l06Apart_any (us (k + 1)) u (gs.getD (k + 1) []) z (by rw [HLN.out _ hlt]; exact hz) (HLN.out _ hlt) (w.drewN (m + x)) (n1.below (bdrewN (Below.refl _ w) (m + x))) (HNS.out.below (bdrewN (Below.refl _ w) (m + x))))
          have heb : ∀ x, Calls Try.prog 80 #[us bb, u] (w.drewN (m + x)) fun e w'' => e = .returned (.int .i64 (apZ gs z bb : Int)) ∧ ∃ n, w'' = w.drewN (m + n) :=
            fun x => quiet_at (l06Apart_any (us bb) u (gs.getD bb []) z (by rw [HLN.out _ (by omega)]; exact hz) (HLN.out _ (by omega)) (w.drewN (m + x)) (n2.below (bdrewN (Below.refl _ w) (m + x))) (HNS.out.below (bdrewN (Below.refl _ w) (m + x))))
          obtain ⟨ux, hux⟩ : ∃ y, y = us (k + 1) := ⟨_, rfl⟩
          obtain ⟨uy, huy⟩ : ∃ y, y = us bb := ⟨_, rfl⟩
          obtain ⟨a1, ha1⟩ : ∃ a, a = apZ gs z (k + 1) := ⟨_, rfl⟩
          obtain ⟨a2, ha2⟩ : ∃ a, a = apZ gs z bb := ⟨_, rfl⟩
          rw [← hux, ← ha1] at hea
          rw [← huy, ← ha2] at heb
          rw [← hux] at q1
          rw [← huy] at q2
          have HEA := Lib.hid hea
          have HEB := Lib.hid heb
          have HA1 := Lib.hid ha1
          have HA2 := Lib.hid ha2
          clear n1 n2 hux huy ha1 ha2 hea heb
          by_cases hcmp : a1 < a2
          · have T2 : decide ((a1 : Int) < (a2 : Int)) = true := by simp; omega
            have HST := Lib.hid (bst_yes (f := apZ gs z) (k := k) (by rw [← HX.out, ← HA1.out, ← HA2.out]; exact hcmp))
            go_wp2_with fail
            go_quiet ((first | (with_reducible exact HEA.out _) | (with_reducible exact HEB.out _)))
            go_wp2_with fail
            exact ⟨⟨k + 1, k + 1, m + nq, by go_num, by omega, rfl, Nat.le_refl _, Lib.hid HST.out.symm, rfl⟩, by simp [intOf]; omega⟩
          · have T2 : decide ((a1 : Int) < (a2 : Int)) = false := by simp; omega
            have HST := Lib.hid (bst_no (f := apZ gs z) (k := k) (by rw [← HX.out, ← HA1.out, ← HA2.out]; exact hcmp))
            go_wp2_with fail
            go_quiet ((first | (with_reducible exact HEA.out _) | (with_reducible exact HEB.out _)))
            go_wp2_with fail
            exact ⟨⟨k + 1, bb, m + nq, by go_num, by omega, rfl, by omega, Lib.hid (HX.out.trans HST.out.symm), rfl⟩, by simp [intOf]; omega⟩
        · have hke : k = gs.length - 1 := by omega
          have T2 : decide (((k + 1 : Nat) : Int) < (gs.length : Int)) = false := by simp; omega
          have hbb : bb = bv := by rw [HX.out, HBV.out, hke]
          subst hbb
          have i2 : (bb : Int) < (gs.length : Int) := by omega
          have q2 : w.cell? ⟨b, off + bb, none⟩ = some (us bb) := HCL.out bb (by omega)
          have n2 := HU.out bb (by omega)
          have heb := l06Apart_any (us bb) u (gs.getD bb []) z (by rw [HLN.out _ (by omega)]; exact hz) (HLN.out _ (by omega)) (w.drewN m) (n2.below (bdrewN (Below.refl _ w) m)) (HNS.out.below (bdrewN (Below.refl _ w) m))
          rw [show apN (gs.getD bb []) z = apZ gs z bb from rfl, ← HAV.out] at heb
          obtain ⟨uy, huy⟩ : ∃ y, y = us bb := ⟨_, rfl⟩
          rw [← huy] at heb q2
          have HEB := Lib.hid heb
          clear heb huy n2 hke
          go_wp2_with fail
          refine HEB.out.mono ?_
          rintro e w' ⟨rfl, m3, rfl⟩
          go_wp2_with fail
          go_ret3
          exact ⟨rfl, bdrewN (Below.refl _ w) (m + m3)⟩
  · rw [(ne_no h0).1, (ne_no h0).2.1, (ne_no h0).2.2]
    obtain ⟨cd, hcd⟩ : ∃ cd, cd = lsC n gs [z] := ⟨_, rfl⟩
    rw [← hcd] at h0 ⊢
    have HCD := Lib.hid hcd
    have T1 : (cd != 0) = true := by rw [bne_iff_ne]; exact h0
    clear hcd h0
    go_enter Try.func60, Try.ntmps60
    go_wp2_with fail
    refine (l06Asked_any n _ u gs z hn HM.out hz HB.out _ HWS.out HNS.out).mono ?_
    rintro e w' ⟨rfl, m0, rfl⟩
    rw [← HCD.out]
    go_wp2_with fail
    go_ret3
    exact ⟨rfl, bdrewN (Below.refl _ w) m0⟩
/-- openList with one other word, which stands in a block of its own -/
theorem openList_one (n : Int) (v u : Value) (gs : List (List Int)) (z : List Int) (hn : gs.length ≤ 1048576) (hm : ∀ i, i < gs.length → (gs.getD i []).length ≤ 1048576) (hz : z.length ≤ 1048576) (hb : -9223372036854775808 ≤ n ∧ n ≤ 9223372036854775807) (w : World) (h : WS w v gs) (h' : NS w u z) :
    Calls Try.prog 102 #[.int .i64 n, v, .slice (some ⟨w.heap.size, 0, none⟩) 1 1] (w.alloc (.cells #[u] 25)) fun e w' => e = .returned (.tuple #[.int .i64 (lsB n gs [z]), .int .i64 (lsC n gs [z])]) ∧ Below w.heap.size w w' := by
  have hb1 : Below w.heap.size w (w.alloc (.cells #[u] 25)) := (Below.refl _ _).alloc (Nat.le_refl _) _
  refine (openList_any n v (.slice (some ⟨w.heap.size, 0, none⟩) 1 1) gs [z] hn (by simp) (fun i hi => ?_) hb _ (h.below hb1) (WS.row (vs := [u]) (gs := [z]) (heap_alloc_new w _) (by simp) 1 (fun i hi => ?_))).mono ?_
  · rw [List.length_append] at hi
    by_cases e : i < gs.length
    · rw [getD_app z e]; exact hm i e
    · obtain rfl : i = gs.length := by simp at hi; omega
      rw [getD_last]; exact hz
  · obtain rfl : i = 0 := by simp at hi; exact hi
    exact ⟨u, rfl, by simpa using h'.below hb1⟩
  · rintro e w' ⟨rfl, hb2⟩
    exact ⟨rfl, bchain hb1 hb2⟩
set_option maxHeartbeats 4000000 in
theorem impl_NearestOf (n : Int) (v : Value) (gs : List (List Int)) (u : Value) (z : List Int) (hb : -9223372036854775808 ≤ n ∧ n ≤ 9223372036854775807) (hn : gs.length ≤ 1048576) (hm : ∀ i, i < gs.length → (gs.getD i []).length ≤ 1048576) (hz : z.length ≤ 1048576) (w : World) (h : WC w v gs) (h' : NS w u z) :
    Calls Try.prog 61 #[.int .i64 n, v, u] w fun e w' => e = .returned (.tuple #[.int .i64 (neI n gs z), .int .i64 (neV n gs z), .int .i64 (neC n gs z)]) ∧ Below w.heap.size w w' := by
  have hmf : ∀ (fn : Fn) (first cap : Array Value) (w : World), (Instr.makeFunc fn first cap).run Try.prog w = .ok (.func fn first cap) w := fun _ _ _ _ => rfl
  have HNS := Lib.hid h'
  have HOL := Lib.hid (openList_one n v u gs z hn hm hz hb w h.ws h')
  obtain ⟨A, c, us, rfl, hc, hu⟩ := h.ws.open
  have HM := Lib.hid hm
  have HC := Lib.hid hc
  have HU := Lib.hid hu
  obtain ⟨Az, cz, rfl⟩ := h'.form
  clear h hc hu hm hb h'
  obtain ⟨cb, hcb⟩ : ∃ cb, cb = lsB n gs [z] := ⟨_, rfl⟩
  rw [← hcb] at HOL
  clear hcb
  by_cases h0 : lsC n gs [z] = 0
  · by_cases h2 : gs.length = 0
    · rw [(ne_none h0 h2).1, (ne_none h0 h2).2.1, (ne_none h0 h2).2.2]
      rw [h0] at HOL
      have T1 : ((gs.length : Int) == 0) = true := by rw [h2]; rfl
      clear h0 h2
      go_enter Try.func61, Try.ntmps61
      go_wp2_with fail
      refine HOL.out.mono ?_
      rintro e w' ⟨rfl, hb1⟩
      have HB1 := Lib.hid hb1
      clear hb1
      go_wp2_with fail
      go_ret3
      exact ⟨rfl, HB1.out⟩
    · rw [(ne_ok h0 h2).1, (ne_ok h0 h2).2.1, (ne_ok h0 h2).2.2]
      obtain ⟨hlen, hz7, h300⟩ := ask_len h0
      have HLN := Lib.hid hlen
      rw [h0] at HOL
      obtain ⟨bv, hbv⟩ : ∃ t, t = bst (apZ gs z) (gs.length - 1) := ⟨_, rfl⟩
      rw [← hbv]
      obtain ⟨av, hav⟩ : ∃ t, t = apZ gs z bv := ⟨_, rfl⟩
      rw [← hav]
      have hbl : bv < gs.length := by have := bst_le (apZ gs z) (gs.length - 1); omega
      have hmn : mnN (apZ gs z) (gs.length - 1) = av := by rw [mnN_bst, ← hbv, ← hav]
      have hfst : ∀ j, j < bv → apZ gs z j ≠ av := fun j hj => by
        have := bst_first (apZ gs z) (gs.length - 1) j (by rw [← hbv]; exact hj)
        rw [← hbv, ← hav] at this
        omega
      have HMN := Lib.hid hmn
      have HFS := Lib.hid hfst
      have HAV := Lib.hid hav
      have HAZ := Lib.hid (show ∀ i, i < gs.length → apZ gs z i ≤ 1048576 from fun i hi => by
        have := apN_le (gs.getD i []) z
        rw [hlen i hi] at this
        exact Nat.le_trans this (by omega))
      have T1 : ((gs.length : Int) == 0) = false := by rw [beq_eq_false_iff_ne]; omega
      clear h0 hlen hbv hav hmn hfst
      go_enter Try.func61, Try.ntmps61
      go_wp2_with fail
      refine HOL.out.mono ?_
      rintro e w1 ⟨rfl, hb1⟩
      have HB1 := Lib.hid hb1
      have hc1 : 0 < gs.length → ∃ b off, A = some ⟨b, off, none⟩ ∧ b < w1.heap.size ∧ ∀ i, i < gs.length → w1.cell? ⟨b, off + i, none⟩ = some (us i) := fun h0 => by
        obtain ⟨b, off, e, hlt, hcell⟩ := HC.out h0
        exact ⟨b, off, e, Nat.lt_of_lt_of_le hlt hb1.size, fun i hi => (hb1.cell (p := ⟨b, off + i, none⟩) hlt).trans (hcell i hi)⟩
      have hfind : FindAt 82 (.slice Az z.length cz) us (apZ gs z) gs.length w1 := fun i W hi hW => by
        have hbw := bchain hb1 hW
        refine (apart_any _ (us i) z (gs.getD i []) hz (HLN.out i hi).symm W (HNS.out.below hbw) ((HU.out i hi).below hbw)).mono ?_
        rintro e w' ⟨rfl, m, rfl⟩
        rw [apN_comm (HLN.out i hi).symm]
        exact ⟨rfl, bdrewN (Below.refl _ _) m⟩
      have HEA := Lib.hid (each64_any A gs.length c hn 82 (.slice Az z.length cz) (enters_of Try.func82 (by kernel_rfl) rfl) us (apZ gs z) w1 hc1 hfind)
      clear hc1 hfind hb1
      go_wp2_with fail
      refine HEA.out.mono ?_
      rintro e w2 ⟨r, rfl, hr, hb2⟩
      have HR := Lib.hid hr
      have HB2 := Lib.hid (bchain HB1.out hb2)
      clear hr hb2 HEA
      go_wp2_with fail
      refine (min64_any r gs.length (apZ gs z) (by omega) hn HAZ.out _ HR.out).mono ?_
      rintro e w' ⟨rfl, rfl⟩
      rw [HMN.out]
      go_wp2_with fail
      refine (index64_any r gs.length (apZ gs z) av hn bv hbl HAV.out.symm HFS.out _ HR.out).mono ?_
      rintro e w' ⟨rfl, rfl⟩
      go_wp2_with fail
      go_ret3
      exact ⟨rfl, HB2.out⟩
  · rw [(ne_no h0).1, (ne_no h0).2.1, (ne_no h0).2.2]
    obtain ⟨cd, hcd⟩ : ∃ cd, cd = lsC n gs [z] := ⟨_, rfl⟩
    rw [← hcd] at h0 HOL ⊢
    have T1 : (cd != 0) = true := by rw [bne_iff_ne]; exact h0
    clear hcd h0
    go_enter Try.func61, Try.ntmps61
    go_wp2_with fail
    refine HOL.out.mono ?_
    rintro e w' ⟨rfl, hb1⟩
    have HB1 := Lib.hid hb1
    clear hb1
    go_wp2_with fail
    go_ret3
    exact ⟨rfl, HB1.out⟩
end Go.Proofs.Ythhjhfkcgokffaa
