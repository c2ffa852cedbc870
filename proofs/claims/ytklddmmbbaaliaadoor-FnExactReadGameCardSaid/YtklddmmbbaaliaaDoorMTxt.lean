/-
  The text of a matrix: both sides.
-/
import Derived.Test.YtklddmmbbaaliaaDoorNims
import Derived.Test.YtklddmmbbaaliaaDoorOk2
namespace Go.Proofs.YtklddmmbbaaliaaDoor
set_option linter.unusedVariables false
set_option linter.unusedSimpArgs false
open Go.ChangeShapes Go.WideShapes Go.ChangeAt Go.RowKit
/-- texts that are numbered, joined -/
def jt (b : UInt8) (T : Nat → List UInt8) (k : Nat) : List UInt8 := Lib.join ((List.range k).map T) [b]
theorem jt_zero (b : UInt8) (T : Nat → List UInt8) : jt b T 0 = [] := rfl
theorem jt_one (b : UInt8) (T : Nat → List UInt8) : jt b T 1 = T 0 := by
  unfold jt
  rw [show (List.range 1).map T = [T 0] from rfl, Lib.join_one]
theorem jt_step (b : UInt8) (T : Nat → List UInt8) (k : Nat) (h0 : 0 < k) : jt b T (k + 1) = jt b T k ++ [b] ++ T k := by
  unfold jt
  rw [List.range_succ, List.map_append, List.map_singleton, join_snoc]
  intro q
  have := congrArg List.length q
  rw [List.length_map, List.length_range, List.length_nil] at this
  omega
theorem jt_len (b : UInt8) (T : Nat → List UInt8) (m : Nat) : ∀ k, (∀ i, i < k → (T i).length ≤ m) → (jt b T k).length ≤ (m + 1) * k := by
  intro k
  induction k with
  | zero => intro _; rw [jt_zero]; simp
  | succ k ih =>
    intro h
    have i1 := ih (fun i hi => h i (by omega))
    have i2 := h k (by omega)
    rw [Nat.mul_add, Nat.mul_one]
    by_cases h0 : k = 0
    · subst h0; rw [jt_one]; omega
    · rw [jt_step b T k (by omega), List.length_append, List.length_append, List.length_singleton]; omega
def bS (T : Nat → List UInt8) (n k : Nat) : List ByteArray := (List.range n).map fun i => if i < k then ⟨(T i).toArray⟩ else ⟨#[]⟩
theorem bS_len (T : Nat → List UInt8) (n k : Nat) : (bS T n k).length = n := by simp [bS]
theorem bS_at (T : Nat → List UInt8) (n k i : Nat) (h : i < n) : (bS T n k)[i]? = some (if i < k then ⟨(T i).toArray⟩ else ⟨#[]⟩) := by
  unfold bS
  rw [List.getElem?_map, List.getElem?_range h]; rfl
theorem bS_set (T : Nat → List UInt8) (n k : Nat) (h : k < n) : ((bS T n k).map Value.string).set k (.string ⟨(T k).toArray⟩) = (bS T n (k + 1)).map Value.string := by
  rw [← List.map_set]
  congr 1
  apply List.ext_getElem?
  intro i
  rw [List.getElem?_set, bS_len]
  by_cases hi : i < n
  · rw [bS_at T n _ i hi, bS_at T n _ i hi]
    by_cases e : k = i
    · subst e; rw [if_pos rfl, if_pos hi, if_pos (by omega)]
    · rw [if_neg e]
      by_cases e2 : i < k
      · rw [if_pos e2, if_pos (by omega)]
      · rw [if_neg e2, if_neg (by omega)]
  · rw [List.getElem?_eq_none (by rw [bS_len]; omega), List.getElem?_eq_none (by rw [bS_len]; omega)]
    by_cases e : k = i
    · omega
    · rw [if_neg e]
theorem bS_end (T : Nat → List UInt8) (n : Nat) : (bS T n n).map (·.data.toList) = (List.range n).map T := by
  apply List.ext_getElem?
  intro i
  by_cases hi : i < n
  · rw [List.getElem?_map, bS_at T n _ i hi, if_pos hi, List.getElem?_map, List.getElem?_range hi]; rfl
  · rw [List.getElem?_eq_none (by simp [bS_len]; omega), List.getElem?_eq_none (by simp; omega)]
theorem bS_zero (T : Nat → List UInt8) (n : Nat) : (madeCells #[Value.string ⟨#[]⟩] n).toList = (bS T n 0).map Value.string := by
  rw [toList_madeCells_one]
  simp [bS, List.map_const']
/-- the nimbers of a row, its text -/
def rowZ (c : Nat) (f : Nat → Int) (i : Nat) : List Int := (List.range c).map fun k => f (i * 6 + k)
def rowT (c : Nat) (f : Nat → Int) (i : Nat) : List UInt8 := jn (rowZ c f i) (rowZ c f i).length
theorem rowZ_len (c : Nat) (f : Nat → Int) (i : Nat) : (rowZ c f i).length = c := by simp [rowZ]
theorem rowZ_at (c : Nat) (f : Nat → Int) (i k : Nat) (h : k < c) : (rowZ c f i).getD k 0 = f (i * 6 + k) := by
  simp [rowZ, List.getD, h]
theorem rowZ_small (c : Nat) (f : Nat → Int) (hf : ∀ t, 0 ≤ f t ∧ f t < 65536) (i : Nat) : ∀ z ∈ rowZ c f i, 0 ≤ z ∧ z < 65536 := by
  intro z hz
  obtain ⟨k, _, rfl⟩ := List.mem_map.1 hz
  exact hf _
theorem rowT_len (c : Nat) (hc : c ≤ 6) (f : Nat → Int) (hf : ∀ t, 0 ≤ f t ∧ f t < 65536) (i : Nat) : (rowT c f i).length ≤ 132 := by
  have := jn_len (rowZ c f i) (rowZ_small c f hf i) (rowZ c f i).length (Nat.le_refl _)
  rw [rowZ_len] at this
  unfold rowT
  rw [rowZ_len]
  omega
theorem MB.rowNS {w : World} {g : Nat} {t : TypeId} {r : Int} {c : Nat} {f : Nat → Int} (h : MB w g t r c f) (hf : ∀ t, 0 ≤ f t ∧ f t < 65536) (i : Nat) (hi : i < 6) (hc : c ≤ 6) (q : Nat) :
    NS w (.slice (some ⟨g, 2 + i * 6, none⟩) c q) (rowZ c f i) := by
  refine ⟨some ⟨g, 2 + i * 6, none⟩, q, by rw [rowZ_len], rowZ_small c f hf i, fun _ => ⟨g, 2 + i * 6, rfl, h.lt, fun k hk => ?_⟩⟩
  rw [rowZ_len] at hk
  rw [rowZ_at c f i k hk]
  exact h.cell2 i k hi (by omega)
theorem below_drew {B : Nat} {a w : World} (h : Below B a w) : Below B a w.drew := ⟨h.os, h.tape, h.output, h.size, h.block⟩
set_option maxRecDepth 100000 in
set_option maxHeartbeats 2000000 in
theorem l02Text_any (r c : Nat) (hr : r ≤ 6) (hc : c ≤ 6) (f : Nat → Int) (hf : ∀ t, 0 ≤ f t ∧ f t < 65536) (g : Nat) (t : TypeId) (w : World) (hM : MB w g t r c f) :
    Calls Tryd.prog 98 #[.pointer (some ⟨g, 0, none⟩)] w fun e w' => e = .returned (.string ⟨(jt 59 (rowT c f) r).toArray⟩) ∧ Below w.heap.size w w' := by
  have HM := Lib.hid hM
  have HF := Lib.hid hf
  clear hM hf
  go_enter Tryd.func98, Tryd.ntmps98
  go_wp2_with fail
  go_loopw [3, 4] (fun o i wr => ∃ (k : Nat) (s : ByteArray), i = .int .i64 k ∧ k ≤ r ∧ o = .string s ∧ s.size ≤ 133 * k ∧ Hid (s.data.toList = jt 59 (rowT c f) k) ∧ Hid (Below w.heap.size w wr)) (fun _ i _ => r - (intOf i).toNat)
  case atStart => exact ⟨0, ⟨#[]⟩, rfl, Nat.zero_le _, rfl, by decide, Lib.hid rfl, Lib.hid (Below.refl _ _)⟩
  case round =>
    obtain ⟨k, s, rfl, hk, rfl, hsz, HS, HB⟩ := hrel
    have hMr : MB wr g t r c f := HM.out.below HB.out HM.out.lt
    have c0 := hMr.rows
    by_cases hlt : k < r
    · have c1 := hMr.cols
      have hstep := jt_step 59 (rowT c f) k
      have hone : k = 0 → jt 59 (rowT c f) (k + 1) = rowT c f k := fun e => by subst e; exact jt_one _ _
      have hi1 : (k : Int) < (r : Int) := by omega
      have hi2 : (k : Int) < 6 := by omega
      have hi3 : (c : Int) ≤ 6 := by omega
      obtain ⟨x, hx⟩ : ∃ x : ByteArray, x = ⟨(rowT c f k).toArray⟩ := ⟨_, rfl⟩
      have hxl : x.data.toList = rowT c f k := by rw [hx]
      have hxs : x.size ≤ 132 := by rw [hx, bsize]; exact rowT_len c hc f HF.out k
      have hcall : ∀ u : World, Below w.heap.size w u → Calls Tryd.prog 71 #[.slice (some ⟨g, 2 + k * 6, none⟩) c 6] u fun e u' => e = .returned (.string x) ∧ Below w.heap.size w u' ∧ u'.cell? ⟨g, 1, none⟩ = some (.int .i8 (c : Int)) := by
        intro u hu
        have hMu : MB u g t r c f := HM.out.below hu HM.out.lt
        refine (l01ListText_any _ _ (by rw [rowZ_len]; omega) _ (hMu.rowNS HF.out k (by omega) hc 6)).mono ?_
        rintro e u' ⟨rfl, hb⟩
        have hb' := hu.trans (hb.mono hu.size)
        exact ⟨by rw [hx]; rfl, hb', (HM.out.below hb' HM.out.lt : MB u' g t r c f).cols⟩
      have HCALL := Lib.hid hcall
      clear hcall
      have HX := Lib.hid hx
      have HXL := Lib.hid hxl
      have HSTEP := Lib.hid hstep
      have HONE := Lib.hid hone
      clear hx hxl hstep hone hMr
      by_cases hk0 : k = 0
      · have HK0 := Lib.hid hk0
        have T1 : decide ((0 : Int) < (k : Int)) = false := by simp; omega
        have T1' : decide (0 < k) = false := by simp; omega
        have hs0 : s.size = 0 := by omega
        have g1 : s.size + x.size ≤ 9223372036854775807 := by omega
        have g2 : ¬ 9223372036854775807 < s.size + x.size := by omega
        have HS0 := Lib.hid hs0
        clear hk0 hs0
        go_wp2_with fail
        go_region_held (fun u => u.cell? ⟨g, 1, none⟩ = some (.int .i8 (c : Int)) ∧ Hid (Below w.heap.size w u)) (first | exact ⟨hc2, HB2⟩ | exact ⟨c1, Lib.hid (below_drew HB.out)⟩)
          (first | (go_at_call 71; refine (HCALL.out wr.drew (below_drew HB.out)).mono ?_; rintro e w2 ⟨rfl, hb2, hc2⟩; have HB2 := Lib.hid hb2; clear hb2))
        go_wp2_with fail
        refine ⟨⟨k + 1, s ++ x, by go_num, by omega, rfl, by rw [ByteArray.size_append]; have := HK0.out; have := HS0.out; omega, Lib.hid ?_, HB2⟩, by simp [intOf]; omega⟩
        rw [bdata, HXL.out, HONE.out HK0.out, HS.out, HK0.out]; rfl
      · have T1 : decide ((0 : Int) < (k : Int)) = true := by simp; omega
        have T1' : decide (0 < k) = true := by simp; omega
        have g1 : s.size + 1 ≤ 9223372036854775807 := by omega
        have g2 : ¬ 9223372036854775807 < s.size + 1 := by omega
        have g3 : s.size + 1 + x.size ≤ 9223372036854775807 := by omega
        have g4 : ¬ 9223372036854775807 < s.size + 1 + x.size := by omega
        have HK0 : Hid (0 < k) := Lib.hid (by omega)
        clear hk0
        go_wp2_with fail
        go_region_held (fun u => u.cell? ⟨g, 1, none⟩ = some (.int .i8 (c : Int)) ∧ Hid (Below w.heap.size w u)) (first | exact ⟨hc2, HB2⟩ | exact ⟨c1, Lib.hid (below_drew HB.out)⟩)
          (first | (go_at_call 71; refine (HCALL.out wr.drew (below_drew HB.out)).mono ?_; rintro e w2 ⟨rfl, hb2, hc2⟩; have HB2 := Lib.hid hb2; clear hb2))
        go_wp2_with fail
        refine ⟨⟨k + 1, s ++ ⟨#[59]⟩ ++ x, by go_num, by omega, rfl, by rw [ByteArray.size_append, ByteArray.size_append]; have : (⟨#[59]⟩ : ByteArray).size = 1 := rfl; omega, Lib.hid ?_, HB2⟩, by simp [intOf]; omega⟩
        rw [bdata, bdata, HXL.out, HS.out, HSTEP.out HK0.out]
    · obtain rfl : k = r := by omega
      have hv := beq_of HS.out
      have HV := Lib.hid hv
      clear hv
      go_wp2_with fail
      go_ret
      exact ⟨congrArg (fun x => Ending.returned (.string x)) HV.out, HB.out⟩
theorem sides {r c : Int} {f : Nat → Int} (h : okB r c f = true) : (1 ≤ r ∧ r ≤ 6) ∧ (1 ≤ c ∧ c ≤ 6) := by
  unfold okB at h
  rw [Bool.and_eq_true, Bool.and_eq_true] at h
  exact ⟨of_decide_eq_true h.1, of_decide_eq_true h.2.1⟩
/-- the text of a matrix -/
def mtx (r c : Int) (f : Nat → Int) : List UInt8 := if okB r c f = true then jt 59 (rowT c.toNat f) r.toNat else []
theorem spec_MatrixText (r c : Int) (f : Nat → Int) (hm : MW r c f) (w : World) : Calls Tryd.prog 51 #[MV r c f] w fun e w' => e = .returned (.string ⟨(mtx r c f).toArray⟩) ∧ Below w.heap.size w w' := by
  go_enter Tryd.func51, Tryd.ntmps51
  go_wp2_with fail
  obtain ⟨a1, a4, a5⟩ := new1 w (.cells (CL r c f).toArray 66)
  generalize World.alloc w _ = w2 at a1 a4 a5 ⊢
  replace a1 : MB w2 w.heap.size 66 r c f := a1
  refine (l02Ok_any r c f hm _ _ _ a1).mono ?_
  rintro e wn ⟨rfl, rfl⟩
  by_cases hok : okB r c f = true
  · obtain ⟨⟨r1, r2⟩, c1, c2⟩ := sides hok
    have hE : mtx r c f = jt 59 (rowT c.toNat f) r.toNat := by unfold mtx; rw [if_pos hok]
    obtain ⟨R, rfl⟩ : ∃ R : Nat, r = R := ⟨r.toNat, by omega⟩
    obtain ⟨C, rfl⟩ : ∃ C : Nat, c = C := ⟨c.toNat, by omega⟩
    rw [hok]
    have HE := Lib.hid hE
    have HF := Lib.hid hm.2.2.2.2
    have HM1 := Lib.hid a1
    have HB := Lib.hid a4
    have HS := Lib.hid a5
    clear hm hok a4 a1 hE a5
    go_wp2_with fail
    refine (l02Text_any R C (by omega) (by omega) f HF.out _ _ _ HM1.out).mono ?_
    rintro e w3 ⟨rfl, hb3⟩
    have HB3 := Lib.hid (HB.out.trans (hb3.mono HB.out.size))
    clear hb3
    go_wp2_with fail
    go_ret
    exact ⟨by rw [HE.out]; rfl, HB3.out⟩
  · have hE : mtx r c f = [] := by unfold mtx; rw [if_neg hok]
    have hok' : okB r c f = false := by simpa using hok
    rw [hok']
    have HE := Lib.hid hE
    have HB := Lib.hid a4
    clear hm hok hok' a4 a1 hE a5
    go_wp2_with fail
    go_ret
    exact ⟨by rw [HE.out]; rfl, HB.out⟩
set_option maxRecDepth 100000 in
set_option maxHeartbeats 2000000 in
theorem impl_MatrixText (r c : Int) (f : Nat → Int) (hm : MW r c f) (w : World) (htab : POW w) : Calls Tryd.prog 53 #[MV r c f] w fun e w' => e = .returned (.string ⟨(mtx r c f).toArray⟩) ∧ Below w.heap.size w w' := by
  obtain ⟨i0, hi, hz0, hz1, hz2⟩ := info_parts infoStr
  have HTAB := Lib.hid htab
  clear htab
  go_enter Tryd.func53, Tryd.ntmps53
  go_upto_region 1 with fail
  obtain ⟨a1, a4, a5⟩ := new1 w (.cells (CL r c f).toArray 66)
  obtain ⟨g, hg⟩ : ∃ g, g = w.heap.size := ⟨_, rfl⟩
  rw [← hg] at a1 a4 a5 ⊢
  generalize World.alloc w _ = w2 at a1 a4 a5 ⊢
  replace a1 : MB w2 g 66 r c f := a1
  have HG := Lib.hid hg
  clear hg
  go_wp2_with (first | (guard_target =~ wpList _ _ _ (⟨_, Op.load 66 _, _, _, _, _⟩ :: _) _ _; refine wpList_load_row rfl 66 _ rfl g rfl _ (CL r c f).toArray (0, 0) _ a1 Tryd.underlying66 rfl (by kernel_rfl) ?_))
  refine (impl_ValidMatrix r c f hm _).mono ?_
  rintro e wv ⟨rfl, hbv⟩
  have hM : MB wv g 66 r c f := a1.below hbv a1.lt
  have hBv : Below g w wv := a4.trans (hbv.mono (by omega))
  by_cases hok : okB r c f = true
  · obtain ⟨⟨r1, r2⟩, c1, c2⟩ := sides hok
    have hE : mtx r c f = jt 59 (rowT c.toNat f) r.toNat := by unfold mtx; rw [if_pos hok]
    obtain ⟨R, rfl⟩ : ∃ R : Nat, r = R := ⟨r.toNat, by omega⟩
    obtain ⟨C, rfl⟩ : ∃ C : Nat, c = C := ⟨c.toNat, by omega⟩
    rw [hok]
    have c0 := hM.rows
    have HE := Lib.hid hE
    have HF := Lib.hid hm.2.2.2.2
    have HM1 := Lib.hid hM
    have HBV := Lib.hid hBv
    clear hm hok a4 a1 hE a5 hbv hM hBv
    go_wp2_with (at_make; refine wpList_make_full _ rfl _ _ 91 rfl wv.heap.size 9 i0 (.string ⟨#[]⟩) 1 Tryd.underlying91 hi hz0 hz1 _ _ _ _ R rfl rfl rfl rfl (by rw [hz2]; omega) (by unfold maxLen; omega) (Nat.le_refl _) ?_)
    intro w1 hown hgrow
    have hb1 : Below wv.heap.size wv w1 := (Below.refl _ wv).grown hgrow (Nat.le_refl _) (fun k hk => by cases hk)
    obtain ⟨g2, hg2⟩ : ∃ g2, g2 = wv.heap.size := ⟨_, rfl⟩
    rw [← hg2] at hown hb1 ⊢
    have hsz : g2 ≤ w1.heap.size := by rw [hg2]; exact hb1.size
    have hgg : g < g2 := by rw [hg2]; exact HM1.out.lt
    have hne : g ≠ g2 := by omega
    have hown1 : w1.ownsRow g2 9 1 (.slice (some ⟨g2, 0, none⟩) R R) R ((bS (rowT C f) R 0).map Value.string) := by
      rw [← bS_zero]; exact hown
    have HG2 := Lib.hid hg2; clear hg2
    have HO := Lib.hid hown1
    have HB := Lib.hid hb1
    have HS := Lib.hid hsz
    clear hown hgrow hown1 hb1 hsz c0
    go_wp2_with fail
    go_loopw [13] (fun i wr => ∃ k : Nat, i = .int .i64 k ∧ k ≤ R ∧ Hid (wr.ownsRow g2 9 1 (.slice (some ⟨g2, 0, none⟩) R R) R ((bS (rowT C f) R k).map Value.string)) ∧ Hid (Below g2 wv wr) ∧ Hid (g2 ≤ wr.heap.size)) (fun i _ => R - (intOf i).toNat)
    case atStart => exact ⟨0, rfl, Nat.zero_le _, HO, HB, HS⟩
    case round =>
      clear HO HB HS
      obtain ⟨k, rfl, hk, HO, HB, HS⟩ := hrel
      have hMr : MB wr g 66 R C f := HM1.out.below HB.out hgg
      have HBW := Lib.hid (show Below w.heap.size w wr from by rw [← HG.out]; exact HBV.out.trans (HB.out.mono (by omega)))
      by_cases hlt : k < R
      · have c1 := hMr.cols
        have hset := bS_set (rowT C f) R k hlt
        have hi1 : (k : Int) < (R : Int) := by omega
        have hi2 : (k : Int) < 6 := by omega
        have hi3 : (C : Int) ≤ 6 := by omega
        obtain ⟨x, hx⟩ : ∃ x : ByteArray, x = ⟨(rowT C f k).toArray⟩ := ⟨_, rfl⟩
        rw [← hx] at hset
        have hcall : ∀ u : World, Below g2 wv u → u.ownsRow g2 9 1 (.slice (some ⟨g2, 0, none⟩) R R) R ((bS (rowT C f) R k).map Value.string) → g2 ≤ u.heap.size → Calls Tryd.prog 19 #[.slice (some ⟨g, 2 + k * 6, none⟩) C 6] u fun e u' => e = .returned (.string x) ∧ u'.cell? ⟨g, 1, none⟩ = some (.int .i8 (C : Int)) ∧ (∃ y, u'.cell? ⟨g2, k, none⟩ = some y) ∧ u'.frozen? ⟨g2, k, none⟩ = false ∧ Below g2 wv u' ∧ g2 ≤ u'.heap.size ∧ u'.ownsRow g2 9 1 (.slice (some ⟨g2, 0, none⟩) R R) R ((bS (rowT C f) R k).map Value.string) := by
          intro u hu ho hsu
          have hMu : MB u g 66 R C f := HM1.out.below hu hgg
          have hbu : Below w.heap.size w u := by rw [← HG.out]; exact HBV.out.trans (hu.mono (by omega))
          refine (impl_NimsText _ _ (by rw [rowZ_len]; omega) _ (hMu.rowNS HF.out k (by omega) (by omega) 6) (HTAB.out.below hbu)).mono ?_
          rintro e u' ⟨rfl, hb⟩
          have hb' := hu.trans (hb.mono hsu)
          have ho2 := own_below ho hb
          refine ⟨by rw [hx]; rfl, (HM1.out.below hb' hgg : MB u' g 66 R C f).cols, ?_, ho2.frozenAt k, hb', Nat.le_trans hsu hb.size, ho2⟩
          rw [ho2.cellAt k (by omega), List.getElem?_map, bS_at _ R k k hlt]
          exact ⟨_, rfl⟩
        have HCALL := Lib.hid hcall
        have HSET := Lib.hid hset
        clear hcall hset hx hMr
        have HOD : Hid (wr.drew.ownsRow g2 9 1 (.slice (some ⟨g2, 0, none⟩) R R) R ((bS (rowT C f) R k).map Value.string)) := Lib.hid HO.out
        go_wp2_with fail
        go_region_held (fun u => u.cell? ⟨g, 1, none⟩ = some (.int .i8 (C : Int))) (first | exact hc2 | exact c1 | exact (World.cell?_setCell_far _ _ _ _ (Ne.symm hne)).trans hc2)
          (first | (go_at_call 19; refine (HCALL.out wr.drew (below_drew HB.out) HOD.out HS.out).mono ?_; rintro e w2 ⟨rfl, hc2, ⟨y, hy⟩, hfz, hb2, hs2, ho2⟩; have HQ2 := Lib.hid (And.intro hb2 (And.intro hs2 ho2)); clear hb2 hs2 ho2))
        have q3 := (HQ2.out.2.2.stored k (.string x)).1
        rw [HSET.out] at q3
        have HB2 := Lib.hid (HQ2.out.1.setCell (p := ⟨g2, k, none⟩) (Nat.le_refl _) (.string x))
        have HS2 : Hid (g2 ≤ (w2.setCell ⟨g2, k, none⟩ (.string x)).heap.size) := Lib.hid (by have := HQ2.out.2.1; simp [World.setCell]; omega)
        have HO2 := Lib.hid q3
        clear q3 HO HB HS HOD HQ2
        go_wp2_with fail
        go_roundw
        case rel => exact ⟨k + 1, by go_num, by omega, HO2, HB2, HS2⟩
        case measure => simp [intOf]; omega
      · obtain rfl : R = k := by omega
        have hj := Tryd.strings_Join g2 0 R (bS (rowT C f) R R) ⟨#[59]⟩ wr (fun j x hx => by
          have hj : j < R := by
            have := (List.getElem?_eq_some_iff.1 hx).1
            rwa [bS_len] at this
          rw [Nat.zero_add, HO.out.cellAt j (by omega), List.getElem?_map, hx]; rfl) (HO.out.lt g2 rfl).2 (by rw [bS_len]; omega) (by rw [bS_len]; exact Nat.le_refl _) (by
          rw [bS_end, show (⟨#[59]⟩ : ByteArray).data.toList = [59] from rfl]
          have := jt_len 59 (rowT C f) 132 R (fun i _ => rowT_len C (by omega) f HF.out i)
          unfold jt at this
          omega)
        rw [bS_len, bS_end, show (⟨#[59]⟩ : ByteArray).data.toList = [59] from rfl] at hj
        have HJ := Lib.hid hj
        clear hj
        go_wp2_with fail
        refine HJ.out.mono ?_
        rintro e w3 ⟨rfl, hb3⟩
        have HB3 := Lib.hid (bchain HBW.out hb3)
        clear hb3
        go_wp2_with fail
        go_ret
        exact ⟨by rw [HE.out]; rfl, HB3.out⟩
  · have hE : mtx r c f = [] := by unfold mtx; rw [if_neg hok]
    have hok' : okB r c f = false := by simpa using hok
    rw [hok']
    have HE := Lib.hid hE
    have HB := Lib.hid hBv
    clear hm hok hok' a4 a1 hE a5 hbv hM hBv
    go_wp2_with fail
    go_ret
    exact ⟨by rw [HE.out]; rfl, by rw [← HG.out]; exact HB.out⟩
end Go.Proofs.YtklddmmbbaaliaaDoor
