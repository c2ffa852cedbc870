/-
  A word repaired by a list of words: RepairWith.
-/
import Derived.Test.YthhjhfkcgokffaaYg
import Derived.Deep.Cut
namespace Go.Proofs.Ythhjhfkcgokffaa
set_option linter.unusedVariables false
set_option linter.unusedSimpArgs false
open Go.ChangeShapes Go.WideShapes Go.ChangeAt Go.RowKit

/-- is the word at place i of the list further away than told? -/
def farW (gs : List (List Int)) (z : List Int) (t : Int) (i : Nat) : Bool := decide (t < (apZ gs z i : Int))
def nearL (gs : List (List Int)) (z : List Int) (t : Int) (k : Nat) : List (List Int) := kpt (fun i => gs.getD i []) (farW gs z t) k
theorem kpt_mono {α : Type} (us : Nat → α) (p : Nat → Bool) (k : Nat) : ∀ j, (kpt us p k).length ≤ (kpt us p (k + j)).length
  | 0 => Nat.le_refl _
  | j + 1 => by
    have := kpt_mono us p k j
    rw [← Nat.add_assoc, kpt, List.length_append]
    omega
def rpC (n : Int) (gs : List (List Int)) (z : List Int) (t : Int) : Int :=
  if lsC n gs [z] = 0 then (if 0 ≤ t ∧ t ≤ 7 then (if (nearL gs z t gs.length).length = 0 then 6 else if (nearL gs z t gs.length).length = 1 then 0 else 8) else 2) else lsC n gs [z]
def rpA (n : Int) (gs : List (List Int)) (z : List Int) (t : Int) : List Int := if rpC n gs z t = 0 then (nearL gs z t gs.length).getD 0 [] else []
section
variable {n : Int} {gs : List (List Int)} {z : List Int} {t : Int}
theorem rpA_no (h : ¬ rpC n gs z t = 0) : rpA n gs z t = [] := by unfold rpA; rw [if_neg h]
theorem rp_no (h : ¬ lsC n gs [z] = 0) : rpC n gs z t = lsC n gs [z] ∧ rpA n gs z t = [] := by
  have e : rpC n gs z t = lsC n gs [z] := by unfold rpC; rw [if_neg h]
  exact ⟨e, rpA_no (by rw [e]; exact h)⟩
theorem rp_range (h : lsC n gs [z] = 0) (h2 : ¬ (0 ≤ t ∧ t ≤ 7)) : rpC n gs z t = 2 ∧ rpA n gs z t = [] := by
  have e : rpC n gs z t = 2 := by unfold rpC; rw [if_pos h, if_neg h2]
  exact ⟨e, rpA_no (by rw [e]; decide)⟩
theorem rp_none (h : lsC n gs [z] = 0) (h2 : 0 ≤ t ∧ t ≤ 7) (h3 : (nearL gs z t gs.length).length = 0) : rpC n gs z t = 6 ∧ rpA n gs z t = [] := by
  have e : rpC n gs z t = 6 := by unfold rpC; rw [if_pos h, if_pos h2, if_pos h3]
  exact ⟨e, rpA_no (by rw [e]; decide)⟩
theorem rp_one {x : List Int} (h : lsC n gs [z] = 0) (h2 : 0 ≤ t ∧ t ≤ 7) (h3 : nearL gs z t gs.length = [x]) : rpC n gs z t = 0 ∧ rpA n gs z t = x := by
  have e : rpC n gs z t = 0 := by unfold rpC; rw [if_pos h, if_pos h2, h3, if_neg (by simp), if_pos (by rfl)]
  exact ⟨e, by unfold rpA; rw [if_pos e, h3]; rfl⟩
theorem rp_many (h : lsC n gs [z] = 0) (h2 : 0 ≤ t ∧ t ≤ 7) (h3 : 2 ≤ (nearL gs z t gs.length).length) : rpC n gs z t = 8 ∧ rpA n gs z t = [] := by
  have e : rpC n gs z t = 8 := by unfold rpC; rw [if_pos h, if_pos h2, if_neg (by omega), if_neg (by omega)]
  exact ⟨e, rpA_no (by rw [e]; decide)⟩
theorem near_mem : ∀ (k : Nat) (x : List Int), x ∈ nearL gs z t k → ∃ i, i < k ∧ x = gs.getD i []
  | 0, x, h => by cases h
  | k + 1, x, h => by
    unfold nearL at h
    rw [kpt, List.mem_append] at h
    rcases h with h | h
    · obtain ⟨i, hi, e⟩ := near_mem k x h
      exact ⟨i, by omega, e⟩
    · split at h
      · cases h
      · rw [List.mem_singleton] at h
        exact ⟨k, by omega, h⟩
theorem rpA_len (n : Int) (gs : List (List Int)) (z : List Int) (t : Int) (h : ∀ i, i < gs.length → (gs.getD i []).length ≤ 1048576) : (rpA n gs z t).length ≤ 1048576 := by
  unfold rpA
  split
  · by_cases h0 : 0 < (nearL gs z t gs.length).length
    · have e : (nearL gs z t gs.length).getD 0 [] = (nearL gs z t gs.length)[0] := by simp [List.getD, h0]
      obtain ⟨i, hi, e2⟩ := near_mem gs.length _ (List.getElem_mem h0)
      rw [e, e2]; exact h i hi
    · have : nearL gs z t gs.length = [] := List.length_eq_zero_iff.1 (by omega)
      rw [this]; exact Nat.zero_le _
  · exact Nat.zero_le _
theorem near_far {k : Nat} (h : farW gs z t k = true) : nearL gs z t (k + 1) = nearL gs z t k := kpt_yes h
theorem near_near {k : Nat} (h : farW gs z t k = false) : nearL gs z t (k + 1) = nearL gs z t k ++ [gs.getD k []] := kpt_no h
theorem near_two {k : Nat} {x : List Int} (hk : k < gs.length) (h : farW gs z t k = false) (h2 : nearL gs z t k = [x]) : 2 ≤ (nearL gs z t gs.length).length := by
  have h1 : (nearL gs z t (k + 1)).length = 2 := by rw [near_near h, h2]; rfl
  have := kpt_mono (fun i => gs.getD i []) (farW gs z t) (k + 1) (gs.length - (k + 1))
  rw [show k + 1 + (gs.length - (k + 1)) = gs.length from by omega] at this
  have h3 : (nearL gs z t (k + 1)).length ≤ (nearL gs z t gs.length).length := this
  omega
end
set_option maxHeartbeats 4000000 in
theorem spec_RepairWith (n : Int) (v : Value) (gs : List (List Int)) (u : Value) (z : List Int) (t : Int) (hb : -9223372036854775808 ≤ n ∧ n ≤ 9223372036854775807) (hn : gs.length ≤ 1048576) (hm : ∀ i, i < gs.length → (gs.getD i []).length ≤ 1048576) (hz : z.length ≤ 1048576) (ht : -9223372036854775808 ≤ t ∧ t ≤ 9223372036854775807) (w : World) (h : WS w v gs) (h' : NS w u z) :
    Calls Try.prog 62 #[.int .i64 n, v, u, .int .i64 t] w fun e w' => ∃ r, e = .returned (.tuple #[r, .int .i64 (rpC n gs z t)]) ∧ NS w' r (rpA n gs z t) ∧ Below w.heap.size w w' := by
  obtain ⟨i0, hi, hz0, hz1, hz2⟩ := info_parts info25
  have HWS := Lib.hid h
  have HNS := Lib.hid h'
  obtain ⟨A, c, us, rfl, hc, hu⟩ := h.open
  have HM := Lib.hid hm
  have HB := Lib.hid hb
  have HC := Lib.hid hc
  have HU := Lib.hid hu
  clear h hc hu hm hb h'
  have hin := l00In_any t 0 7
  by_cases h0 : lsC n gs [z] = 0
  case neg =>
    rw [(rp_no (t := t) h0).1, (rp_no (t := t) h0).2]
    obtain ⟨cd, hcd⟩ : ∃ cd, cd = lsC n gs [z] := ⟨_, rfl⟩
    rw [← hcd] at h0 ⊢
    have HCD := Lib.hid hcd
    have T1 : (cd != 0) = true := by rw [bne_iff_ne]; exact h0
    have T2 : (cd == 0) = false := by rw [beq_eq_false_iff_ne]; exact h0
    clear hcd h0 hin
    go_enter Try.func62, Try.ntmps62
    go_wp2_with fail
    refine (l06Asked_any n _ u gs z hn HM.out hz HB.out _ HWS.out HNS.out).mono ?_
    rintro e w' ⟨rfl, m0, rfl⟩
    rw [← HCD.out]
    go_wp2_with fail
    go_ret2
    exact ⟨_, rfl, NS.nil _ _ _, (bdrewN (Below.refl _ w) m0).alloc (Nat.le_refl _) _⟩
  by_cases h2 : 0 ≤ t ∧ t ≤ 7
  case neg =>
    rw [(rp_range h0 h2).1, (rp_range h0 h2).2]
    have HIN := Lib.hid (show inB t 0 7 = false from by unfold inB; rw [decide_eq_false_iff_not]; exact h2)
    have H0 := Lib.hid h0
    have HI := Lib.hid hin
    clear h0 hin h2
    go_enter Try.func62, Try.ntmps62
    go_wp2_with fail
    refine (l06Asked_any n _ u gs z hn HM.out hz HB.out _ HWS.out HNS.out).mono ?_
    rintro e w' ⟨rfl, m0, rfl⟩
    rw [H0.out]
    go_wp2_with fail
    refine (HI.out _).mono ?_
    rintro e w' ⟨rfl, rfl⟩
    rw [HIN.out]
    go_wp2_with fail
    go_ret2
    exact ⟨_, rfl, NS.nil _ _ _, (bdrewN (Below.refl _ w) m0).alloc (Nat.le_refl _) _⟩
  have HIN := Lib.hid (show inB t 0 7 = true from by unfold inB; rw [decide_eq_true_iff]; exact h2)
  have HNONE := Lib.hid (fun h3 => rp_none (n := n) (gs := gs) (z := z) (t := t) h0 h2 h3)
  have HONE := Lib.hid (fun x h3 => rp_one (n := n) (gs := gs) (z := z) (t := t) (x := x) h0 h2 h3)
  have HMANY := Lib.hid (fun h3 => rp_many (n := n) (gs := gs) (z := z) (t := t) h0 h2 h3)
  obtain ⟨hlen, hz7, h300⟩ := ask_len h0
  have HLN := Lib.hid hlen
  have H0 := Lib.hid h0
  have HI := Lib.hid hin
  obtain ⟨rc, hrc⟩ : ∃ rc, rc = rpC n gs z t := ⟨_, rfl⟩
  obtain ⟨ra, hra⟩ : ∃ ra, ra = rpA n gs z t := ⟨_, rfl⟩
  rw [← hrc, ← hra]
  rw [← hrc, ← hra] at HNONE HMANY
  have HONE2 : Hid (∀ x, nearL gs z t gs.length = [x] → rc = 0 ∧ ra = x) := Lib.hid (fun x h3 => by rw [hrc, hra]; exact HONE.out x h3)
  clear h0 hin hlen hrc hra HONE
  go_enter Try.func62, Try.ntmps62
  go_wp2_with fail
  refine (l06Asked_any n _ u gs z hn HM.out hz HB.out _ HWS.out HNS.out).mono ?_
  rintro e w' ⟨rfl, m0, rfl⟩
  rw [H0.out]
  go_wp2_with fail
  refine (HI.out _).mono ?_
  rintro e w' ⟨rfl, rfl⟩
  rw [HIN.out]
  go_wp2_with fail
  go_loopw [12, 11] (fun y o wr => ∃ k m : Nat, y = .int .i64 (k : Int) ∧ k ≤ gs.length ∧ wr = w.drewN m ∧ ((o = .int .i64 (-1) ∧ Hid (nearL gs z t k = [])) ∨ ∃ b : Nat, o = .int .i64 (b : Int) ∧ b < k ∧ Hid (nearL gs z t k = [gs.getD b []]))) (fun y _ _ => gs.length - (intOf y).toNat)
  case atStart => exact ⟨0, m0, rfl, Nat.zero_le _, rfl, .inl ⟨rfl, Lib.hid rfl⟩⟩
  case round =>
    obtain ⟨k, m, rfl, hk, rfl, ho⟩ := hrel
    by_cases hlt : k < gs.length
    · obtain ⟨b, off, rfl, hlb, hcell⟩ := HC.out (by omega)
      have i1 : (k : Int) < (gs.length : Int) := by omega
      have q1 : w.cell? ⟨b, off + k, none⟩ = some (us k) := hcell k hlt
      have n1 := HU.out k hlt
      have hea := l06Apart_any (us k) u (gs.getD k []) z (by rw [HLN.out _ hlt]; exact hz) (HLN.out _ hlt) (w.drewN m) (n1.below (bdrewN (Below.refl _ w) m)) (HNS.out.below (bdrewN (Below.refl _ w) m))
      rw [show apN (gs.getD k []) z = apZ gs z k from rfl] at hea
      have hfar : farW gs z t k = decide (t < (apZ gs z k : Int)) := rfl
      have hyes := fun h => near_far (gs := gs) (z := z) (t := t) (k := k) h
      have hno := fun h => near_near (gs := gs) (z := z) (t := t) (k := k) h
      obtain ⟨ux, hux⟩ : ∃ y, y = us k := ⟨_, rfl⟩
      obtain ⟨a, ha⟩ : ∃ a, a = apZ gs z k := ⟨_, rfl⟩
      obtain ⟨fb, hfb⟩ : ∃ fb, fb = farW gs z t k := ⟨_, rfl⟩
      rw [← hux, ← ha] at hea
      rw [← hux] at q1
      rw [← ha, ← hfb] at hfar
      rw [← hfb] at hyes hno
      have htwo := fun x (h3 : nearL gs z t k = [x]) (h4 : fb = false) => near_two (gs := gs) (z := z) (t := t) (x := x) hlt (by rw [← hfb]; exact h4) h3
      have HEA := Lib.hid hea
      have HYES := Lib.hid hyes
      have HNO := Lib.hid hno
      have HTWO := Lib.hid htwo
      have HCL := Lib.hid hcell
      clear hcell n1 hux ha hfb hea hyes hno htwo
      cases fb with
      | true =>
        have T1 : decide (t < (a : Int)) = true := hfar.symm
        have HST := Lib.hid (HYES.out rfl)
        clear hfar
        rcases ho with ⟨rfl, HX⟩ | ⟨bb, rfl, hbk, HX⟩
        · go_wp2_with fail
          refine HEA.out.mono ?_
          rintro e w' ⟨rfl, m3, rfl⟩
          go_wp2_with fail
          exact ⟨⟨k + 1, m + m3, by go_num, by omega, by simp, .inl ⟨rfl, Lib.hid (HST.out.trans HX.out)⟩⟩, by simp [intOf]; omega⟩
        · go_wp2_with fail
          refine HEA.out.mono ?_
          rintro e w' ⟨rfl, m3, rfl⟩
          go_wp2_with fail
          exact ⟨⟨k + 1, m + m3, by go_num, by omega, by simp, .inr ⟨bb, rfl, by omega, Lib.hid (HST.out.trans HX.out)⟩⟩, by simp [intOf]; omega⟩
      | false =>
        have T1 : decide (t < (a : Int)) = false := hfar.symm
        have HST := Lib.hid (HNO.out rfl)
        clear hfar
        rcases ho with ⟨rfl, HX⟩ | ⟨bb, rfl, hbk, HX⟩
        · go_wp2_with fail
          refine HEA.out.mono ?_
          rintro e w' ⟨rfl, m3, rfl⟩
          go_wp2_with fail
          exact ⟨⟨k + 1, m + m3, by go_num, by omega, by simp, .inr ⟨k, rfl, by omega, Lib.hid (by rw [HST.out, HX.out]; rfl)⟩⟩, by simp [intOf]; omega⟩
        · have T2 : decide ((0 : Int) ≤ (bb : Int)) = true := by simp
          obtain ⟨rfl, rfl⟩ := HMANY.out (HTWO.out _ HX.out rfl)
          go_wp2_with fail
          refine HEA.out.mono ?_
          rintro e w' ⟨rfl, m3, rfl⟩
          go_wp2_with fail
          go_ret2
          exact ⟨_, rfl, NS.nil _ _ _, (bdrewN (Below.refl _ w) (m + m3)).alloc (Nat.le_refl _) _⟩
    · obtain rfl : k = gs.length := by omega
      have T2 : decide ((gs.length : Int) < (gs.length : Int)) = false := by simp
      rcases ho with ⟨rfl, HX⟩ | ⟨bb, rfl, hbk, HX⟩
      · obtain ⟨rfl, rfl⟩ := HNONE.out (by rw [HX.out]; rfl)
        go_wp2_with fail
        go_ret2
        exact ⟨_, rfl, NS.nil _ _ _, (bdrewN (Below.refl _ w) m).alloc (Nat.le_refl _) _⟩
      · obtain ⟨rfl, hra⟩ := HONE2.out _ HX.out
        have HR := Lib.hid hra
        clear hra
        obtain ⟨b, off, rfl, hlb, hcell⟩ := HC.out (by omega)
        have i2 : (bb : Int) < (gs.length : Int) := by omega
        have T3 : decide ((bb : Int) < 0) = false := by simp
        have q1 : ((w.drewN m).alloc (.cells #[] 39)).cell? ⟨b, off + bb, none⟩ = some (us bb) := (((bdrewN (Below.refl w.heap.size w) m).alloc (Nat.le_refl _) (.cells #[] 39)).cell (p := ⟨b, off + bb, none⟩) hlb).trans (hcell bb (by omega))
        have q2 : w.cell? ⟨b, off + bb, none⟩ = some (us bb) := hcell bb (by omega)
        have n1 := HU.out bb hbk
        have l1 : (gs.getD bb []).length ≤ 7 := by rw [HLN.out _ hbk]; exact hz7
        obtain ⟨x, hx⟩ : ∃ x, x = gs.getD bb [] := ⟨_, rfl⟩
        obtain ⟨ux, hux⟩ : ∃ y, y = us bb := ⟨_, rfl⟩
        rw [← hx] at HR n1 l1
        rw [← hux] at q1 q2 n1
        have HS := Lib.hid (n1.below ((bdrewN (Below.refl w.heap.size w) m).alloc (Nat.le_refl _) (.cells #[] 39)))
        have HXU := Lib.hid (inU_of n1)
        have E0 := Lib.hid (World.ownsRow_made (w.drewN m) (e := 39) (size := 1) (base := w.heap.size) #[] 0 (Nat.le_refl _) (Nat.zero_le _) rfl)
        have HCL := Lib.hid hcell
        clear hcell hx hux n1
        go_wp2_with (at_builtin; refine wpList_append_ns rfl _ _ 25 25 rfl w.heap.size 39 i0 (.int .u16 0) Try.underlying25 Try.underlying25 hi hz0 hz1 hz2 rfl _ 0 _ rfl E0.out _ x rfl HS.out (by omega) (by simp) ?_)
        intro s' wy hown hgrow _
        go_wp2_with fail
        go_ret2
        refine ⟨_, rfl, ?_, ((bdrewN (Below.refl w.heap.size w) m).alloc (Nat.le_refl _) _).grown hgrow (by simp) (by intro k hk; simp [Value.ownBlock] at hk; omega)⟩
        rw [HR.out]
        have : wy.ownsRow w.heap.size 39 1 s' x.length (u16s x) := by simpa using hown
        exact NS.of_own this HXU.out
theorem hao4 (w : World) (o : Obj) (k : Nat) (h : k < w.heap.size) : (w.alloc o).heap[k]? = w.heap[k]? := by
  show (w.heap.push o)[k]? = _
  rw [Array.getElem?_push_lt h, Array.getElem?_eq_getElem h]
theorem nw2' (w : World) (A B : Obj) : ((w.alloc A).alloc B).heap[w.heap.size]? = some A ∧ ((w.alloc A).alloc B).heap[w.heap.size + 1]? = some B ∧ Below w.heap.size w ((w.alloc A).alloc B) ∧ ((w.alloc A).alloc B).heap.size = w.heap.size + 1 + 1 := by
  have h1 : (w.alloc A).heap[w.heap.size]? = some A := heap_alloc_new _ _
  have h2 : Below w.heap.size w (w.alloc A) := (Below.refl _ w).alloc (Nat.le_refl _) A
  have h3 : (w.alloc A).heap.size = w.heap.size + 1 := World.size_alloc _ _
  refine ⟨?_, ?_, h2.alloc (by omega) B, by rw [World.size_alloc, h3]⟩
  · rw [hao4 _ _ _ (by omega)]; exact h1
  · rw [← h3]; exact heap_alloc_new _ _
set_option maxHeartbeats 1000000 in
theorem isFar_any (g1 g2 : Nat) (Az : Option Addr) (cz : Nat) (ui : Value) (x z : List Int) (t : Int) (hz : z.length ≤ 1048576) (hl : x.length = z.length) (w : World) (h1 : w.cell? ⟨g1, 0, none⟩ = some (.slice Az z.length cz)) (h2 : w.cell? ⟨g2, 0, none⟩ = some (.int .i64 t)) (hx : NS w ui x) (hzs : NS w (.slice Az z.length cz) z) :
    Calls Try.prog 114 #[ui, .pointer (some ⟨g1, 0, none⟩), .pointer (some ⟨g2, 0, none⟩)] w fun e w' => e = .returned (.bool (decide (t < (apN x z : Int)))) ∧ Below w.heap.size w w' := by
  have hea : ∀ y, Calls Try.prog 82 #[.slice Az z.length cz, ui] (w.drewN y) fun e w'' => e = .returned (.int .i64 (apN x z : Int)) ∧ ∃ n, w'' = w.drewN n :=
    fun y => (apart_any _ ui z x hz hl.symm (w.drewN y) (hzs.below (bdrewN (Below.refl _ w) y)) (hx.below (bdrewN (Below.refl _ w) y))).mono (by rintro e w' ⟨rfl, m, rfl⟩; exact ⟨by rw [apN_comm hl.symm], y + m, by simp⟩)
  obtain ⟨a, ha⟩ : ∃ a, a = apN x z := ⟨_, rfl⟩
  rw [← ha] at hea ⊢
  obtain ⟨lz, hlz⟩ : ∃ lz, lz = z.length := ⟨_, rfl⟩
  rw [← hlz] at hea h1
  have HEA := Lib.hid hea
  obtain ⟨bv, hbv⟩ : ∃ bv, bv = decide (t < (a : Int)) := ⟨_, rfl⟩
  have T1 := hbv.symm
  rw [← hbv]
  clear hea ha hlz hbv hx hzs
  go_enter Try.func114, Try.ntmps114
  go_wp2_with fail
  go_quiet ((with_reducible exact HEA.out _))
  go_wp2_with fail
  go_ret
  exact ⟨by first | rfl | rw [T1], bdrewN (Below.refl _ w) nq⟩
set_option maxHeartbeats 4000000 in
theorem impl_RepairWith (n : Int) (v : Value) (gs : List (List Int)) (u : Value) (z : List Int) (t : Int) (hb : -9223372036854775808 ≤ n ∧ n ≤ 9223372036854775807) (hn : gs.length ≤ 1048576) (hm : ∀ i, i < gs.length → (gs.getD i []).length ≤ 1048576) (hz : z.length ≤ 1048576) (ht : -9223372036854775808 ≤ t ∧ t ≤ 9223372036854775807) (w : World) (h : WC w v gs) (h' : NS w u z) :
    Calls Try.prog 63 #[.int .i64 n, v, u, .int .i64 t] w fun e w' => ∃ r, e = .returned (.tuple #[r, .int .i64 (rpC n gs z t)]) ∧ PO w' w.heap.size r (rpA n gs z t) ∧ Below w.heap.size w w' := by
  have hmf : ∀ (fn : Fn) (first cap : Array Value) (w : World), (Instr.makeFunc fn first cap).run Try.prog w = .ok (.func fn first cap) w := fun _ _ _ _ => rfl
  have HNS := Lib.hid h'
  have HWS := Lib.hid h.ws
  obtain ⟨A, c, us, rfl, hc, hu⟩ := h.ws.open
  have HM := Lib.hid hm
  have HB := Lib.hid hb
  have HC := Lib.hid hc
  have HU := Lib.hid hu
  obtain ⟨Az, cz, rfl⟩ := h'.form
  obtain ⟨t0, t1⟩ := ht
  clear h hc hu hm hb h'
  obtain ⟨rc, hrc⟩ : ∃ rc, rc = rpC n gs z t := ⟨_, rfl⟩
  obtain ⟨ra, hra⟩ : ∃ ra, ra = rpA n gs z t := ⟨_, rfl⟩
  rw [← hrc, ← hra]
  have HRC := Lib.hid hrc
  have HRA := Lib.hid hra
  clear hrc hra
  go_enter Try.func63, Try.ntmps63
  go_upto_region 1 with fail
  obtain ⟨a1, a2, hb1, s1⟩ := nw2' w (.cells #[.slice Az z.length cz] 25) (.cells #[.int .i64 t] 2)
  generalize World.alloc (World.alloc w _) _ = w1 at a1 a2 hb1 s1 ⊢
  have k1 : w1.cell? ⟨w.heap.size, 0, none⟩ = some (.slice Az z.length cz) := (cell_of_row _ _ _ _ _ _ a1).trans rfl
  have k2 : w1.cell? ⟨w.heap.size + 1, 0, none⟩ = some (.int .i64 t) := (cell_of_row _ _ _ _ _ _ a2).trans rfl
  have HK1 := Lib.hid k1
  have HK2 := Lib.hid k2
  have HB1 := Lib.hid hb1
  have HS1 := Lib.hid s1
  have HOL := Lib.hid (openList_one n _ _ gs z hn HM.out hz HB.out w1 (HWS.out.below hb1) (HNS.out.below hb1))
  obtain ⟨cb, hcb⟩ : ∃ cb, cb = lsB n gs [z] := ⟨_, rfl⟩
  rw [← hcb] at HOL
  clear hcb a1 a2 hb1 s1 k2
  by_cases h0 : lsC n gs [z] = 0
  case neg =>
    have hh := rp_no (t := t) h0
    rw [← HRC.out, ← HRA.out] at hh
    obtain ⟨e1, rfl⟩ := hh
    rw [← e1] at h0 HOL
    have T1 : (rc != 0) = true := by rw [bne_iff_ne]; exact h0
    clear e1 h0
    go_wp2_with fail
    refine HOL.out.mono ?_
    rintro e w' ⟨rfl, hb2⟩
    have HB2 := Lib.hid (bchain HB1.out hb2)
    clear hb2 k1
    go_wp2_with fail
    go_ret2
    exact ⟨_, rfl, PO.nil0 _ _, HB2.out⟩
  rw [h0] at HOL
  by_cases h2 : 0 ≤ t ∧ t ≤ 7
  case neg =>
    have hh := rp_range h0 h2
    rw [← HRC.out, ← HRA.out] at hh
    obtain ⟨rfl, rfl⟩ := hh
    clear h0
    go_wp2_with fail
    refine HOL.out.mono ?_
    rintro e w' ⟨rfl, hb2⟩
    have HB2 := Lib.hid (bchain HB1.out hb2)
    have k2 := (hb2.cell (p := ⟨w.heap.size + 1, 0, none⟩) (by rw [HS1.out]; show w.heap.size + 1 < _; omega)).trans HK2.out
    clear hb2 k1
    by_cases hneg : t < 0
    · have T1 : decide (t < 0) = true := by simpa using hneg
      go_wp2_with fail
      go_ret2
      exact ⟨_, rfl, PO.nil0 _ _, HB2.out⟩
    · have T1 : decide (t < 0) = false := by simpa using hneg
      have T2 : decide ((7 : Int) < t) = true := by rw [decide_eq_true_iff]; omega
      go_wp2_with fail
      go_ret2
      exact ⟨_, rfl, PO.nil0 _ _, HB2.out⟩
  have HNONE := Lib.hid (fun h3 => rp_none (n := n) (gs := gs) (z := z) (t := t) h0 h2 h3)
  have HONE := Lib.hid (fun x h3 => rp_one (n := n) (gs := gs) (z := z) (t := t) (x := x) h0 h2 h3)
  have HMANY := Lib.hid (fun h3 => rp_many (n := n) (gs := gs) (z := z) (t := t) h0 h2 h3)
  obtain ⟨hlen, hz7, h300⟩ := ask_len h0
  have HLN := Lib.hid hlen
  rw [← HRC.out, ← HRA.out] at HNONE HMANY
  have HONE2 : Hid (∀ x, nearL gs z t gs.length = [x] → rc = 0 ∧ ra = x) := Lib.hid (fun x h3 => by rw [HRC.out, HRA.out]; exact HONE.out x h3)
  have T1 : decide (t < 0) = false := by rw [decide_eq_false_iff_not]; omega
  have T2 : decide ((7 : Int) < t) = false := by rw [decide_eq_false_iff_not]; omega
  clear h0 hlen HONE h2
  go_wp2_with fail
  refine HOL.out.mono ?_
  rintro e w2 ⟨rfl, hb2⟩
  have HB2 := Lib.hid (bchain HB1.out hb2)
  have k2 := (hb2.cell (p := ⟨w.heap.size + 1, 0, none⟩) (by rw [HS1.out]; show w.heap.size + 1 < _; omega)).trans HK2.out
  have HK1' := Lib.hid ((hb2.cell (p := ⟨w.heap.size, 0, none⟩) (by rw [HS1.out]; show w.heap.size < _; omega)).trans HK1.out)
  have HK2' := Lib.hid k2
  have HSZ : Hid (w.heap.size + 1 < w2.heap.size) := Lib.hid (by have := hb2.size; have := HS1.out; omega)
  clear hb2 k1 HK1 HK2
  -- the list, cloned
  obtain ⟨vs, hv1, hv2⟩ := (HWS.out.below HB2.out).vs
  have HCL := Lib.hid (cloneWs_any _ vs (by rw [hv2.1]; exact hn) w2 hv1)
  have hat : ∀ i, i < gs.length → vs[i]? = some (us i) := fun i hi => by
    obtain ⟨A', c', e, hc', _⟩ := hv1
    injection e with eA el ec
    subst eA
    obtain ⟨b, off, e, hlt, hcell⟩ := HC.out (by omega)
    obtain ⟨b', off', e', hlt', hcell'⟩ := hc' (by rw [hv2.1]; omega)
    cases e
    cases e'
    obtain ⟨x, hx⟩ : ∃ x, vs[i]? = some x := ⟨_, List.getElem?_eq_getElem (by rw [hv2.1]; exact hi)⟩
    rw [hx]
    have q := hcell' i x hx
    rw [(HB2.out.cell (p := ⟨b, off + i, none⟩) hlt).trans (hcell i hi)] at q
    exact q.symm
  have HAT := Lib.hid hat
  have hlv : vs.length = gs.length := hv2.1
  have HLV := Lib.hid hlv
  have htest : TestAt 114 #[.pointer (some ⟨w.heap.size, 0, none⟩), .pointer (some ⟨w.heap.size + 1, 0, none⟩)] us (farW gs z t) gs.length w2 := by
    intro i W hi hW
    have hbw := bchain HB2.out hW
    exact isFar_any w.heap.size (w.heap.size + 1) Az cz (us i) (gs.getD i []) z t hz (HLN.out i hi) W ((hW.cell (p := ⟨w.heap.size, 0, none⟩) (by have := HSZ.out; show w.heap.size < _; omega)).trans HK1'.out) ((hW.cell (p := ⟨w.heap.size + 1, 0, none⟩) HSZ.out).trans HK2'.out) ((HU.out i hi).below hbw) (HNS.out.below hbw)
  have HTEST := Lib.hid htest
  clear hat hv1 hv2 htest hlv
  go_wp2_with fail
  refine HCL.out.mono ?_
  rintro e w3 ⟨r, rfl, ho, hb3⟩
  rw [HLV.out] at ho
  have HDF := Lib.hid (deleteFunc_any w2 r gs.length hn 114 #[.pointer (some ⟨w.heap.size, 0, none⟩), .pointer (some ⟨w.heap.size + 1, 0, none⟩)] (enters_of Try.func114 (by kernel_rfl) rfl) us (fun i hi => by obtain ⟨a, b, e⟩ := (HU.out i hi).form; exact ⟨a, _, b, e⟩) (farW gs z t) vs HAT.out w3 hb3 ho HTEST.out)
  clear ho hb3 HCL HTEST k2
  go_wp2_with fail
  refine HDF.out.mono ?_
  rintro e w4 ⟨r4, rfl, hvs4, hb4⟩
  have HB4 := Lib.hid (bchain HB2.out hb4)
  have hvw := kpt_vw (us := us) (gs := gs) (p := farW gs z t) gs.length (fun i hi => (HU.out i hi).below HB4.out)
  have HVW : Hid (VW w4 (kpt us (farW gs z t) gs.length) (nearL gs z t gs.length)) := Lib.hid hvw
  have hl : (kpt us (farW gs z t) gs.length).length = (nearL gs z t gs.length).length := hvw.1
  obtain ⟨ks, hks⟩ : ∃ ks, ks = kpt us (farW gs z t) gs.length := ⟨_, rfl⟩
  obtain ⟨ns, hns⟩ : ∃ ns, ns = nearL gs z t gs.length := ⟨_, rfl⟩
  rw [← hks, ← hns] at HVW hl
  rw [← hks] at hvs4
  have hx2 := Lib.hid hns
  rw [← hns] at HNONE HMANY HONE2
  obtain ⟨A4, c4, rfl, hc4, h14⟩ := hvs4
  have hnl := kpt_len us (farW gs z t) gs.length
  rw [← hks] at hnl
  clear HDF hb4 hvw hks hns h14
  by_cases l0 : ks.length = 0
  · obtain ⟨rfl, rfl⟩ := HNONE.out (by omega)
    have T3 : ((ks.length : Int) == 0) = true := by rw [l0]; rfl
    clear hc4 l0
    go_wp2_with fail
    go_ret2
    exact ⟨_, rfl, PO.nil0 _ _, HB4.out⟩
  · by_cases l1 : ks.length = 1
    · obtain ⟨x, hx⟩ : ∃ x, ns = [x] := by
        cases ns with
        | nil => rw [l1] at hl; simp at hl
        | cons a r =>
          cases r with
          | nil => exact ⟨a, rfl⟩
          | cons b s => rw [l1] at hl; simp at hl
      obtain ⟨rfl, hra⟩ := HONE2.out x hx
      have HR := Lib.hid hra
      clear hra
      obtain ⟨b, off, rfl, hlt, hcell⟩ := hc4 (by omega)
      obtain ⟨u0, hu0, hn0⟩ := HVW.out.2 0 (by rw [hx]; simp)
      have q0 : w4.cell? ⟨b, off, none⟩ = some u0 := hcell 0 u0 hu0
      rw [hx] at hn0
      have hn0' : NS w4 u0 x := hn0
      have hxl : x.length ≤ 4194304 := by
        have := rpA_len n gs z t HM.out
        obtain ⟨i, hi, e⟩ := near_mem (gs := gs) (z := z) (t := t) gs.length x (by rw [← hx2.out, hx]; simp)
        have := HM.out i hi
        rw [e]; omega
      obtain ⟨A0, c0, rfl⟩ := hn0'.form
      have HCW := Lib.hid (cloneW_any A0 c0 x hxl w4 hn0')
      have HXU := Lib.hid (inU_of hn0')
      have T3 : ((ks.length : Int) == 0) = false := by rw [l1]; rfl
      have T4 : ((ks.length : Int) == 1) = true := by rw [l1]; rfl
      have i0 : (0 : Int) < (ks.length : Int) := by omega
      clear hc4 l0 l1 hcell hu0 hn0 hn0' hx hl
      go_wp2_with fail
      refine HCW.out.mono ?_
      rintro e w5 ⟨r5, rfl, ho5, hb5⟩
      have HB5 := Lib.hid (bchain HB4.out hb5)
      have HPO := Lib.hid ((PO.of_own ho5 rfl HXU.out).lower HB4.out.size)
      clear ho5 hb5
      go_wp2_with fail
      go_ret2
      exact ⟨_, rfl, by rw [HR.out]; exact HPO.out, HB5.out⟩
    · obtain ⟨rfl, rfl⟩ := HMANY.out (by omega)
      have T3 : ((ks.length : Int) == 0) = false := by rw [beq_eq_false_iff_ne]; omega
      have T4 : ((ks.length : Int) == 1) = false := by rw [beq_eq_false_iff_ne]; omega
      clear hc4 l0 l1 hl
      go_wp2_with fail
      go_ret2
      exact ⟨_, rfl, PO.nil0 _ _, HB4.out⟩
end Go.Proofs.Ythhjhfkcgokffaa
