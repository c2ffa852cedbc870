/-
  Lists of nimbers in memory of their own, also those that are the head of a longer row: read, marked, looked at again.
-/
import Derived.Test.YthhjhfkcgokffaaMark
import Derived.OwnWalk
namespace Go.Proofs.Ythhjhfkcgokffaa
set_option linter.unusedVariables false
set_option linter.unusedSimpArgs false
open Go.ChangeShapes Go.WideShapes Go.ChangeAt Go.RowKit

/-- the value v is a slice in memory of its own, from block B on, that holds the nimbers zs at the head of a row -/
def PO (w : World) (B : Nat) (v : Value) (zs : List Int) : Prop :=
  ∃ A c, v = .slice A zs.length c ∧ zs.length ≤ c ∧ c ≤ maxLen ∧ (∀ z ∈ zs, 0 ≤ z ∧ z < 65536) ∧
    (A = none → c = 0) ∧ (0 < zs.length → ∃ g k, A = some ⟨g, 0, none⟩ ∧ w.ownsRow B 39 1 (.slice (some ⟨g, 0, none⟩) zs.length k) zs.length (u16s zs))
theorem PO.of_own {w : World} {B n : Nat} {v : Value} {zs : List Int} (h : w.ownsRow B 39 1 v n (u16s zs)) (hn : zs.length = n) (hz : ∀ z ∈ zs, 0 ≤ z ∧ z < 65536) : PO w B v zs := by
  subst hn
  rcases h.2 with ⟨e, h0⟩ | ⟨g, cap, cur, e, hb, hg, h1, h2, h3⟩
  · subst e
    have h0' : zs.length = 0 := by first | exact h0 | omega
    exact ⟨none, 0, by rw [h0'], by omega, by unfold maxLen; omega, hz, fun _ => rfl, fun hn => by omega⟩
  · subst e
    exact ⟨some ⟨g, 0, none⟩, cap, rfl, h1, h2, hz, fun e => (by cases e), fun _ => ⟨g, cap, rfl, h⟩⟩
theorem PO.nil (w : World) (B : Nat) (A : Option Addr) (c : Nat) (hc : c ≤ maxLen) (h : A = none → c = 0) : PO w B (.slice A 0 c) [] :=
  ⟨A, c, rfl, Nat.zero_le _, hc, fun z hz => (by cases hz), h, fun hn => by simp at hn⟩
theorem PO.nil0 (w : World) (B : Nat) : PO w B (.slice none 0 0) [] := PO.nil w B none 0 (Nat.zero_le _) (fun _ => rfl)
theorem PO.ns {w : World} {B : Nat} {v : Value} {zs : List Int} (h : PO w B v zs) : NS w v zs := by
  obtain ⟨A, c, rfl, h1, h2, hz, h3, h4⟩ := h
  refine ⟨A, c, rfl, hz, fun hn => ?_⟩
  obtain ⟨g, k, rfl, ho⟩ := h4 hn
  rcases ho.2 with ⟨e, h0⟩ | ⟨g', cap, cur, e, hb, hg, _⟩
  · omega
  · cases e
    refine ⟨g, 0, rfl, (Array.getElem?_eq_some_iff.1 hg).1, fun i hi => ?_⟩
    rw [Nat.zero_add, ho.cellAt i (by omega)]
    simp [u16s, List.getD, hi]
theorem PO.all {w : World} {B : Nat} {v : Value} {zs : List Int} (h : PO w B v zs) : ∀ z ∈ zs, 0 ≤ z ∧ z < 65536 := by
  obtain ⟨A, c, _, _, _, hz, _⟩ := h
  exact hz
theorem PO.form {w : World} {B : Nat} {v : Value} {zs : List Int} (h : PO w B v zs) : ∃ A c, v = .slice A zs.length c ∧ zs.length ≤ c ∧ c ≤ maxLen := by
  obtain ⟨A, c, e, h1, h2, _⟩ := h
  exact ⟨A, c, e, h1, h2⟩
theorem PO.below {w w' : World} {B : Nat} {v : Value} {zs : List Int} (h : PO w B v zs) (hb : Below w.heap.size w w') : PO w' B v zs := by
  obtain ⟨A, c, rfl, h1, h2, hz, h3, h4⟩ := h
  refine ⟨A, c, rfl, h1, h2, hz, h3, fun hn => ?_⟩
  obtain ⟨g, k, rfl, ho⟩ := h4 hn
  exact ⟨g, k, rfl, own_below ho hb⟩
theorem PO.lower {w : World} {B B' : Nat} {v : Value} {zs : List Int} (h : PO w B v zs) (hB : B' ≤ B) : PO w B' v zs := by
  obtain ⟨A, c, rfl, h1, h2, hz, h3, h4⟩ := h
  refine ⟨A, c, rfl, h1, h2, hz, h3, fun hn => ?_⟩
  obtain ⟨g, k, rfl, ho⟩ := h4 hn
  refine ⟨g, k, rfl, ho.1, ?_⟩
  rcases ho.2 with q | ⟨g', c', cur, q1, q2, q3⟩
  · exact .inl q
  · exact .inr ⟨g', c', cur, q1, Nat.le_trans hB q2, q3⟩
/-- its head alone -/
theorem PO.cut {w : World} {B : Nat} {A : Option Addr} {n c : Nat} {zs : List Int} (h : PO w B (.slice A n c) zs) (t : Nat) (ht : t ≤ zs.length) : PO w B (.slice A t t) (zs.take t) := by
  obtain ⟨A', c', e, h1, h2, hz, h3, h4⟩ := h
  cases e
  have hl : (zs.take t).length = t := by rw [List.length_take]; omega
  refine ⟨A, t, by rw [hl], by omega, by omega, fun z hz' => hz z (List.mem_of_mem_take hz'), fun e => by have := h3 e; omega, fun hn => ?_⟩
  obtain ⟨g, k, rfl, ho⟩ := h4 (by omega)
  rw [hl] at hn ⊢
  rcases ho.2 with ⟨e, h0⟩ | ⟨g', cap, cur, e, hb, hg, q1, q2, q3, q4⟩
  · omega
  · cases e
    refine ⟨g, k, rfl, by rw [Nat.mul_one]; simp [u16s]; omega, .inr ⟨g, k, cur, rfl, hb, hg, by omega, q2, q3, ?_⟩⟩
    have e1 : cur.toList.take (t * 1) = (cur.toList.take (zs.length * 1)).take t := by rw [List.take_take]; congr 1; omega
    rw [e1, q4]
    simp [u16s, List.map_take]
/-- what marking may have turned -/
def MK (w w' : World) (v : Value) (zs : List Int) : Prop := w' = w ∨ (0 < zs.length ∧ ∃ k, v.ownBlock = some k ∧ w.grownBy w' (some k))
theorem PO.spot {w : World} {B : Nat} {v : Value} {zs : List Int} (h : PO w B v zs) (hn : 0 < zs.length) (k : Nat) (hk : v.ownBlock = some k) : B ≤ k ∧ k < w.heap.size := by
  obtain ⟨A, c, rfl, h1, h2, hz, h3, h4⟩ := h
  obtain ⟨g, k', rfl, ho⟩ := h4 hn
  rcases ho.2 with ⟨e, h0⟩ | ⟨g', cap, cur, e, hb, hg, _⟩
  · omega
  · cases e
    have : g = k := by simpa [Value.ownBlock] using hk
    subst this
    exact ⟨hb, (Array.getElem?_eq_some_iff.1 hg).1⟩
theorem MK.kept {w w' T : World} {v u : Value} {zs ys : List Int} {B0 B : Nat} (h : MK w w' v zs) (hv : PO T B0 v zs) (hle : T.heap.size ≤ B) (hu : PO w B u ys) : PO w' B u ys := by
  rcases h with rfl | ⟨hn, k, hk, hg⟩
  · exact hu
  · have hs := hv.spot hn k hk
    obtain ⟨A, c, rfl, h1, h2, hz, h3, h4⟩ := hu
    refine ⟨A, c, rfl, h1, h2, hz, h3, fun hn => ?_⟩
    obtain ⟨g, k', rfl, ho⟩ := h4 hn
    refine ⟨g, k', rfl, ho.kept hg (.inr ?_)⟩
    rcases ho.2 with ⟨e, h0⟩ | ⟨g', cap, cur, e, hb, hg', _⟩
    · omega
    · cases e
      intro e
      have e2 : g = k := by simpa [Value.ownBlock] using e
      omega
theorem MK.below {w w' T : World} {v : Value} {zs : List Int} {B : Nat} (h : MK w w' v zs) (hv : PO T B v zs) (hB : B ≤ w.heap.size) : Below B w w' := by
  rcases h with rfl | ⟨hn, k, hk, hg⟩
  · exact Below.refl _ _
  · have hs := hv.spot hn k hk
    exact (Below.refl _ _).grown hg hB (fun x hx => by
      have e : k = x := by first | exact Option.some.inj hx | exact (Option.some.inj hx).symm
      omega)
set_option maxHeartbeats 1000000 in
set_option maxHeartbeats 1000000 in
theorem toWord_any (v : Value) (zs : List Int) (hn : zs.length ≤ 1048576) (w : World) (h : NS w v zs) :
    Calls Try.prog 24 #[v] w fun e w' => ∃ u, e = .returned u ∧ Below w.heap.size w w' ∧ w'.ownsRow w.heap.size 39 1 u zs.length (u16s zs) := by
  have hr := h.range
  obtain ⟨A, c, rfl, hz, hc⟩ := h
  obtain ⟨i0, hi, hz0, hz1, hz2⟩ := info_parts info25
  have HR := Lib.hid hr; clear hr
  have HC := Lib.hid hc; clear hc
  have HZ := Lib.hid hz; clear hz
  go_enter Try.func24, Try.ntmps24
  go_wp2_with (at_make; refine wpList_make_full _ rfl _ _ 25 rfl w.heap.size 39 i0 (.int .u16 0) 1 Try.underlying25 hi hz0 hz1 _ _ _ _ zs.length rfl rfl rfl rfl (by rw [hz2]; omega) (by unfold maxLen; omega) (Nat.le_refl _) ?_)
  intro w1 hown hgrow
  have hb1 : Below w.heap.size w w1 := (Below.refl _ w).grown hgrow (Nat.le_refl _) (fun k hk => by cases hk)
  obtain ⟨g, hg⟩ : ∃ g, g = w.heap.size := ⟨_, rfl⟩
  rw [← hg] at hown hb1 ⊢
  have hown1 : w1.ownsRow g 39 1 (.slice (some ⟨g, 0, none⟩) zs.length zs.length) zs.length (tn zs 0) := by
    have e : (madeCells #[Value.int .u16 0] zs.length).toList = tn zs 0 := by
      rw [toList_madeCells_one]
      simp [tn, u16s]
    rw [← e]; exact hown
  clear hown hgrow
  have HG := Lib.hid hg; clear hg
  go_wp2_with fail
  go_loopw [4] (fun i wr => ∃ k : Nat, i = .int .i64 k ∧ k ≤ zs.length ∧ Below g w wr ∧ wr.ownsRow g 39 1 (.slice (some ⟨g, 0, none⟩) zs.length zs.length) zs.length (tn zs k)) (fun i _ => zs.length - (intOf i).toNat)
  case atStart => exact ⟨0, rfl, Nat.zero_le _, hb1, hown1⟩
  case round =>
    obtain ⟨k, rfl, hk, hb, hown⟩ := hrel
    clear hb1 hown1
    by_cases hlt : k < zs.length
    · obtain ⟨b, off, rfl, hlb, hcell⟩ := HC.out (by omega)
      have h1 : wr.cell? ⟨b, off + k, none⟩ = some (.int .u16 (zs.getD k 0)) := (hb.cell (p := ⟨b, off + k, none⟩) (by rw [HG.out]; exact hlb)).trans (hcell k hlt)
      have h2 : wr.cell? ⟨g, k, none⟩ = (tn zs k)[k]? := hown.cellAt k (by omega)
      have h3 : wr.frozen? ⟨g, k, none⟩ = false := hown.frozenAt k
      have h4 := (hown.stored k (.int .u16 (zs.getD k 0))).1
      rw [tn_set zs k hlt] at h4
      have h5 : Below g w (wr.setCell ⟨g, k, none⟩ (.int .u16 (zs.getD k 0))) := hb.setCell (p := ⟨g, k, none⟩) (Nat.le_refl _) _
      obtain ⟨x, hx⟩ : ∃ x, (tn zs k)[k]? = some x := ⟨_, List.getElem?_eq_getElem (by rw [tn_len zs k hk]; exact hlt)⟩
      rw [hx] at h2
      obtain ⟨z, hz⟩ : ∃ z, z = zs.getD k 0 := ⟨_, rfl⟩
      rw [← hz] at h1 h4 h5
      have H4 := Lib.hid h4; have H5 := Lib.hid h5; have HX := Lib.hid hx; have HZ2 := Lib.hid hz
      have HB := Lib.hid hb; have HO := Lib.hid hown; have HCL := Lib.hid hcell
      clear h4 h5 hx hz hb hown hcell
      go_wp2_with fail
      go_roundw
      case rel => exact ⟨k + 1, by go_num, by omega, H5.out, H4.out⟩
      case measure => simp [intOf]; omega
    · have HB := Lib.hid hb; have HO := Lib.hid hown
      clear hb hown
      go_wp2_with fail
      go_ret
      have hke : k = zs.length := by omega
      refine ⟨_, rfl, ?_, ?_⟩
      · rw [← HG.out]; exact HB.out
      · rw [← HG.out, ← tn_end zs, ← hke]
        have := HO.out
        rw [hke] at this ⊢
        exact this

set_option maxHeartbeats 1000000 in
theorem eqWord_any (v u : Value) (xs ys : List Int) (hn : xs.length ≤ 1048576) (hn2 : ys.length ≤ 1048576) (w : World) (h : NS w v xs) (h' : NS w u ys) :
    Calls Try.prog 26 #[v, u] w fun e w' => e = .returned (.bool (eqB xs ys)) ∧ ∃ m, w' = w.drewN m := by
  obtain ⟨A, c, rfl, _, hc⟩ := h
  obtain ⟨A', c', rfl, _, hc'⟩ := h'
  have HC := Lib.hid hc; clear hc
  have HC' := Lib.hid hc'; clear hc'
  by_cases hl : xs.length = ys.length
  · have hle : ys.length ≤ xs.length := by omega
    have hge : xs.length ≤ ys.length := by omega
    have HL := Lib.hid hl
    have ht : ((xs.length : Int) != (ys.length : Int)) = false := by rw [hl]; simp
    clear hl
    go_enter Try.func26, Try.ntmps26
    go_wp2_with fail
    go_loopw [5] (fun i wr => ∃ k m : Nat, i = .int .i64 k ∧ k ≤ xs.length ∧ wr = w.drewN m ∧ Hid (∀ j, j < k → xs.getD j 0 = ys.getD j 0)) (fun i _ => xs.length - (intOf i).toNat)
    case atStart => exact ⟨0, 0, rfl, Nat.zero_le _, rfl, Lib.hid (fun j hj => absurd hj (by omega))⟩
    case round =>
      obtain ⟨k, m, rfl, hk, rfl, hall⟩ := hrel
      by_cases hlt : k < xs.length
      · obtain ⟨b, off, rfl, hlb, hcell⟩ := HC.out (by omega)
        obtain ⟨b', off', rfl, hlb', hcell'⟩ := HC'.out (by omega)
        have h1 : w.cell? ⟨b, off + k, none⟩ = some (.int .u16 (xs.getD k 0)) := hcell k hlt
        have h2 : w.cell? ⟨b', off' + k, none⟩ = some (.int .u16 (ys.getD k 0)) := hcell' k (by omega)
        have HCL := Lib.hid hcell; have HCL' := Lib.hid hcell'
        clear hcell hcell'
        have hlt' : (k : Int) < (xs.length : Int) := by omega
        have hlt2 : (k : Int) < (ys.length : Int) := by omega
        obtain ⟨x, hx⟩ : ∃ x, x = xs.getD k 0 := ⟨_, rfl⟩
        obtain ⟨y, hy⟩ : ∃ y, y = ys.getD k 0 := ⟨_, rfl⟩
        rw [← hx] at h1; rw [← hy] at h2
        by_cases hxy : x = y
        · have hstep := Lib.hid (all_step hall.out (by rw [← hx, ← hy]; exact hxy))
          subst hxy
          have HX := Lib.hid hx; have HY := Lib.hid hy; clear hx hy
          go_wp2_with fail
          go_quiet (fail)
          go_wp2_with fail
          exact ⟨⟨k + 1, m + nq, by go_num, by omega, rfl, hstep⟩, by simp [intOf]; omega⟩
        · have hst := Lib.hid (eqB_ne (xs := xs) (ys := ys) k (by rw [← hx, ← hy]; exact hxy))
          have hne : (x != y) = true := bne_iff_ne.2 hxy
          have HX := Lib.hid hx; have HY := Lib.hid hy; clear hx hy hxy
          go_wp2_with fail
          go_quiet (fail)
          go_wp2_with fail
          go_ret
          exact ⟨by rw [hst.out]; rfl, m + nq, by simp⟩
      · have hst := Lib.hid (show eqB xs ys = true from eqB_all HL.out (fun j hj => hall.out j (by omega)))
        go_wp2_with fail
        go_ret
        exact ⟨by rw [hst.out]; rfl, m, rfl⟩
  · have hst := Lib.hid (eqB_len hl)
    have ht : ((xs.length : Int) != (ys.length : Int)) = true := by rw [bne_iff_ne]; omega
    clear hl
    go_enter Try.func26, Try.ntmps26
    go_wp2_with fail
    go_ret
    exact ⟨by rw [hst.out]; rfl, 0, rfl⟩
set_option maxHeartbeats 1000000 in
theorem markWordO_any (v : Value) (zs : List Int) (hl : zs.length ≤ 1048576) (m : Nat) (hm : m ≤ 1073741824) (B : Nat) (w : World) (h : PO w B v zs) :
    Calls Try.prog 35 #[v, .int .i64 (m : Int)] w fun e w' => e = .returned (.int .i64 ((m + zs.length : Nat) : Int)) ∧ PO w' B v (mark16 m zs.length) ∧ MK w w' v zs := by
  obtain ⟨A, c, rfl, h1, h2, hz, h3, h4⟩ := h
  by_cases h0 : zs.length = 0
  · have e0 : zs = [] := List.length_eq_zero_iff.1 h0
    subst e0
    have HQ := Lib.hid (PO.nil w B A c h2 h3)
    clear h1 h2 hz h3 h4 h0
    go_enter Try.func35, Try.ntmps35
    go_wp2_with fail
    go_loopw [5, 1] (fun y k wr => y = .int .i64 0 ∧ k = .int .i64 (m : Int) ∧ w = wr) (fun y _ _ => 0)
    case atStart => exact ⟨rfl, rfl, rfl⟩
    case round =>
      obtain ⟨rfl, rfl, rfl⟩ := hrel
      go_wp2_with fail
      go_ret
      exact ⟨by simp, by simpa [mark16] using HQ.out, .inl rfl⟩
  have HL0 := Lib.hid h0
  obtain ⟨g, kc, rfl, ho⟩ := h4 (by omega)
  have hgB : B ≤ g ∧ g < w.heap.size := PO.spot (w := w) (B := B) (v := .slice (some ⟨g, 0, none⟩) zs.length c) (zs := zs) ⟨_, _, rfl, h1, h2, hz, h3, h4⟩ (by omega) g rfl
  have HC1 := Lib.hid h1; have HC2 := Lib.hid h2
  rw [← mrk16_zero zs m] at ho
  have H0 := Lib.hid ho
  clear h1 h2 hz h3 h4 h0 ho
  go_enter Try.func35, Try.ntmps35
  go_wp2_with fail
  go_loopw [5, 1] (fun y k wr => ∃ i : Nat, y = .int .i64 i ∧ i ≤ zs.length ∧ k = .int .i64 ((m + i : Nat) : Int) ∧ Hid (wr.ownsRow B 39 1 (.slice (some ⟨g, 0, none⟩) zs.length kc) zs.length (mrk16 zs m i)) ∧ Hid (w.grownBy wr (some g))) (fun y _ _ => zs.length - (intOf y).toNat)
  case atStart => exact ⟨0, rfl, by omega, by first | rfl | simp, H0, Lib.hid (grown_refl _ _)⟩
  case round =>
    clear H0
    obtain ⟨i, rfl, hi, rfl, HO, HB⟩ := hrel
    by_cases hlt : i < zs.length
    · have T1 : decide ((i : Int) < (zs.length : Int)) = true := by simp; omega
      have i1 : (i : Int) < (zs.length : Int) := by omega
      obtain ⟨x, hx⟩ := mrk16_next zs m i hlt
      have q1 : wr.cell? ⟨g, i, none⟩ = some x := (HO.out.cellAt i (by omega)).trans hx
      have q2 : wr.frozen? ⟨g, i, none⟩ = false := HO.out.frozenAt _
      have q3 := (HO.out.stored i (.int .u16 (IntKind.wrap .u16 ((m + i : Nat) : Int)))).1
      rw [mrk16_set zs m i hlt] at q3
      have Q3 := Lib.hid q3
      have Q4 := Lib.hid (grown_trans HB.out (grown_put wr g i (.int .u16 (IntKind.wrap .u16 ((m + i : Nat) : Int)))))
      have ws := wrap16_small ((m + i : Nat) : Int)
      obtain ⟨z, hz⟩ : ∃ z, z = IntKind.wrap .u16 ((m + i : Nat) : Int) := ⟨_, rfl⟩
      rw [← hz] at Q3 Q4 ws
      have hz' : IntKind.wrap .u16 ((m : Int) + (i : Int)) = z := by rw [hz]; congr 1
      have hz2 : IntKind.wrap .u16 (((m + i : Nat) : Int)) = z := hz.symm
      clear HO HB q3 hx hz
      go_wp2_with fail
      exact ⟨⟨i + 1, by first | rfl | go_num, by omega, by first | rfl | (simp <;> omega), Q3, Q4⟩, by simp [intOf]; omega⟩
    · obtain rfl : i = zs.length := by omega
      have T1 : decide ((zs.length : Int) < (zs.length : Int)) = false := by simp
      have HE := Lib.hid (mrk16_end zs m)
      go_wp2_with fail
      go_ret
      refine ⟨by first | rfl | simp, ⟨some ⟨g, 0, none⟩, c, by rw [mark16_len], by rw [mark16_len]; exact HC1.out, HC2.out, mark16_small _ _, fun e => (by cases e), fun _ => ⟨g, kc, rfl, ?_⟩⟩, .inr ⟨by have := HL0.out; omega, g, rfl, HB.out⟩⟩
      rw [mark16_len, ← HE.out]; exact HO.out
set_option maxHeartbeats 1000000 in
theorem heldWord_any (v : Value) (n : Nat) (hl : n ≤ 1048576) (m : Nat) (hm : m ≤ 1073741824) (B : Nat) (w : World) (h : NS w v (mark16 m n)) :
    Calls Try.prog 36 #[v, .int .i64 (m : Int)] w fun e w' => e = .returned (.int .i64 ((m + n : Nat) : Int)) ∧ w' = w := by
  obtain ⟨A, c, rfl, _, hc⟩ := h
  rw [mark16_len] at hc ⊢
  have HC := Lib.hid hc
  clear hc
  go_enter Try.func36, Try.ntmps36
  go_wp2_with fail
  go_loopw [5, 1] (fun y k wr => ∃ i : Nat, y = .int .i64 i ∧ i ≤ n ∧ k = .int .i64 ((m + i : Nat) : Int) ∧ w = wr) (fun y _ _ => n - (intOf y).toNat)
  case atStart => exact ⟨0, rfl, by omega, by first | rfl | simp, rfl⟩
  case round =>
    obtain ⟨i, rfl, hi, rfl, rfl⟩ := hrel
    by_cases hlt : i < n
    · have T1 : decide ((i : Int) < (n : Int)) = true := by simp; omega
      obtain ⟨b, off, rfl, hlb, hcell⟩ := HC.out (by omega)
      have i1 : (i : Int) < (n : Int) := by omega
      have q1 := hcell i hlt
      have HCL := Lib.hid hcell
      clear hcell
      rw [mark16_at m n i hlt] at q1
      have ws := wrap16_small ((m + i : Nat) : Int)
      obtain ⟨z, hz⟩ : ∃ z, z = IntKind.wrap .u16 ((m + i : Nat) : Int) := ⟨_, rfl⟩
      rw [← hz] at q1 ws
      have hz' : IntKind.wrap .u16 ((m : Int) + (i : Int)) = z := by rw [hz]; congr 1
      have hz2 : IntKind.wrap .u16 (((m + i : Nat) : Int)) = z := hz.symm
      have T3 : (z != z) = false := by simp
      clear hz
      go_wp2_with fail
      exact ⟨⟨i + 1, by first | rfl | go_num, by omega, by first | rfl | (simp <;> omega), by simp⟩, by simp [intOf]; omega⟩
    · obtain rfl : i = n := by omega
      have T1 : decide ((i : Int) < (i : Int)) = false := by simp
      go_wp2_with fail
      go_ret
      exact ⟨by first | rfl | simp, rfl⟩
end Go.Proofs.Ythhjhfkcgokffaa
