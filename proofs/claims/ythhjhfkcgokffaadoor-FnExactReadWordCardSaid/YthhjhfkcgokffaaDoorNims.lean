/-
  The text of a list of nimbers: both sides.
-/
import Derived.Test.YthhjhfkcgokffaaDoorRead
import Derived.Test.YthhjhfkcgokffaaDoorLawD
namespace Go.Proofs.YthhjhfkcgokffaaDoor
set_option linter.unusedVariables false
set_option linter.unusedSimpArgs false
open Go.ChangeShapes Go.WideShapes Go.ChangeAt Go.RowKit
theorem join_snoc (sep x : List UInt8) (l : List (List UInt8)) (h : l ≠ []) : Lib.join (l ++ [x]) sep = Lib.join l sep ++ sep ++ x := by
  cases l with
  | nil => exact absurd rfl h
  | cons a r =>
    rw [List.cons_append, Lib.join_cons, Lib.join_cons]
    unfold Lib.joinTail
    rw [List.map_append, List.flatten_append]
    simp
def nimTs (zs : List Int) : List (List UInt8) := zs.map fun z => nimT z.toNat
theorem nimTs_len (zs : List Int) : (nimTs zs).length = zs.length := by simp [nimTs]
def jn (zs : List Int) (k : Nat) : List UInt8 := Lib.join ((nimTs zs).take k) [32]
theorem jn_zero (zs : List Int) : jn zs 0 = [] := rfl
theorem jn_one (zs : List Int) (h : 0 < zs.length) : jn zs 1 = nimT (zs.getD 0 0).toNat := by
  unfold jn
  have e : (nimTs zs).take 1 = [nimT (zs.getD 0 0).toNat] := by
    cases zs with
    | nil => simp at h
    | cons z r => rfl
  rw [e, Lib.join_one]
theorem jn_step (zs : List Int) (k : Nat) (h0 : 0 < k) (h : k < zs.length) : jn zs (k + 1) = jn zs k ++ [32] ++ nimT (zs.getD k 0).toNat := by
  unfold jn
  have e : (nimTs zs).take (k + 1) = (nimTs zs).take k ++ [nimT (zs.getD k 0).toNat] := by
    rw [List.take_succ_eq_append_getElem (by rw [nimTs_len]; exact h)]
    simp [nimTs, List.getD, h]
  rw [e, join_snoc]
  intro q
  have := congrArg List.length q
  rw [List.length_take, nimTs_len, List.length_nil] at this
  omega
theorem nimT_len (u : Nat) (h : u < 65536) : (nimT u).length ≤ 21 := by
  unfold nimT
  rw [List.length_cons]
  have := dd_le u (by omega)
  omega
theorem bsize (l : List UInt8) : (⟨l.toArray⟩ : ByteArray).size = l.length := by
  show l.toArray.size = _
  rw [List.size_toArray]
theorem bdata (a b : ByteArray) : (a ++ b).data.toList = a.data.toList ++ b.data.toList := by simp
theorem beq_of {s : ByteArray} {l : List UInt8} (h : s.data.toList = l) : s = ⟨l.toArray⟩ := by
  apply ByteArray.ext
  apply Array.toList_inj.1
  simpa using h
set_option maxRecDepth 100000 in
set_option maxHeartbeats 2000000 in
theorem l01ListText_any (v : Value) (zs : List Int) (hn : zs.length ≤ 1048576) (w : World) (h : NS w v zs) :
    Calls Tryd.prog 17 #[v] w fun e w' => e = .returned (.string ⟨(jn zs zs.length).toArray⟩) ∧ Below w.heap.size w w' := by
  have hr := h.range
  obtain ⟨A, c, rfl, hz, hc⟩ := h
  have HR := Lib.hid hr; clear hr
  have HC := Lib.hid hc; clear hc
  have HZ := Lib.hid hz; clear hz
  go_enter Tryd.func17, Tryd.ntmps17
  go_wp2_with fail
  go_loopw [3, 4] (fun o i wr => ∃ (k : Nat) (s : ByteArray), i = .int .i64 k ∧ k ≤ zs.length ∧ o = .string s ∧ s.size ≤ 22 * k ∧ Hid (s.data.toList = jn zs k) ∧ Hid (Below w.heap.size w wr)) (fun _ i _ => zs.length - (intOf i).toNat)
  case atStart => exact ⟨0, ⟨#[]⟩, rfl, Nat.zero_le _, rfl, by decide, Lib.hid rfl, Lib.hid (Below.refl _ _)⟩
  case round =>
    obtain ⟨k, s, rfl, hk, rfl, hsz, HS, HB⟩ := hrel
    by_cases hlt : k < zs.length
    · obtain ⟨b, off, rfl, hlb, hcell⟩ := HC.out (by omega)
      have h1 : wr.cell? ⟨b, off + k, none⟩ = some (.int .u16 (zs.getD k 0)) := (HB.out.cell (p := ⟨b, off + k, none⟩) hlb).trans (hcell k hlt)
      have hrg := HR.out k
      obtain ⟨u, hu⟩ : ∃ u : Nat, zs.getD k 0 = u := ⟨(zs.getD k 0).toNat, by omega⟩
      have hstep := jn_step zs k
      rw [hu] at h1 hrg hstep
      rw [Int.toNat_natCast] at hstep
      have hone : k = 0 → jn zs (k + 1) = nimT u := fun e => by
        subst e
        rw [jn_one zs hlt, hu, Int.toNat_natCast]
      have hub : u < 65536 := by omega
      have hi1 : (k : Int) < (zs.length : Int) := by omega
      obtain ⟨t, ht⟩ : ∃ t : ByteArray, t = ⟨(nimT u).toArray⟩ := ⟨_, rfl⟩
      have htl : t.data.toList = nimT u := by rw [ht]
      have hts : t.size ≤ 21 := by rw [ht, bsize]; exact nimT_len u hub
      have HT := Lib.hid ht
      have HTL := Lib.hid htl
      have HSTEP := Lib.hid hstep
      have HONE := Lib.hid hone
      have HU := Lib.hid hu
      have HCL := Lib.hid hcell
      clear ht htl hstep hone hu hcell
      by_cases hk0 : k = 0
      · have HK0 := Lib.hid hk0
        have T1 : decide ((0 : Int) < (k : Int)) = false := by simp; omega
        have T1' : decide (0 < k) = false := by simp; omega
        have hs0 : s.size = 0 := by omega
        have g1 : s.size + t.size ≤ 9223372036854775807 := by omega
        have g2 : ¬ 9223372036854775807 < s.size + t.size := by omega
        have HS0 := Lib.hid hs0
        clear hk0 hs0
        go_wp2_with fail
        refine (l01Text_any u hub _).mono ?_
        rintro e w2 ⟨rfl, hb2⟩
        rw [← HT.out]
        have HB2 := Lib.hid (HB.out.trans (hb2.mono HB.out.size))
        clear hb2
        go_wp2_with fail
        refine ⟨⟨k + 1, s ++ t, by go_num, by omega, rfl, by rw [ByteArray.size_append]; have := HK0.out; have := HS0.out; omega, Lib.hid ?_, HB2⟩, by simp [intOf]; omega⟩
        rw [bdata, HTL.out, HONE.out HK0.out, HS.out, HK0.out]; rfl
      · have T1 : decide ((0 : Int) < (k : Int)) = true := by simp; omega
        have T1' : decide (0 < k) = true := by simp; omega
        have g1 : s.size + 1 ≤ 9223372036854775807 := by omega
        have g2 : ¬ 9223372036854775807 < s.size + 1 := by omega
        have g3 : s.size + 1 + t.size ≤ 9223372036854775807 := by omega
        have g4 : ¬ 9223372036854775807 < s.size + 1 + t.size := by omega
        have HK0 : Hid (0 < k) := Lib.hid (by omega)
        clear hk0
        go_wp2_with fail
        refine (l01Text_any u hub _).mono ?_
        rintro e w2 ⟨rfl, hb2⟩
        rw [← HT.out]
        have HB2 := Lib.hid (HB.out.trans (hb2.mono HB.out.size))
        clear hb2
        go_wp2_with fail
        refine ⟨⟨k + 1, s ++ ⟨#[32]⟩ ++ t, by go_num, by omega, rfl, by rw [ByteArray.size_append, ByteArray.size_append]; have : (⟨#[32]⟩ : ByteArray).size = 1 := rfl; omega, Lib.hid ?_, HB2⟩, by simp [intOf]; omega⟩
        rw [bdata, bdata, HTL.out, HS.out, HSTEP.out HK0.out hlt]
    · obtain rfl : k = zs.length := by omega
      have hv := beq_of HS.out
      have HV := Lib.hid hv
      clear hv
      go_wp2_with fail
      go_ret
      exact ⟨congrArg (fun x => Ending.returned (.string x)) HV.out, HB.out⟩
theorem spec_NimsText (v : Value) (zs : List Int) (hn : zs.length ≤ 1048576) (w : World) (h : NS w v zs) :
    Calls Tryd.prog 13 #[v] w fun e w' => e = .returned (.string ⟨(jn zs zs.length).toArray⟩) ∧ Below w.heap.size w w' := by
  have H := Lib.hid h
  obtain ⟨A, c, rfl, _, _⟩ := h
  go_enter Tryd.func13, Tryd.ntmps13
  go_wp2_with fail
  refine (l01ListText_any _ zs hn _ H.out).mono ?_
  rintro e w' ⟨rfl, hb⟩
  go_wp2_with fail
  go_ret
  exact ⟨rfl, hb⟩
theorem infoStr : (Tryd.prog.info? 9).map (fun i => (i.zero, i.size, i.bytes)) = some (some (.string ⟨#[]⟩), 1, 16) := by kernel_rfl
/-- the texts that have been laid -/
def bT (zs : List Int) (k : Nat) : List ByteArray := (List.range zs.length).map fun i => if i < k then ⟨(nimT (zs.getD i 0).toNat).toArray⟩ else ⟨#[]⟩
theorem bT_len (zs : List Int) (k : Nat) : (bT zs k).length = zs.length := by simp [bT]
theorem bT_at (zs : List Int) (k i : Nat) (h : i < zs.length) : (bT zs k)[i]? = some (if i < k then ⟨(nimT (zs.getD i 0).toNat).toArray⟩ else ⟨#[]⟩) := by
  unfold bT
  rw [List.getElem?_map, List.getElem?_range h]; rfl
theorem bT_set (zs : List Int) (k : Nat) (h : k < zs.length) : ((bT zs k).map Value.string).set k (.string ⟨(nimT (zs.getD k 0).toNat).toArray⟩) = (bT zs (k + 1)).map Value.string := by
  rw [← List.map_set]
  congr 1
  apply List.ext_getElem?
  intro i
  rw [List.getElem?_set, bT_len]
  by_cases hi : i < zs.length
  · rw [bT_at zs _ i hi, bT_at zs _ i hi]
    by_cases e : k = i
    · subst e; rw [if_pos rfl, if_pos hi, if_pos (by omega)]
    · rw [if_neg e]
      by_cases e2 : i < k
      · rw [if_pos e2, if_pos (by omega)]
      · rw [if_neg e2, if_neg (by omega)]
  · rw [List.getElem?_eq_none (by rw [bT_len]; omega), List.getElem?_eq_none (by rw [bT_len]; omega)]
    by_cases e : k = i
    · omega
    · rw [if_neg e]
theorem bT_end (zs : List Int) : (bT zs zs.length).map (·.data.toList) = nimTs zs := by
  apply List.ext_getElem?
  intro i
  by_cases hi : i < zs.length
  · rw [List.getElem?_map, bT_at zs _ i hi, if_pos hi]
    simp [nimTs, List.getD, hi]
  · rw [List.getElem?_eq_none (by simp [bT_len]; omega), List.getElem?_eq_none (by rw [nimTs_len]; omega)]
theorem jn_all (zs : List Int) : jn zs zs.length = Lib.join (nimTs zs) [32] := by
  unfold jn
  rw [show zs.length = (nimTs zs).length from (nimTs_len zs).symm, List.take_length]
theorem jn_len (zs : List Int) (h : ∀ z ∈ zs, 0 ≤ z ∧ z < 65536) : ∀ k, k ≤ zs.length → (jn zs k).length ≤ 22 * k := by
  intro k
  induction k with
  | zero => intro _; rw [jn_zero]; simp
  | succ k ih =>
    intro hk
    have i1 := ih (by omega)
    have hz := h (zs.getD k 0) (by simp [List.getD, show k < zs.length from by omega])
    have hl := nimT_len (zs.getD k 0).toNat (by omega)
    by_cases h0 : k = 0
    · subst h0; rw [jn_one zs (by omega)]; omega
    · rw [jn_step zs k (by omega) (by omega), List.length_append, List.length_append, List.length_singleton]; omega
set_option maxRecDepth 100000 in
set_option maxHeartbeats 2000000 in
theorem impl_NimsText (v : Value) (zs : List Int) (hn : zs.length ≤ 1048576) (w : World) (h : NS w v zs) (htab : POW w) :
    Calls Tryd.prog 14 #[v] w fun e w' => e = .returned (.string ⟨(jn zs zs.length).toArray⟩) ∧ Below w.heap.size w w' := by
  have hr := h.range
  obtain ⟨A, c, rfl, hz, hc⟩ := h
  obtain ⟨i0, hi, hz0, hz1, hz2⟩ := info_parts infoStr
  have HR := Lib.hid hr; clear hr
  have HC := Lib.hid hc; clear hc
  have HZ := Lib.hid hz; clear hz
  have HT := Lib.hid htab; clear htab
  go_enter Tryd.func14, Tryd.ntmps14
  go_wp2_with (at_make; refine wpList_make_full _ rfl _ _ 38 rfl w.heap.size 9 i0 (.string ⟨#[]⟩) 1 Tryd.underlying38 hi hz0 hz1 _ _ _ _ zs.length rfl rfl rfl rfl (by rw [hz2]; omega) (by unfold maxLen; omega) (Nat.le_refl _) ?_)
  intro w1 hown hgrow
  have hb1 : Below w.heap.size w w1 := (Below.refl _ w).grown hgrow (Nat.le_refl _) (fun k hk => by cases hk)
  obtain ⟨g, hg⟩ : ∃ g, g = w.heap.size := ⟨_, rfl⟩
  rw [← hg] at hown hb1 ⊢
  have hsz : g ≤ w1.heap.size := by rw [hg]; exact hb1.size
  have hown1 : w1.ownsRow g 9 1 (.slice (some ⟨g, 0, none⟩) zs.length zs.length) zs.length ((bT zs 0).map Value.string) := by
    have e : (madeCells #[Value.string ⟨#[]⟩] zs.length).toList = (bT zs 0).map Value.string := by
      rw [toList_madeCells_one]
      simp [bT, List.map_const']
    rw [← e]; exact hown
  have HG := Lib.hid hg; clear hg
  have HO := Lib.hid hown1
  have HB := Lib.hid hb1
  have HS := Lib.hid hsz
  clear hown hgrow hown1 hb1 hsz
  go_wp2_with fail
  go_loopw [11] (fun i wr => ∃ k : Nat, i = .int .i64 k ∧ k ≤ zs.length ∧ Hid (wr.ownsRow g 9 1 (.slice (some ⟨g, 0, none⟩) zs.length zs.length) zs.length ((bT zs k).map Value.string)) ∧ Hid (Below g w wr) ∧ Hid (g ≤ wr.heap.size)) (fun i _ => zs.length - (intOf i).toNat)
  case atStart => exact ⟨0, rfl, Nat.zero_le _, HO, HB, HS⟩
  case round =>
    clear HO HB HS
    obtain ⟨k, rfl, hk, HO, HB, HS⟩ := hrel
    by_cases hlt : k < zs.length
    · obtain ⟨b, off, rfl, hlb, hcell⟩ := HC.out (by omega)
      have h1 : wr.cell? ⟨b, off + k, none⟩ = some (.int .u16 (zs.getD k 0)) := (HB.out.cell (p := ⟨b, off + k, none⟩) (by rw [HG.out]; exact hlb)).trans (hcell k hlt)
      have hrg := HR.out k
      obtain ⟨u, hu⟩ : ∃ u : Nat, zs.getD k 0 = u := ⟨(zs.getD k 0).toNat, by omega⟩
      have hset := bT_set zs k hlt
      rw [hu] at h1 hrg hset
      rw [Int.toNat_natCast] at hset
      have hub : u < 65536 := by omega
      have hi1 : (k : Int) < (zs.length : Int) := by omega
      obtain ⟨t, ht⟩ : ∃ t : ByteArray, t = ⟨(nimT u).toArray⟩ := ⟨_, rfl⟩
      rw [← ht] at hset
      have htab : POW wr := HT.out.below (by have := HB.out; rw [HG.out] at this; exact this)
      have HTT := Lib.hid htab
      have HTB := Lib.hid ht
      have HSET := Lib.hid hset
      have HU := Lib.hid hu
      have HCL := Lib.hid hcell
      clear ht hset hu hcell htab
      go_wp2_with fail
      refine (impl_NimText u hub _ HTT.out).mono ?_
      rintro e w2 ⟨rfl, hb2⟩
      rw [← HTB.out]
      have ho2 := own_below HO.out hb2
      have q1 : ∃ x, w2.cell? ⟨g, k, none⟩ = some x := by
        rw [ho2.cellAt k (by omega), List.getElem?_map, bT_at zs k k hlt]
        exact ⟨_, rfl⟩
      obtain ⟨x, q1⟩ := q1
      have q2 : w2.frozen? ⟨g, k, none⟩ = false := ho2.frozenAt k
      have q3 := (ho2.stored k (.string t)).1
      rw [HSET.out] at q3
      have HB2 := Lib.hid ((HB.out.trans (hb2.mono HS.out)).setCell (p := ⟨g, k, none⟩) (Nat.le_refl _) (.string t))
      have HS2 : Hid (g ≤ (w2.setCell ⟨g, k, none⟩ (.string t)).heap.size) := Lib.hid (by have := hb2.size; have := HS.out; simp [World.setCell]; omega)
      have HO2 := Lib.hid q3
      clear hb2 ho2 q3 HO HB HS
      go_wp2_with fail
      go_roundw
      case rel => exact ⟨k + 1, by go_num, by omega, HO2, HB2, HS2⟩
      case measure => simp [intOf]; omega
    · obtain rfl : k = zs.length := by omega
      have hb : Below w.heap.size w wr := by have := HB.out; rw [HG.out] at this; exact this
      have HBB := Lib.hid hb
      clear hb
      by_cases h0 : zs.length = 0
      · have hz : zs = [] := List.length_eq_zero_iff.1 h0
        subst hz
        go_wp2_with fail
        refine (Tryd.strings_Join_none _ _ _ _).mono ?_
        rintro e w3 ⟨rfl, rfl⟩
        go_wp2_with fail
        go_ret
        exact ⟨rfl, HBB.out⟩
      · have hj := Tryd.strings_Join g 0 zs.length (bT zs zs.length) ⟨#[32]⟩ wr (fun j x hx => by
          have hj : j < zs.length := by
            have := (List.getElem?_eq_some_iff.1 hx).1
            rwa [bT_len] at this
          rw [Nat.zero_add, HO.out.cellAt j (by omega), List.getElem?_map, hx]; rfl) (HO.out.lt g rfl).2 (by rw [bT_len]; omega) (by rw [bT_len]; exact Nat.le_refl _) (by
          rw [bT_end, show (⟨#[32]⟩ : ByteArray).data.toList = [32] from rfl, ← jn_all]
          have := jn_len zs HZ.out zs.length (Nat.le_refl _)
          omega)
        rw [bT_len, bT_end, show (⟨#[32]⟩ : ByteArray).data.toList = [32] from rfl, ← jn_all] at hj
        have HJ := Lib.hid hj
        clear hj h0
        go_wp2_with fail
        refine HJ.out.mono ?_
        rintro e w3 ⟨rfl, hb3⟩
        have HB3 := Lib.hid (bchain HBB.out hb3)
        clear hb3
        go_wp2_with fail
        go_ret
        exact ⟨rfl, HB3.out⟩
end Go.Proofs.YthhjhfkcgokffaaDoor
