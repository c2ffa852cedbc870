/-
  Lists of nimbers are read from their texts: both sides.
-/
import Derived.Test.YthhjhfkcgokffaaDoorNims
import Derived.Test.YthhjhfkcgokffaaDoorSplit
import Derived.HandedShaped
namespace Go.Proofs.YthhjhfkcgokffaaDoor
set_option linter.unusedVariables false
set_option linter.unusedSimpArgs false
open Go.ChangeShapes Go.WideShapes Go.ChangeAt Go.RowKit
theorem own_form2 {w : World} {base n : Nat} {e : TypeId} {size : Nat} {v : Value} {xs : List Value} (h : w.ownsRow base e size v n xs) :
    ∃ A c, v = .slice A n c ∧ n ≤ maxLen ∧ (0 < n → ∃ g, A = some ⟨g, 0, none⟩ ∧ base ≤ g ∧ g < w.heap.size) := by
  rcases h.2 with ⟨rfl, rfl⟩ | ⟨g, cap, cur, rfl, h1, hg, h2, h3, _⟩
  · exact ⟨none, 0, rfl, Nat.zero_le _, fun x => by omega⟩
  · exact ⟨some ⟨g, 0, none⟩, cap, rfl, by omega, fun _ => ⟨g, rfl, h1, (Array.getElem?_eq_some_iff.1 hg).1⟩⟩
theorem own_lower2 {w : World} {B B' : Nat} {e : TypeId} {s n : Nat} {v : Value} {xs : List Value} (h : w.ownsRow B e s v n xs) (hB : B' ≤ B) : w.ownsRow B' e s v n xs := by
  refine ⟨h.1, ?_⟩
  rcases h.2 with q | ⟨g, c, cur, q1, q2, q3⟩
  · exact .inl q
  · exact .inr ⟨g, c, cur, q1, Nat.le_trans hB q2, q3⟩
theorem one_cellS (w : World) (v : Value) (t : TypeId) (j : Nat) (u : Value) (h : [v][j]? = some u) : (w.alloc (.cells #[v] t)).cell? ((⟨w.heap.size, 0, none⟩ : Addr).add j) = some u := by
  cases j with
  | zero =>
    simp only [List.getElem?_cons_zero, Option.some.injEq] at h
    subst h
    exact cell_of_row _ _ _ _ _ _ (heap_alloc_new w _)
  | succ j => simp at h
theorem piece_data (s : ByteArray) (a b : Nat) (h : b ≤ s.size) : (s.extract a b).data.toList = (s.data.toList.take b).drop a := by
  have e : (s.extract a b).data = s.data.extract a b := ByteArray.data_extract
  rw [e, Array.toList_extract, List.extract_eq_take_drop]
  rw [List.drop_take]
theorem spl_step {b : UInt8} {l : List UInt8} {beg k : Nat} (hbk : beg ≤ k) (hk : k < l.length) (hb : l[k] = b) (hno : b ∉ (l.take k).drop beg) : spl b (l.drop beg) = (l.take k).drop beg :: spl b (l.drop (k + 1)) := by
  have e : l.drop beg = (l.take k).drop beg ++ b :: l.drop (k + 1) := by
    have e1 : l = l.take k ++ b :: l.drop (k + 1) := by
      conv => lhs; rw [← List.take_append_drop k l]
      rw [List.drop_eq_getElem_cons hk, hb]
    conv => lhs; rw [e1]
    rw [List.drop_append_of_le_length (by rw [List.length_take]; omega)]
  rw [e, spl_hit b _ _ hno]
theorem no_step {b : UInt8} {l : List UInt8} {beg k : Nat} (hbk : beg ≤ k) (hk : k < l.length) (hb : l[k] ≠ b) (hno : b ∉ (l.take k).drop beg) : b ∉ (l.take (k + 1)).drop beg := by
  rw [List.take_succ_eq_append_getElem hk, List.drop_append_of_le_length (by rw [List.length_take]; omega)]
  intro q
  rcases List.mem_append.1 q with q | q
  · exact hno q
  · simp only [List.mem_singleton] at q; exact hb q.symm
set_option maxRecDepth 100000 in
set_option maxHeartbeats 4000000 in
theorem l01Split_any (s : ByteArray) (hs : s.size ≤ 1048576) (b : UInt8) (w : World) :
    Calls Tryd.prog 28 #[.string s, .int .u8 (b.toNat : Int)] w fun e w' => ∃ (v : Value) (P : List ByteArray), e = .returned v ∧ w'.ownsRow w.heap.size 9 1 v P.length (P.map Value.string) ∧ P.map (·.data.toList) = spl b s.data.toList ∧ P.length ≤ 1048577 ∧ (∀ p ∈ P, p.size ≤ 1048576) ∧ Below w.heap.size w w' := by
  obtain ⟨i0, hi, hz0, hz1, hz2⟩ := info_parts infoStr
  have hlen : s.data.toList.length = s.size := by simp
  have HL := Lib.hid hlen
  clear hlen
  go_enter Tryd.func28, Tryd.ntmps28
  go_wp2_with fail
  obtain ⟨B, hB⟩ : ∃ B, B = w.heap.size := ⟨_, rfl⟩
  have m1 : (w.alloc (.cells #[] 9)).ownsRow B 9 1 (.slice (some ⟨w.heap.size, 0, none⟩) 0 0) 0 [] := World.ownsRow_made _ #[] 0 (by omega) (Nat.zero_le _) rfl
  have m2 : Below B w (w.alloc (.cells #[] 9)) := (Below.refl _ _).alloc (by omega) _
  have m3 : B ≤ (w.alloc (.cells #[] 9)).heap.size := by rw [World.size_alloc]; omega
  rw [← hB] at m1 ⊢
  have M1 := Lib.hid m1
  have M2 := Lib.hid m2
  have M3 := Lib.hid m3
  have HBB := Lib.hid hB
  clear m1 m2 m3 hB
  generalize w.alloc (.cells #[] 9) = wa at M1 M2 M3 ⊢
  go_loopw [5, 6, 7] (fun o y i wr => ∃ (k beg : Nat) (P : List ByteArray), i = .int .i64 k ∧ y = .int .i64 (beg : Int) ∧ beg ≤ k ∧ k ≤ s.size ∧ P.length ≤ k ∧ Hid (wr.ownsRow B 9 1 o P.length (P.map Value.string)) ∧ Hid (spl b s.data.toList = P.map (·.data.toList) ++ spl b (s.data.toList.drop beg)) ∧ Hid (b ∉ (s.data.toList.take k).drop beg) ∧ Hid (∀ p ∈ P, p.size ≤ 1048576) ∧ Hid (Below B w wr) ∧ Hid (B ≤ wr.heap.size)) (fun _ _ i _ => s.size - (intOf i).toNat)
  case atStart => exact ⟨0, 0, [], rfl, rfl, Nat.le_refl _, Nat.zero_le _, Nat.le_refl _, M1, Lib.hid rfl, Lib.hid (by simp), Lib.hid (fun p hp => by cases hp), M2, M3⟩
  case round =>
    clear M1 M2 M3
    obtain ⟨k, beg, P, rfl, rfl, hbk, hk, hP, HO, HE, HN, HZ, HBW, HS⟩ := hrel
    by_cases hlt : k < s.size
    · have hkl : k < s.data.toList.length := by rw [HL.out]; exact hlt
      have hget : s.data.toList[k]'hkl = s[k]'hlt := rfl
      by_cases hb : s[k]'hlt = b
      · have T1 : (((s[k]'hlt).toNat : Int) == (b.toNat : Int)) = true := by rw [hb]; exact beq_self_eq_true _
        have hst := spl_step hbk hkl (hget.trans hb) HN.out
        have hpd := piece_data s beg k (by omega)
        have hpz : (s.extract beg k).size ≤ 1048576 := by
          have q : (s.extract beg k).data.toList.length = (s.extract beg k).size := by rw [Array.length_toList]; rfl
          rw [← q, hpd, List.length_drop, List.length_take, HL.out]; omega
        have HST := Lib.hid hst
        have HPD := Lib.hid hpd
        have HPZ := Lib.hid hpz
        have i1 : (beg : Int) ≤ (k : Int) := by omega
        have i2 : (k : Int) ≤ (s.size : Int) := by omega
        obtain ⟨A0, c0, rfl, _, _⟩ := own_form2 HO.out
        clear hst hpd hb hget hkl hpz
        go_wp2_with (at_builtin; refine wpList_append_own _ rfl _ _ 38 rfl (B) 9 i0 (.string ⟨#[]⟩) 1 16 Tryd.underlying38 hi hz0 hz1 hz2 rfl (by decide) _ (P.length) _ rfl (HO.out.alloc _) ⟨wr.heap.size, 0, none⟩ 1 1 [.string (s.extract beg k)] rfl rfl ?c1 ?c2 ?c3 ?c4 ?c5 ?_)
        case c1 => exact one_cellS _ _ _
        case c2 => simp [Value.oneCell']
        case c3 => unfold maxLen; omega
        case c4 => omega
        case c5 => rw [World.size_alloc]; have := HS.out; omega
        intro s' wy hown hgrow _
        have HB2 := Lib.hid ((HBW.out.alloc HS.out _).grown hgrow (by rw [World.size_alloc]; have := HS.out; omega) (fun x hx => (HO.out.lt x hx).1))
        have HS2 := Lib.hid (Nat.le_trans (show B ≤ (wr.alloc (.cells #[.string (s.extract beg k)] 9)).heap.size by rw [World.size_alloc]; have := HS.out; omega) hgrow.size)
        have hown2 : wy.ownsRow B 9 1 s' (P ++ [s.extract beg k]).length ((P ++ [s.extract beg k]).map Value.string) := by
          rw [List.length_append, List.length_singleton, List.map_append]; exact hown
        have HQ2 := Lib.hid hown2
        obtain ⟨A1, c1, rfl, _, _⟩ := own_form2 hown
        have HE2 : Hid (spl b s.data.toList = (P ++ [s.extract beg k]).map (·.data.toList) ++ spl b (s.data.toList.drop (k + 1))) := Lib.hid (by
          rw [HE.out, HST.out, List.map_append, List.append_assoc, List.map_cons, List.map_nil, HPD.out]; rfl)
        have HZ2 : Hid (∀ p ∈ P ++ [s.extract beg k], p.size ≤ 1048576) := Lib.hid (fun p hp => by
          rcases List.mem_append.1 hp with q | q
          · exact HZ.out p q
          · simp only [List.mem_singleton] at q; rw [q]; exact HPZ.out)
        have HN2 : Hid (b ∉ (s.data.toList.take (k + 1)).drop (k + 1)) := Lib.hid (by
          rw [List.drop_eq_nil_of_le (by rw [List.length_take]; omega)]; exact List.not_mem_nil)
        have hPl : (P ++ [s.extract beg k]).length ≤ k + 1 := by rw [List.length_append, List.length_singleton]; omega
        clear hown hown2 hgrow HO HBW HS HE HN HST
        go_wp2_with fail
        exact ⟨⟨k + 1, k + 1, P ++ [s.extract beg k], by go_num, by go_num, Nat.le_refl _, by omega, hPl, by simpa only [List.length_append, List.length_singleton] using HQ2, HE2, HN2, HZ2, HB2, HS2⟩, by simp [intOf]; omega⟩
      · have T1 : (((s[k]'hlt).toNat : Int) == (b.toNat : Int)) = false := by
          rw [beq_eq_false_iff_ne]
          intro e
          exact hb (UInt8.toNat_inj.1 (by omega))
        have HN2 := Lib.hid (no_step hbk hkl (fun e => hb (hget.symm.trans e)) HN.out)
        clear hb hget hkl
        go_wp2_with fail
        exact ⟨⟨k + 1, beg, P, by go_num, rfl, by omega, by omega, by omega, HO, HE, HN2, HZ, HBW, HS⟩, by simp [intOf]; omega⟩
    · obtain rfl : k = s.size := by omega
      have hpd := piece_data s beg s.size (Nat.le_refl _)
      have hfull : s.data.toList.take s.size = s.data.toList := by rw [← HL.out, List.take_length]
      have hno := HN.out
      rw [hfull] at hpd hno
      have hpz : (s.extract beg s.size).size ≤ 1048576 := by
        have q : (s.extract beg s.size).data.toList.length = (s.extract beg s.size).size := by rw [Array.length_toList]; rfl
        rw [← q, hpd, List.length_drop, HL.out]; omega
      have hend : spl b s.data.toList = (P ++ [s.extract beg s.size]).map (·.data.toList) := by
        rw [HE.out, spl_miss b _ hno, List.map_append, List.map_cons, List.map_nil, hpd]
      have HEND := Lib.hid hend
      have HPZ := Lib.hid hpz
      have i1 : (beg : Int) ≤ (s.size : Int) := by omega
      obtain ⟨A0, c0, rfl, _, _⟩ := own_form2 HO.out
      clear hpd hfull hno hpz hend
      go_wp2_with (at_builtin; refine wpList_append_own _ rfl _ _ 38 rfl (B) 9 i0 (.string ⟨#[]⟩) 1 16 Tryd.underlying38 hi hz0 hz1 hz2 rfl (by decide) _ (P.length) _ rfl (HO.out.alloc _) ⟨wr.heap.size, 0, none⟩ 1 1 [.string (s.extract beg s.size)] rfl rfl ?c1 ?c2 ?c3 ?c4 ?c5 ?_)
      case c1 => exact one_cellS _ _ _
      case c2 => simp [Value.oneCell']
      case c3 => unfold maxLen; omega
      case c4 => omega
      case c5 => rw [World.size_alloc]; have := HS.out; omega
      intro s' wy hown hgrow _
      have HB2 := Lib.hid ((HBW.out.alloc HS.out _).grown hgrow (by rw [World.size_alloc]; have := HS.out; omega) (fun x hx => (HO.out.lt x hx).1))
      have hown2 : wy.ownsRow B 9 1 s' (P ++ [s.extract beg s.size]).length ((P ++ [s.extract beg s.size]).map Value.string) := by
        rw [List.length_append, List.length_singleton, List.map_append]; exact hown
      have HQ2 := Lib.hid hown2
      clear hown hown2 hgrow HO HBW HS HE HN
      go_wp2_with fail
      go_ret
      refine ⟨_, P ++ [s.extract beg s.size], rfl, ?_, HEND.out.symm, ?_, fun p hp => ?_, by have := HB2.out; rw [HBB.out] at this; exact this⟩
      · rw [← HBB.out]; exact HQ2.out
      · rw [List.length_append, List.length_singleton]; omega
      · rcases List.mem_append.1 hp with q | q
        · exact HZ.out p q
        · simp only [List.mem_singleton] at q; rw [q]; exact HPZ.out
theorem own_ne {w : World} {b1 b2 n1 n2 : Nat} {e1 e2 : TypeId} {s1 s2 : Nat} {v1 v2 : Value} {x1 x2 : List Value} (h1 : w.ownsRow b1 e1 s1 v1 n1 x1) (h2 : w.ownsRow b2 e2 s2 v2 n2 x2) (he : e1 ≠ e2) : v1.ownBlock = none ∨ v1.ownBlock ≠ v2.ownBlock := by
  rcases h1.2 with ⟨rfl, _⟩ | ⟨g1, c1, u1, rfl, _, q1, _⟩
  · exact .inl rfl
  · rcases h2.2 with ⟨rfl, _⟩ | ⟨g2, c2, u2, rfl, _, q2, _⟩
    · exact .inr (by simp [Value.ownBlock])
    · refine .inr ?_
      intro e
      simp only [Value.ownBlock, Option.some.injEq] at e
      rw [e, q2] at q1
      simp only [Option.some.injEq, Obj.cells.injEq] at q1
      exact he q1.2.1.symm
/-! lists -/
def AN (ps : List (List UInt8)) (us : List Nat) : Prop := ps = us.map nimT ∧ ∀ u ∈ us, u < 65536
def RL (l : List UInt8) (us : List Nat) : Prop := (l = [] ∧ us = []) ∨ (l ≠ [] ∧ AN (spl 32 l) us)
theorem AN.inj {ps : List (List UInt8)} {us vs : List Nat} (h : AN ps us) (h' : AN ps vs) : us = vs := by
  have e := h.1.symm.trans h'.1
  clear h h'
  induction us generalizing vs with
  | nil => cases vs with
    | nil => rfl
    | cons v vs => simp at e
  | cons u us ih => cases vs with
    | nil => simp at e
    | cons v vs =>
      simp only [List.map_cons, List.cons.injEq] at e
      rw [nimT_inj e.1, ih e.2]
theorem RL.inj {l : List UInt8} {us vs : List Nat} (h : RL l us) (h' : RL l vs) : us = vs := by
  rcases h with ⟨h1, h2⟩ | ⟨h1, h2⟩
  · rcases h' with ⟨_, h4⟩ | ⟨h3, _⟩
    · rw [h2, h4]
    · exact absurd h1 h3
  · rcases h' with ⟨h3, _⟩ | ⟨_, h4⟩
    · exact absurd h3 h1
    · exact h2.inj h4
theorem an_no {ps : List (List UInt8)} {k : Nat} (hk : k < ps.length) (h : ¬ ∃ u, u < 65536 ∧ ps[k] = nimT u) : ¬ ∃ us, AN ps us := by
  rintro ⟨us, h1, h2⟩
  have hl : k < us.length := by have := congrArg List.length h1; simp at this; omega
  refine h ⟨us[k], h2 _ (List.getElem_mem hl), ?_⟩
  have e : ps[k]? = (us.map nimT)[k]? := by rw [h1]
  rw [List.getElem?_eq_getElem hk, List.getElem?_map, List.getElem?_eq_getElem hl] at e
  simpa using e
def uI (us : List Nat) : List Int := us.map (fun n : Nat => ((n : Nat) : Int))
theorem uI_len (us : List Nat) : (uI us).length = us.length := by simp [uI]
theorem uI_small {us : List Nat} (h : ∀ u ∈ us, u < 65536) : ∀ z ∈ uI us, 0 ≤ z ∧ z < 65536 := by
  intro z hz
  obtain ⟨u, hu, rfl⟩ := List.mem_map.1 hz
  have := h u hu
  omega
theorem uI_snoc (us : List Nat) (u : Nat) : u16s (uI us) ++ [Value.int .u16 (u : Int)] = u16s (uI (us ++ [u])) := by simp [uI, u16s]
def fl (us : List Nat) (n : Nat) : List Value := u16s (uI us ++ List.replicate (n - us.length) 0)
theorem fl_zero (n : Nat) : fl [] n = List.replicate n (.int .u16 0) := by simp [fl, uI, u16s]
theorem fl_end (us : List Nat) : fl us us.length = u16s (uI us) := by simp [fl]
theorem fl_len (us : List Nat) (n : Nat) (h : us.length ≤ n) : (fl us n).length = n := by simp [fl, uI]; omega
theorem fl_set (us : List Nat) (n u : Nat) (h : us.length < n) : (fl us n).set us.length (.int .u16 (u : Int)) = fl (us ++ [u]) n := by
  unfold fl u16s
  rw [← List.map_set]
  congr 1
  rw [List.set_append_right _ _ (by rw [uI_len]; exact Nat.le_refl _), uI_len, Nat.sub_self, show n - us.length = (n - (us ++ [u]).length) + 1 from by simp; omega, List.replicate_succ, List.set_cons_zero]
  simp [uI]
theorem part_at {P : List ByteArray} {l : List UInt8} (h : P.map (·.data.toList) = spl 32 l) {k : Nat} (hk : k < P.length) : ∃ hk2 : k < (spl 32 l).length, (spl 32 l)[k] = P[k].data.toList := by
  have hl := congrArg List.length h
  rw [List.length_map] at hl
  refine ⟨by omega, ?_⟩
  have e : (P.map (·.data.toList))[k]? = (spl 32 l)[k]? := by rw [h]
  rw [List.getElem?_map, List.getElem?_eq_getElem hk, List.getElem?_eq_getElem (by omega)] at e
  simpa using e.symm
theorem take_an {l : List UInt8} {us : List Nat} {k u : Nat} (hk : k < (spl 32 l).length) (h : (spl 32 l).take k = us.map nimT) (e : (spl 32 l)[k] = nimT u) : (spl 32 l).take (k + 1) = (us ++ [u]).map nimT := by
  rw [List.take_succ_eq_append_getElem hk, h, e]; simp
set_option maxRecDepth 100000 in
set_option maxHeartbeats 4000000 in
theorem l01ReadList_any (s : ByteArray) (hs : s.size ≤ 1048576) (w : World) :
    Calls Tryd.prog 20 #[.string s] w fun e w' => ((∃ us v, RL s.data.toList us ∧ e = .returned (.tuple #[v, .bool true]) ∧ w'.ownsRow w.heap.size 35 1 v us.length (u16s (uI us)) ∧ us.length ≤ 1048577 ∧ ∀ u ∈ us, u < 65536) ∨ ((¬ ∃ us, RL s.data.toList us) ∧ ∃ v, e = .returned (.tuple #[v, .bool false]) ∧ w'.ownsRow w.heap.size 35 1 v 0 [])) ∧ Below w.heap.size w w' := by
  obtain ⟨i0, hi, hz0, hz1, hz2⟩ := info_parts info25
  by_cases h0 : s.data.toList = []
  · have hl : s.toList = [] := by rw [toListIs]; exact h0
    have H0 := Lib.hid h0
    clear h0
    go_enter Tryd.func20, Tryd.ntmps20
    go_wp2_with fail
    go_ret2
    refine ⟨.inl ⟨[], .slice (some ⟨w.heap.size, 0, none⟩) 0 0, .inl ⟨H0.out, rfl⟩, rfl, World.ownsRow_made _ #[] 0 (Nat.le_refl _) (Nat.zero_le _) rfl, by simp, fun u hu => by cases hu⟩, (Below.refl _ _).alloc (Nat.le_refl _) _⟩
  · have hl : ¬ s.toList = [] := by rw [toListIs]; exact h0
    have hie : s.toList.isEmpty = false := by
      cases e : s.toList with
      | nil => exact absurd e hl
      | cons c r => rfl
    have H0 := Lib.hid h0
    clear h0
    go_enter Tryd.func20, Tryd.ntmps20
    go_wp2_with fail
    obtain ⟨B, hB⟩ : ∃ B, B = w.heap.size := ⟨_, rfl⟩
    have m1 : (w.alloc (.cells #[] 35)).ownsRow B 35 1 (.slice (some ⟨w.heap.size, 0, none⟩) 0 0) 0 [] := World.ownsRow_made _ #[] 0 (by omega) (Nat.zero_le _) rfl
    have m2 : Below B w (w.alloc (.cells #[] 35)) := (Below.refl _ _).alloc (by omega) _
    have m3 : B ≤ (w.alloc (.cells #[] 35)).heap.size := by rw [World.size_alloc]; omega
    rw [← hB] at m1 ⊢
    have M1 := Lib.hid m1
    have M2 := Lib.hid m2
    have M3 := Lib.hid m3
    have HBB := Lib.hid hB
    clear m1 m2 m3 hB hl hie
    generalize w.alloc (.cells #[] 35) = wa at M1 M2 M3 ⊢
    refine (l01Split_any s hs 32 _).mono ?_
    rintro e wb ⟨v, P, rfl, hown, hP, hPl, hPz, hb⟩
    obtain ⟨A0, c0, rfl, _, hA⟩ := own_form2 hown
    have M1b := Lib.hid (own_below M1.out hb)
    have M2b := Lib.hid (M2.out.trans (hb.mono M3.out))
    have M3b := Lib.hid (Nat.le_trans M3.out hb.size)
    have HA := Lib.hid hA
    have HP := Lib.hid hP
    have HPZ := Lib.hid hPz
    have HOP := Lib.hid (own_lower2 hown (Nat.le_trans M3.out (Nat.le_refl _)))
    clear hown hP hPz hb hA M1 M2 M3
    go_wp2_with fail
    go_loopw [4, 6] (fun o i wr => ∃ (k : Nat) (us : List Nat), i = .int .i64 k ∧ k ≤ P.length ∧ us.length = k ∧ Hid (wr.ownsRow B 35 1 o us.length (u16s (uI us))) ∧ Hid (wr.ownsRow B 9 1 (.slice A0 P.length c0) P.length (P.map Value.string)) ∧ Hid ((spl 32 s.data.toList).take k = us.map nimT) ∧ Hid (∀ u ∈ us, u < 65536) ∧ Hid (Below B w wr) ∧ Hid (B ≤ wr.heap.size)) (fun _ i _ => P.length - (intOf i).toNat)
    case atStart => exact ⟨0, [], rfl, Nat.zero_le _, rfl, Lib.hid M1b.out, HOP, Lib.hid rfl, Lib.hid (fun u hu => by cases hu), M2b, M3b⟩
    case round =>
      clear M1b M2b M3b HOP
      obtain ⟨k, us, rfl, hk, hus, HO, HOP, HT, HU, HBW, HS⟩ := hrel
      by_cases hlt : k < P.length
      · obtain ⟨g, hg, _, _⟩ := HA.out (by omega)
        subst hg
        have hcl : wr.cell? ⟨g, k, none⟩ = some (.string (P[k]'hlt)) := by
          rw [HOP.out.cellAt k (by omega), List.getElem?_map, List.getElem?_eq_getElem hlt]; rfl
        obtain ⟨hk2, hpe⟩ := part_at HP.out hlt
        have hpz := HPZ.out _ (List.getElem_mem hlt)
        have HPE := Lib.hid hpe
        have HUS := Lib.hid hus
        have hi1 : (k : Int) < (P.length : Int) := by omega
        generalize P[k]'hlt = p at hcl hpz HPE
        clear hpe
        by_cases hq : ∃ u, u < 65536 ∧ p.data.toList = nimT u
        · obtain ⟨u, hu, hq⟩ := hq
          have HQ := Lib.hid hq
          clear hq
          obtain ⟨A1, c1, rfl, _, _⟩ := own_form2 HO.out
          have hul0 : us.length ≤ 1048577 := by omega
          clear hus
          go_wp2_with fail
          refine (read_yes p (by omega) u hu HQ.out _).mono ?_
          rintro e w5 ⟨rfl, rfl⟩
          go_wp2_with (at_builtin; refine wpList_append_own _ rfl _ _ 24 rfl (B) 35 i0 (.int .u16 0) 1 2 Tryd.underlying24 hi hz0 hz1 hz2 rfl (by decide) _ (us.length) _ rfl (HO.out.alloc _) ⟨wr.heap.size, 0, none⟩ 1 1 [.int .u16 (u : Int)] rfl rfl ?c1 ?c2 ?c3 ?c4 ?c5 ?_)
          case c1 => exact one_cellS _ _ _
          case c2 => simp [Value.oneCell']
          case c3 => unfold maxLen; omega
          case c4 => omega
          case c5 => rw [World.size_alloc]; have := HS.out; omega
          intro s' wy hown hgrow _
          have HB2 := Lib.hid ((HBW.out.alloc HS.out _).grown hgrow (by rw [World.size_alloc]; have := HS.out; omega) (fun x hx => (HO.out.lt x hx).1))
          have HS2 := Lib.hid (Nat.le_trans (show B ≤ (wr.alloc (.cells #[.int .u16 (u : Int)] 35)).heap.size by rw [World.size_alloc]; have := HS.out; omega) hgrow.size)
          have HOP2 := Lib.hid ((HOP.out.alloc (.cells #[.int .u16 (u : Int)] 35)).kept hgrow (own_ne HOP.out HO.out (by decide)))
          have hown2 : wy.ownsRow B 35 1 s' (us ++ [u]).length (u16s (uI (us ++ [u]))) := by
            rw [← uI_snoc, List.length_append, List.length_singleton]; exact hown
          have HQ2 := Lib.hid hown2
          have HT2 := Lib.hid (take_an hk2 HT.out (HPE.out.trans HQ.out))
          have HU2 : Hid (∀ x ∈ us ++ [u], x < 65536) := Lib.hid (fun x hx => by
            rcases List.mem_append.1 hx with q | q
            · exact HU.out x q
            · simp only [List.mem_singleton] at q; rw [q]; exact hu)
          have hul : (us ++ [u]).length = k + 1 := by rw [List.length_append, List.length_singleton, HUS.out]
          obtain ⟨A2, c2, rfl, _, _⟩ := own_form2 hown
          clear hown hown2 hgrow HO HBW HS HT HU HOP
          go_wp2_with fail
          exact ⟨⟨k + 1, us ++ [u], by go_num, by omega, hul, HQ2, HOP2, HT2, HU2, HB2, HS2⟩, by simp [intOf]; omega⟩
        · have hno : ∀ u, u < 65536 → p.data.toList ≠ nimT u := fun u hu e => hq ⟨u, hu, e⟩
          have hfin : ¬ ∃ us, RL s.data.toList us := by
            rintro ⟨us2, h1 | h1⟩
            · exact H0.out h1.1
            · refine an_no hk2 ?_ ⟨us2, h1.2⟩
              rintro ⟨u, hu, e⟩
              exact hno u hu (HPE.out.symm.trans e)
          have HNO := Lib.hid hno
          have HFIN := Lib.hid hfin
          clear hq hno hfin
          go_wp2_with fail
          refine (read_no p (by omega) HNO.out _).mono ?_
          rintro e w5 ⟨rfl, rfl⟩
          unfold noNim
          go_wp2_with fail
          go_ret2
          refine ⟨.inr ⟨HFIN.out, .slice (some ⟨wr.heap.size, 0, none⟩) 0 0, rfl, World.ownsRow_made _ #[] 0 ?_ (Nat.zero_le _) rfl⟩, ?_⟩
          · rw [← HBB.out]; exact HS.out
          · rw [← HBB.out]; exact HBW.out.alloc HS.out _
      · obtain rfl : k = P.length := by omega
        have hAN : RL s.data.toList us := .inr ⟨H0.out, by
          have e := HT.out
          rw [show P.length = (spl 32 s.data.toList).length from by rw [← HP.out, List.length_map], List.take_length] at e
          exact e, HU.out⟩
        have HAN := Lib.hid hAN
        clear hAN
        go_wp2_with fail
        go_ret2
        refine ⟨.inl ⟨us, _, HAN.out, rfl, ?_, by omega, HU.out⟩, ?_⟩
        · rw [← HBB.out]; exact HO.out
        · rw [← HBB.out]; exact HBW.out
theorem spec_ReadNims (s : ByteArray) (hs : s.size ≤ 1048576) (w : World) :
    Calls Tryd.prog 15 #[.string s] w fun e w' => ((∃ us v, RL s.data.toList us ∧ e = .returned (.tuple #[v, .int .i64 0]) ∧ w'.ownsRow w.heap.size 35 1 v us.length (u16s (uI us)) ∧ us.length ≤ 1048577 ∧ ∀ u ∈ us, u < 65536) ∨ ((¬ ∃ us, RL s.data.toList us) ∧ ∃ v, e = .returned (.tuple #[v, .int .i64 5]) ∧ w'.ownsRow w.heap.size 35 1 v 0 [])) ∧ Below w.heap.size w w' := by
  go_enter Tryd.func15, Tryd.ntmps15
  go_wp2_with fail
  refine (l01ReadList_any s hs _).mono ?_
  rintro e w1 ⟨⟨us, v, h1, rfl, h2, h3, h4⟩ | ⟨h1, v, rfl, h2⟩, hb⟩
  · obtain ⟨A, c, rfl, _, _⟩ := own_form2 h2
    have H := Lib.hid (And.intro h1 (And.intro h2 (And.intro h3 (And.intro h4 hb))))
    clear h1 h2 h3 h4 hb
    go_wp2_with fail
    go_ret2
    exact ⟨.inl ⟨us, _, H.out.1, rfl, H.out.2.1, H.out.2.2.1, H.out.2.2.2.1⟩, H.out.2.2.2.2⟩
  · have H := Lib.hid (And.intro h1 hb)
    clear h1 h2 hb
    go_wp2_with fail
    go_ret2
    exact ⟨.inr ⟨H.out.1, .slice (some ⟨w1.heap.size, 0, none⟩) 0 0, rfl, World.ownsRow_made _ #[] 0 H.out.2.size (Nat.zero_le _) rfl⟩, H.out.2.alloc H.out.2.size _⟩
theorem split_parts (s : ByteArray) : (Lib.splitB ⟨#[32]⟩ 0 (Lib.countB s ⟨#[32]⟩) s).map (·.data.toList) = spl 32 s.data.toList ∧ (Lib.splitB ⟨#[32]⟩ 0 (Lib.countB s ⟨#[32]⟩) s).length = Lib.countB s ⟨#[32]⟩ + 1 := by
  refine ⟨?_, Lib.splitB_all ⟨#[32]⟩ (by decide) 0 _ s rfl⟩
  rw [Lib.splitB_data]
  exact splitK_spl 32 _ s.data.toList (Nat.le_refl _)
theorem part_size {P : List ByteArray} {l : List UInt8} (h : P.map (·.data.toList) = spl 32 l) : ∀ p ∈ P, p.size ≤ l.length := by
  have hall : ∀ (l : List UInt8), ∀ x ∈ spl 32 l, x.length ≤ l.length := by
    intro l
    induction l with
    | nil => intro x hx; rw [spl_nil] at hx; simp at hx; rw [hx]; simp
    | cons c r ih =>
      intro x hx
      by_cases e : c = 32
      · rw [e, spl_eq] at hx
        rcases List.mem_cons.1 hx with q | q
        · rw [q]; simp
        · have := ih x q; rw [List.length_cons]; omega
      · cases hr : spl 32 r with
        | nil => exact absurd hr (spl_length_pos 32 r)
        | cons y ys =>
          rw [spl_ne e hr] at hx
          rcases List.mem_cons.1 hx with q | q
          · have := ih y (by rw [hr]; simp)
            rw [q, List.length_cons, List.length_cons]; omega
          · have := ih x (by rw [hr]; exact List.mem_cons_of_mem _ q)
            rw [List.length_cons]; omega
  intro p hp
  have := hall l p.data.toList (by rw [← h]; exact List.mem_map.2 ⟨p, hp, rfl⟩)
  rw [Array.length_toList] at this
  exact this
set_option maxRecDepth 100000 in
set_option maxHeartbeats 4000000 in
theorem impl_ReadNims (s : ByteArray) (hs : s.size ≤ 1048576) (m : Int) (w : World) (htab : POW w) (herr : ERRS w) (hm : w.cell? ⟨1, 0, none⟩ = some (.int .i64 m)) :
    Calls Tryd.prog 16 #[.string s] w fun e w' => ((∃ us v, RL s.data.toList us ∧ e = .returned (.tuple #[v, .int .i64 0]) ∧ w'.ownsRow w.heap.size 35 1 v us.length (u16s (uI us)) ∧ us.length ≤ 1048577 ∧ ∀ u ∈ us, u < 65536) ∨ ((¬ ∃ us, RL s.data.toList us) ∧ ∃ v, e = .returned (.tuple #[v, .int .i64 5]) ∧ w'.ownsRow w.heap.size 35 1 v 0 [])) ∧ Below w.heap.size w w' := by
  obtain ⟨i0, hi, hz0, hz1, hz2⟩ := info_parts info25
  have HTAB := Lib.hid htab
  have HERR := Lib.hid herr
  have HMC := Lib.hid hm
  clear htab herr hm
  by_cases h0 : s.data.toList = []
  · have hl : s.toList = [] := by rw [toListIs]; exact h0
    have H0 := Lib.hid h0
    clear h0
    go_enter Tryd.func16, Tryd.ntmps16
    go_wp2_with fail
    go_ret2
    exact ⟨.inl ⟨[], .slice none 0 0, .inl ⟨H0.out, rfl⟩, rfl, World.ownsRow_nil _ _ _ _, by simp, fun u hu => by cases hu⟩, Below.refl _ _⟩
  · have hl : ¬ s.toList = [] := by rw [toListIs]; exact h0
    have hie : s.toList.isEmpty = false := by
      cases e : s.toList with
      | nil => exact absurd e hl
      | cons c r => rfl
    have H0 := Lib.hid h0
    obtain ⟨hp1, hp2⟩ := split_parts s
    obtain ⟨P, hP⟩ : ∃ P, P = Lib.splitB ⟨#[32]⟩ 0 (Lib.countB s ⟨#[32]⟩) s := ⟨_, rfl⟩
    rw [← hP] at hp1 hp2
    have hpz := part_size hp1
    have hpl : P.length ≤ 1048577 := by
      rw [hp2]
      have := Lib.countB_le ⟨#[32]⟩ (by decide) s.size s (Nat.le_refl _)
      omega
    have hsplit := Tryd.strings_Split s ⟨#[32]⟩ m w (by omega) HMC.out (by decide)
    rw [← hP, ← hp2] at hsplit
    have HSPL := Lib.hid hsplit
    have HP := Lib.hid hp1
    have HPZ := Lib.hid hpz
    clear h0 hP hp1 hp2 hpz hsplit
    go_enter Tryd.func16, Tryd.ntmps16
    go_wp2_with fail
    refine HSPL.out.mono ?_
    rintro e w1 ⟨rfl, hw1⟩
    have hb1 : Below w.heap.size w w1 := by rw [hw1]; exact (Below.refl _ _).alloc (Nat.le_refl _) _
    have hs1 : w.heap.size < w1.heap.size := by rw [hw1, World.size_alloc]; omega
    have hcell : ∀ i (hi : i < P.length), w1.cell? ⟨w.heap.size, i, none⟩ = some (.string P[i]) := fun i hi => by
      rw [hw1]
      refine cell_of_row _ _ _ _ _ _ (heap_alloc_new w _) |>.trans ?_
      rw [List.getElem?_toArray, List.getElem?_map, List.getElem?_eq_getElem hi]; rfl
    obtain ⟨g0, hg0⟩ : ∃ g0, g0 = w.heap.size := ⟨_, rfl⟩
    have HB1 := Lib.hid hb1
    rw [← hg0] at hs1 hcell ⊢
    have HG0 := Lib.hid hg0
    have HS1 := Lib.hid hs1
    have HCL := Lib.hid hcell
    clear hw1 hb1 hcell hg0 hs1
    go_wp2_with (at_make; refine wpList_make_full _ rfl _ _ 24 rfl w1.heap.size 35 i0 (.int .u16 0) 1 Tryd.underlying24 hi hz0 hz1 _ _ _ _ P.length rfl rfl rfl rfl (by rw [hz2]; omega) (by unfold maxLen; omega) (Nat.le_refl _) ?_)
    intro w2 hown hgrow
    have hb2 : Below w1.heap.size w1 w2 := (Below.refl _ w1).grown hgrow (Nat.le_refl _) (fun k hk => by cases hk)
    obtain ⟨g, hg⟩ : ∃ g, g = w1.heap.size := ⟨_, rfl⟩
    rw [← hg] at hown hb2 ⊢
    have hsz : g ≤ w2.heap.size := by rw [hg]; exact hb2.size
    have hown1 : w2.ownsRow g 35 1 (.slice (some ⟨g, 0, none⟩) P.length P.length) P.length (fl [] P.length) := by
      have e : (madeCells #[Value.int .u16 0] P.length).toList = fl [] P.length := by
        rw [toList_madeCells_one, fl_zero]
      rw [← e]; exact hown
    have HG := Lib.hid hg; clear hg
    have HO := Lib.hid hown1
    have HB := Lib.hid hb2
    have HS := Lib.hid hsz
    clear hown hgrow hown1 hb2 hsz
    go_wp2_with fail
    go_loopw [19] (fun i wr => ∃ (k : Nat) (us : List Nat), i = .int .i64 k ∧ k ≤ P.length ∧ us.length = k ∧ Hid (wr.ownsRow g 35 1 (.slice (some ⟨g, 0, none⟩) P.length P.length) P.length (fl us P.length)) ∧ Hid ((spl 32 s.data.toList).take k = us.map nimT) ∧ Hid (∀ u ∈ us, u < 65536) ∧ Hid (Below g w1 wr) ∧ Hid (g ≤ wr.heap.size)) (fun i _ => P.length - (intOf i).toNat)
    case atStart => exact ⟨0, [], rfl, Nat.zero_le _, rfl, HO, Lib.hid rfl, Lib.hid (fun u hu => by cases hu), HB, HS⟩
    case round =>
      clear HO HB HS
      obtain ⟨k, us, rfl, hk, hus, HO, HT, HU, HB, HS⟩ := hrel
      have hbw : Below w.heap.size w wr := HB1.out.trans (HB.out.mono (by rw [HG.out]; exact HB1.out.size))
      have HBW := Lib.hid hbw
      clear hbw
      by_cases hlt : k < P.length
      · have hcl : wr.cell? ⟨g0, k, none⟩ = some (.string (P[k]'hlt)) := (HB.out.cell (p := ⟨g0, k, none⟩) (by rw [HG.out]; exact HS1.out)).trans (HCL.out k hlt)
        obtain ⟨hk2, hpe⟩ := part_at HP.out hlt
        have hpz : (P[k]'hlt).size ≤ 1048576 := by
          have h1 := HPZ.out _ (List.getElem_mem hlt)
          rw [Array.length_toList] at h1
          exact Nat.le_trans h1 hs
        have HPE := Lib.hid hpe
        have HUS := Lib.hid hus
        have hi1 : (k : Int) < (P.length : Int) := by omega
        generalize P[k]'hlt = p at hcl hpz HPE
        clear hpe
        have HTW := Lib.hid (HTAB.out.below HBW.out)
        by_cases hq : ∃ u, u < 65536 ∧ p.data.toList = nimT u
        · obtain ⟨u, hu, hq⟩ := hq
          have HQ := Lib.hid hq
          have hset := fl_set us P.length u (by omega)
          rw [hus] at hset
          have HSET := Lib.hid hset
          clear hq hset hus
          go_wp2_with fail
          refine (impl_ReadNim_yes p (by omega) u hu HQ.out _ HTW.out).mono ?_
          rintro e w5 ⟨rfl, hb5⟩
          have ho2 := own_below HO.out hb5
          obtain ⟨x, q1⟩ : ∃ x, w5.cell? ⟨g, k, none⟩ = some x := by
            rw [ho2.cellAt k (by omega)]
            exact ⟨_, List.getElem?_eq_getElem (by rw [fl_len _ _ (by rw [HUS.out]; omega)]; exact hlt)⟩
          have q2 : w5.frozen? ⟨g, k, none⟩ = false := ho2.frozenAt k
          have q3 := (ho2.stored k (.int .u16 (u : Int))).1
          rw [HSET.out] at q3
          have HB2 := Lib.hid ((HB.out.trans (hb5.mono HS.out)).setCell (p := ⟨g, k, none⟩) (Nat.le_refl _) (.int .u16 (u : Int)))
          have HS2 : Hid (g ≤ (w5.setCell ⟨g, k, none⟩ (.int .u16 (u : Int))).heap.size) := Lib.hid (by have := hb5.size; have := HS.out; simp [World.setCell]; omega)
          have HO2 := Lib.hid q3
          have HT2 := Lib.hid (take_an hk2 HT.out (HPE.out.trans HQ.out))
          have HU2 : Hid (∀ x ∈ us ++ [u], x < 65536) := Lib.hid (fun x hx => by
            rcases List.mem_append.1 hx with q | q
            · exact HU.out x q
            · simp only [List.mem_singleton] at q; rw [q]; exact hu)
          have hul : (us ++ [u]).length = k + 1 := by rw [List.length_append, List.length_singleton, HUS.out]
          clear hb5 ho2 q3 HO HB HS HT HU
          go_wp2_with fail
          go_roundw
          case rel => exact ⟨k + 1, us ++ [u], by go_num, by omega, hul, HO2, HT2, HU2, HB2, HS2⟩
          case measure => simp [intOf]; omega
        · have hno : ∀ u, u < 65536 → p.data.toList ≠ nimT u := fun u hu e => hq ⟨u, hu, e⟩
          have hfin : ¬ ∃ us, RL s.data.toList us := by
            rintro ⟨us2, h1 | h1⟩
            · exact H0.out h1.1
            · refine an_no hk2 ?_ ⟨us2, h1.2⟩
              rintro ⟨u, hu, e⟩
              exact hno u hu (HPE.out.symm.trans e)
          have HNO := Lib.hid hno
          have HFIN := Lib.hid hfin
          have HEW := Lib.hid (HERR.out.below HERR.out.size HBW.out)
          clear hq hno hfin
          go_wp2_with fail
          refine (impl_ReadNim_no p (by omega) HNO.out _ HTW.out HEW.out).mono ?_
          rintro e w5 ⟨rfl, hb5⟩
          unfold badNim
          have HB5 := Lib.hid (HBW.out.trans (hb5.mono HBW.out.size))
          clear hb5
          go_wp2_with fail
          go_ret2
          exact ⟨.inr ⟨HFIN.out, .slice none 0 0, rfl, World.ownsRow_nil _ _ _ _⟩, HB5.out⟩
      · obtain rfl : k = P.length := by omega
        have hAN : RL s.data.toList us := .inr ⟨H0.out, by
          have e := HT.out
          rw [show P.length = (spl 32 s.data.toList).length from by rw [← HP.out, List.length_map], List.take_length] at e
          exact e, HU.out⟩
        have HAN := Lib.hid hAN
        have HUS := Lib.hid hus
        clear hAN hus
        go_wp2_with fail
        go_ret2
        refine ⟨.inl ⟨us, .slice (some ⟨g, 0, none⟩) P.length P.length, HAN.out, rfl, ?_, by rw [HUS.out]; omega, HU.out⟩, HBW.out⟩
        have ho := HO.out
        rw [show fl us P.length = u16s (uI us) from by rw [← HUS.out, fl_end]] at ho
        rw [HUS.out]
        exact own_lower2 ho (by rw [HG.out]; exact HB1.out.size)
end Go.Proofs.YthhjhfkcgokffaaDoor
