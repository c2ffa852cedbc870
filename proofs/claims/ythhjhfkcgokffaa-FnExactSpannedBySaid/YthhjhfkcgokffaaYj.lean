/-
  Codes that are taken greedily: of the model and of the program; GreedyCode.
-/
import Derived.Test.YthhjhfkcgokffaaYi
namespace Go.Proofs.Ythhjhfkcgokffaa
set_option linter.unusedVariables false
set_option linter.unusedSimpArgs false
open Go.ChangeShapes Go.WideShapes Go.ChangeAt Go.RowKit

theorem GW.made (w : World) : GW (w.alloc (.cells #[] 25)) w.heap.size (.slice (some ⟨w.heap.size, 0, none⟩) 0 0) [] :=
  ⟨fun _ => .nilFunc, [], World.ownsRow_made w (e := 25) (size := 1) (base := w.heap.size) #[] 0 (Nat.le_refl _) (Nat.zero_le _) rfl, fun i hi => absurd hi (by simp), WR.zero _ _ _ _ _⟩
theorem GW.lower {w : World} {B B' : Nat} {s : Value} {gs : List (List Int)} (h : GW w B s gs) (hB : B' ≤ B) : GW w B' s gs := by
  obtain ⟨us, vs, h1, h2, h3⟩ := h
  refine ⟨us, vs, ⟨h1.1, ?_⟩, h2, ⟨fun i hi => ⟨(h3.1 i hi).1.lower hB, (h3.1 i hi).2⟩, h3.2⟩⟩
  rcases h1.2 with q | ⟨g, c, cur, q1, q2, q3⟩
  · exact .inl q
  · exact .inr ⟨g, c, cur, q1, Nat.le_trans hB q2, q3⟩
theorem GW.own {w : World} {B : Nat} {s : Value} {gs : List (List Int)} (h : GW w B s gs) : ∃ vs, w.ownsRow B 25 1 s gs.length vs := by
  obtain ⟨us, vs, h1, _⟩ := h
  exact ⟨vs, h1⟩
theorem own_spot {w : World} {B n : Nat} {e : TypeId} {s : Value} {vs : List Value} (h : w.ownsRow B e 1 s n vs) (k : Nat) (hk : s.ownBlock = some k) : B ≤ k ∧ k < w.heap.size := by
  rcases h.2 with ⟨e, _⟩ | ⟨g, _, cur, e, hb, hg, _⟩
  · rw [e] at hk; simp [Value.ownBlock] at hk
  · rw [e] at hk
    have : g = k := by simpa [Value.ownBlock] using hk
    subst this
    exact ⟨hb, (Array.getElem?_eq_some_iff.1 hg).1⟩
theorem own_list {w : World} {B n : Nat} {e : TypeId} {s : Value} {vs us : List Value} (h : w.ownsRow B e 1 s n vs) (h' : w.ownsRow B e 1 s n us) : vs = us := by
  rcases h.2 with ⟨e1, h0⟩ | ⟨g, cap, cur, e1, _, hg, _, _, _, ht⟩
  · have l1 := h.1
    have l2 := h'.1
    have : vs = [] := List.length_eq_zero_iff.1 (by omega)
    have : us = [] := List.length_eq_zero_iff.1 (by omega)
    simp_all
  · rcases h'.2 with ⟨e2, _⟩ | ⟨g', cap', cur', e2, _, hg', _, _, _, ht'⟩
    · rw [e1] at e2; cases e2
    · rw [e1] at e2
      cases e2
      rw [hg] at hg'
      injection hg' with q
      injection q with q1
      rw [← ht, ← ht', q1]
theorem row1_cells (w : World) (x : Value) (T : TypeId) : ∀ (j : Nat) (u : Value), [x][j]? = some u → (w.alloc (.cells #[x] T)).cell? ((⟨w.heap.size, 0, none⟩ : Addr).add j) = some u := one_cellC2 w x T
theorem PO.frm {w : World} {B : Nat} {v : Value} {zs : List Int} (h : PO w B v zs) : ∃ A n c, v = .slice A n c := by
  obtain ⟨A, c, e, _⟩ := h
  exact ⟨A, _, c, e⟩
set_option maxHeartbeats 8000000 in
theorem spec_GreedyCode (n l d : Int) (hb : -9223372036854775808 ≤ n ∧ n ≤ 9223372036854775807) (hl : -9223372036854775808 ≤ l ∧ l ≤ 9223372036854775807) (hd : -9223372036854775808 ≤ d ∧ d ≤ 9223372036854775807) (w : World) :
    Calls Try.prog 43 #[.int .i64 n, .int .i64 l, .int .i64 d] w fun e w' => ∃ r, e = .returned (.tuple #[r, .int .i64 (gcC n l d)]) ∧ WO w' w.heap.size w'.heap.size r (gcA n l d) ∧ Below w.heap.size w w' := by
  obtain ⟨i0, hi, hz0, hz1, hz2⟩ := info_parts infoWord
  have hBA := l06Base_any n
  have hIL := l00In_any l 1 7
  have hID := l00In_any d 1 l
  have HBA := Lib.hid hBA
  have HIL := Lib.hid hIL
  have HID := Lib.hid hID
  clear hBA hIL hID
  obtain ⟨gc, hgc⟩ : ∃ gc, gc = gcC n l d := ⟨_, rfl⟩
  obtain ⟨ga, hga⟩ : ∃ ga, ga = gcA n l d := ⟨_, rfl⟩
  rw [← hgc, ← hga]
  rcases gc_dec (n := n) (l := l) (d := d) with hok | hno
  case inr =>
    obtain ⟨e1, e2⟩ := gc_range hno
    rw [e1] at hgc
    rw [e2] at hga
    subst hgc hga
    clear e1 e2
    by_cases h1 : baB n = true
    · by_cases h2 : inB l 1 7 = true
      · have h3 : inB d 1 l = false := by
          by_cases h : inB d 1 l = true
          · exact absurd ⟨h1, h2, h⟩ hno
          · simpa using h
        have H1 := Lib.hid h1
        have H2 := Lib.hid h2
        have H3 := Lib.hid h3
        clear h1 h2 h3 hno
        go_enter Try.func43, Try.ntmps43
        go_wp2_with fail
        refine (HBA.out _).mono ?_
        rintro e w' ⟨rfl, rfl⟩
        rw [H1.out]
        go_wp2_with fail
        refine (HIL.out _).mono ?_
        rintro e w' ⟨rfl, rfl⟩
        rw [H2.out]
        go_wp2_with fail
        refine (HID.out _).mono ?_
        rintro e w' ⟨rfl, rfl⟩
        rw [H3.out]
        go_wp2_with fail
        go_ret2
        exact ⟨_, rfl, (GW.made w).wo, (Below.refl _ w).alloc (Nat.le_refl _) _⟩
      · have h2' : inB l 1 7 = false := by simpa using h2
        have H1 := Lib.hid h1
        have H2 := Lib.hid h2'
        clear h1 h2 h2' hno
        go_enter Try.func43, Try.ntmps43
        go_wp2_with fail
        refine (HBA.out _).mono ?_
        rintro e w' ⟨rfl, rfl⟩
        rw [H1.out]
        go_wp2_with fail
        refine (HIL.out _).mono ?_
        rintro e w' ⟨rfl, rfl⟩
        rw [H2.out]
        go_wp2_with fail
        go_ret2
        exact ⟨_, rfl, (GW.made w).wo, (Below.refl _ w).alloc (Nat.le_refl _) _⟩
    · have h1' : baB n = false := by simpa using h1
      have H1 := Lib.hid h1'
      clear h1 h1' hno
      go_enter Try.func43, Try.ntmps43
      go_wp2_with fail
      refine (HBA.out _).mono ?_
      rintro e w' ⟨rfl, rfl⟩
      rw [H1.out]
      go_wp2_with fail
      go_ret2
      exact ⟨_, rfl, (GW.made w).wo, (Below.refl _ w).alloc (Nat.le_refl _) _⟩
  have HOK := Lib.hid hok
  obtain ⟨h1, h2, h3⟩ := hok
  have hl2 := inB_yes h2
  have hd2 := inB_yes h3
  obtain ⟨N, hN⟩ : ∃ N : Nat, l = (N : Int) := ⟨l.toNat, by omega⟩
  subst hN
  have hN7 : N ≤ 7 := by omega
  have hN1 : 1 ≤ N := by omega
  have hpw := pw_b h1 N hN7
  obtain ⟨P, hP⟩ : ∃ P : Nat, n ^ N = (P : Int) := ⟨(n ^ N).toNat, by omega⟩
  have H1 := Lib.hid h1
  have H2 := Lib.hid h2
  have H3 := Lib.hid h3
  have hall := l06All_any n h1 N hN7
  rw [hP] at hall
  have HALL := Lib.hid hall
  have HP := Lib.hid hP
  have hPb : P ≤ 72057594037927936 := by omega
  clear h1 h2 h3 hall hpw
  by_cases h5 : 5000 < P
  · have T5 : decide ((5000 : Int) < (P : Int)) = true := by simp; omega
    obtain ⟨e1, e2⟩ := gc_limit HOK.out (by rw [show ((N : Int).toNat) = N from rfl, hP]; omega)
    rw [e1] at hgc
    rw [e2] at hga
    subst hgc hga
    clear e1 e2 h5 hP
    go_enter Try.func43, Try.ntmps43
    go_wp2_with fail
    refine (HBA.out _).mono ?_
    rintro e w' ⟨rfl, rfl⟩
    rw [H1.out]
    go_wp2_with fail
    refine (HIL.out _).mono ?_
    rintro e w' ⟨rfl, rfl⟩
    rw [H2.out]
    go_wp2_with fail
    refine (HID.out _).mono ?_
    rintro e w' ⟨rfl, rfl⟩
    rw [H3.out]
    go_wp2_with fail
    refine (HALL.out _).mono ?_
    rintro e w' ⟨rfl, rfl⟩
    go_wp2_with fail
    go_ret2
    exact ⟨_, rfl, (GW.made w).wo, (Below.refl _ w).alloc (Nat.le_refl _) _⟩
  have T5 : decide ((5000 : Int) < (P : Int)) = false := by simp; omega
  have hPN : (n ^ N).toNat = P := by rw [hP]; rfl
  have HGO : Hid ((grT n N d P).length ≤ 300 → gc = 0 ∧ ga = grT n N d P) := Lib.hid (fun h => by
    have := gc_ok HOK.out (by rw [show ((N : Int).toNat) = N from rfl, hP]; omega) (by rw [show ((N : Int).toNat) = N from rfl, hPN]; exact h)
    rw [show ((N : Int).toNat) = N from rfl, hPN] at this
    rw [hgc, hga]; exact this)
  have HGM : Hid (¬ (grT n N d P).length ≤ 300 → gc = 7 ∧ ga = []) := Lib.hid (fun h => by
    have := gc_many HOK.out (by rw [show ((N : Int).toNat) = N from rfl, hP]; omega) (by rw [show ((N : Int).toNat) = N from rfl, hPN]; exact h)
    rw [hgc, hga]; exact this)
  obtain ⟨B0, hB0⟩ : ∃ B0, B0 = w.heap.size := ⟨_, rfl⟩
  have HB0 := Lib.hid hB0
  have hG0 : GW (w.alloc (.cells #[] 25)) B0 (.slice (some ⟨w.heap.size, 0, none⟩) 0 0) (grT n N d 0) := by rw [hB0]; exact GW.made w
  have HG0 := Lib.hid hG0
  have hb0 : Below B0 w (w.alloc (.cells #[] 25)) := by rw [hB0]; exact (Below.refl _ w).alloc (Nat.le_refl _) _
  have HBB0 := Lib.hid hb0
  have HSZ : Hid (B0 < (w.alloc (.cells #[] 25)).heap.size) := Lib.hid (by rw [hB0]; simp)
  rw [← hB0]
  clear h5 hP hPN hgc hga hG0 hb0 hB0
  go_enter Try.func43, Try.ntmps43
  go_wp2_with fail
  refine (HBA.out _).mono ?_
  rintro e w' ⟨rfl, rfl⟩
  rw [H1.out]
  go_wp2_with fail
  refine (HIL.out _).mono ?_
  rintro e w' ⟨rfl, rfl⟩
  rw [H2.out]
  go_wp2_with fail
  refine (HID.out _).mono ?_
  rintro e w' ⟨rfl, rfl⟩
  rw [H3.out]
  go_wp2_with fail
  refine (HALL.out _).mono ?_
  rintro e w' ⟨rfl, rfl⟩
  go_wp2_with fail
  go_loopw [10, 9] (fun y s wr => ∃ k : Nat, y = .int .i64 (k : Int) ∧ k ≤ P ∧ (grT n N d k).length ≤ 300 ∧ Hid (GW wr B0 s (grT n N d k)) ∧ Hid (Below B0 w wr) ∧ Hid (B0 < wr.heap.size)) (fun y _ _ => P - (intOf y).toNat)
  case atStart => exact ⟨0, rfl, Nat.zero_le _, by simp [grT], HG0, HBB0, HSZ⟩
  case round =>
    clear HG0 HBB0 HSZ
    obtain ⟨k, rfl, hk, h300, HG, HB, HS⟩ := hrel
    obtain ⟨A, c, rfl⟩ := HG.out.form
    by_cases hlt : k < P
    · have i1 : (k : Int) < (P : Int) := by omega
      have hat := l06At_any n H1.out N hN7 (k : Int) (by omega) (by omega) wr
      have HAT := Lib.hid hat
      have HTK := Lib.hid (fun h => grT_take (b := n) (N := N) (d := d) (k := k) h)
      have HSK := Lib.hid (fun h => grT_skip (b := n) (N := N) (d := d) (k := k) h)
      have HOV := Lib.hid (fun h h3 => grT_over (b := n) (N := N) (d := d) (k := k) hlt h h3)
      obtain ⟨tk, htk⟩ : ∃ tk, tk = grT n N d k := ⟨_, rfl⟩
      obtain ⟨x, hx⟩ : ∃ x, x = waL n (k : Int) N := ⟨_, rfl⟩
      have HLT : Hid (∀ i, i < tk.length → (tk.getD i []).length = x.length) := Lib.hid (fun i hi => by rw [htk] at hi ⊢; rw [grT_at hi, hx, waL_len])
      have hxl : x.length = N := by rw [hx, waL_len]
      rw [← htk, ← hx] at HTK HSK HOV
      rw [← htk] at HG h300
      rw [← hx] at HAT
      have HTKE := Lib.hid htk
      obtain ⟨nv, hnv⟩ : ∃ nv, nv = anyN (nearG tk x d) tk.length := ⟨_, rfl⟩
      rw [← hnv] at HTK HSK HOV
      have HNV := Lib.hid hnv
      have ht0 : grT n N d k = tk := htk.symm
      rw [ht0]
      clear hat htk hx hnv ht0
      go_wp2_with fail
      refine HAT.out.mono ?_
      rintro e w2 ⟨r, rfl, hpo, hb2⟩
      obtain ⟨Ar, nr, cr, rfl⟩ := hpo.frm
      have HPO := Lib.hid hpo
      have HB2 := Lib.hid hb2
      have HGN := Lib.hid (HG.out.below hb2)
      clear hpo hb2
      go_wp2_with fail
      -- does it fit?
      go_loopw [13, 12] (fun y f wr2 => ∃ j m : Nat, y = .int .i64 (j : Int) ∧ j ≤ tk.length ∧ wr2 = w2.drewN m ∧ ((f = .bool true ∧ Hid (∀ i, i < j → nearG tk x d i = false)) ∨ (f = .bool false ∧ 0 < j ∧ Hid (nearG tk x d (j - 1) = true)))) (fun y _ _ => tk.length - (intOf y).toNat)
      case atStart => exact ⟨0, 0, rfl, Nat.zero_le _, rfl, .inl ⟨rfl, Lib.hid (fun i hi => absurd hi (by omega))⟩⟩
      case round =>
        obtain ⟨j, m, rfl, hj, rfl, hf⟩ := hrel
        by_cases hjl : j < tk.length
        · rcases hf with ⟨rfl, HF⟩ | ⟨rfl, hj0, HF⟩
          · have i2 : (j : Int) < (tk.length : Int) := by omega
            obtain ⟨A', c', us, e, hc, hu⟩ := HGN.out.open
            cases e
            obtain ⟨b, off, rfl, hlb, hcell⟩ := hc (by omega)
            have q1 : w2.cell? ⟨b, off + j, none⟩ = some (us j) := hcell j hjl
            have hea := l06Apart_any (us j) _ (tk.getD j []) x (by have := HLT.out j hjl; omega) (HLT.out j hjl) (w2.drewN m) ((hu j hjl).below (bdrewN (Below.refl _ w2) m)) (HPO.out.ns.below (bdrewN (Below.refl _ w2) m))
            have hng : nearG tk x d j = decide ((apN (tk.getD j []) x : Int) < d) := rfl
            obtain ⟨ux, hux⟩ : ∃ y, y = us j := ⟨_, rfl⟩
            obtain ⟨a, ha⟩ : ∃ a, a = apN (tk.getD j []) x := ⟨_, rfl⟩
            rw [← hux, ← ha] at hea
            rw [← hux] at q1
            rw [← ha] at hng
            have HEA := Lib.hid hea
            have HNG := Lib.hid hng
            clear hea hng hux ha hc hu hcell
            by_cases hcmp : (a : Int) < d
            · have T7 : decide (d ≤ (a : Int)) = false := by rw [decide_eq_false_iff_not]; omega
              go_wp2_with fail
              refine HEA.out.mono ?_
              rintro e w' ⟨rfl, m3, rfl⟩
              go_wp2_with fail
              exact ⟨⟨j + 1, m + m3, by go_num, by omega, by simp, .inr ⟨rfl, by omega, Lib.hid (by rw [Nat.add_sub_cancel, HNG.out]; exact decide_eq_true hcmp)⟩⟩, by simp [intOf]; omega⟩
            · have T7 : decide (d ≤ (a : Int)) = true := by rw [decide_eq_true_iff]; omega
              go_wp2_with fail
              refine HEA.out.mono ?_
              rintro e w' ⟨rfl, m3, rfl⟩
              go_wp2_with fail
              exact ⟨⟨j + 1, m + m3, by go_num, by omega, by simp, .inl ⟨rfl, Lib.hid (fun i hi => by
                by_cases e : i = j
                · subst e; rw [HNG.out]; exact decide_eq_false (by omega)
                · exact HF.out i (by omega))⟩⟩, by simp [intOf]; omega⟩
          · -- not: the loop ends
            have i2 : (j : Int) < (tk.length : Int) := by omega
            have HSK2 := Lib.hid (HSK.out (by rw [HNV.out]; exact anyN_yes (k := j - 1) (by omega) HF.out))
            have HG5 := Lib.hid (HGN.out.below (bdrewN (Below.refl _ w2) m))
            have HB5 : Hid (Below B0 w (w2.drewN m)) := Lib.hid (bdrewN (HB.out.trans (HB2.out.mono (by have := HS.out; omega))) m)
            have HS5 : Hid (B0 < (w2.drewN m).heap.size) := Lib.hid (by have := HS.out; have := HB2.out.size; show B0 < w2.heap.size; omega)
            go_wp2_with fail
            exact ⟨⟨k + 1, by go_num, by omega, by rw [HSK2.out]; exact h300, Lib.hid (by rw [HSK2.out]; exact HG5.out), HB5, HS5⟩, by simp [intOf]; omega⟩
        · obtain rfl : j = tk.length := by omega
          have T6 : decide ((tk.length : Int) < (tk.length : Int)) = false := by simp
          rcases hf with ⟨rfl, HF⟩ | ⟨rfl, hj0, HF⟩
          · have hnv : nv = false := by rw [HNV.out]; exact anyN_no HF.out
            by_cases h3 : tk.length = 300
            · have T7 : ((tk.length : Int) == 300) = true := by rw [h3]; rfl
              obtain ⟨rfl, rfl⟩ := HGM.out (HOV.out hnv h3)
              have HB5 : Hid (Below B0 w (w2.drewN m)) := Lib.hid (bdrewN (HB.out.trans (HB2.out.mono (by have := HS.out; omega))) m)
              have HWO : Hid (WO ((w2.drewN m).alloc (.cells #[] 25)) B0 ((w2.drewN m).alloc (.cells #[] 25)).heap.size (.slice (some ⟨w2.heap.size, 0, none⟩) 0 0) []) := Lib.hid ((GW.made (w2.drewN m)).lower (by have := HS.out; have := HB2.out.size; show B0 ≤ w2.heap.size; omega)).wo
              clear h3
              go_wp2_with fail
              go_ret2
              exact ⟨_, rfl, HWO.out, HB5.out.alloc (by have := HS.out; have := HB2.out.size; show B0 ≤ w2.heap.size; omega) _⟩
            · have T7 : ((tk.length : Int) == 300) = false := by rw [beq_eq_false_iff_ne]; omega
              have HTK2 := Lib.hid (HTK.out hnv)
              have HG5 := Lib.hid (HG.out)
              obtain ⟨vs0, ho0⟩ := HG.out.own
              have ho1 : ((w2.drewN m).alloc (.cells #[.slice Ar nr cr] 25)).ownsRow B0 25 1 (.slice A tk.length c) tk.length vs0 := own_below ho0 (bchain HB2.out ((bdrewN (Below.refl _ w2) m).alloc (Nat.le_refl _) _))
              have HO1 := Lib.hid ho1
              have hB5 : Below B0 w ((w2.drewN m).alloc (.cells #[.slice Ar nr cr] 25)) := (bdrewN (HB.out.trans (HB2.out.mono (by have := HS.out; omega))) m).alloc (by have := HS.out; have := HB2.out.size; show B0 ≤ w2.heap.size; omega) _
              have HB5 := Lib.hid hB5
              have hsp := own_spot ho1
              have HSP := Lib.hid hsp
              clear ho0 ho1 hB5 hsp
              go_wp2_with (at_builtin; refine wpList_append_own _ rfl _ _ 44 rfl B0 25 i0 (.slice none 0 0) 1 24 Try.underlying44 hi hz0 hz1 hz2 rfl (by decide) _ tk.length vs0 rfl HO1.out ⟨w2.heap.size, 0, none⟩ 1 1 [.slice Ar nr cr] rfl rfl ?c1 ?c2 ?c3 ?c4 ?c5 ?_)
              case c1 => exact row1_cells (w2.drewN m) _ _
              case c2 => exact fun u hu => by rw [List.mem_singleton] at hu; rw [hu]; rfl
              case c3 => unfold maxLen; omega
              case c4 => omega
              case c5 => have := HS.out; have := HB2.out.size; simp; omega
              intro s' wy hown hgrow _
              have hgw : GW wy B0 s' (tk ++ [x]) := HG.out.snoc (u := .slice Ar nr cr) (x := x) (by have := HS.out; omega) HB2.out HPO.out (w3 := (w2.drewN m).alloc (.cells #[.slice Ar nr cr] 25)) ((bdrewN (Below.refl _ w2) m).alloc (Nat.le_refl _) _) (fun vs h => by
                have ev : vs = vs0 := own_list h HO1.out
                rw [ev]; exact hown) hgrow
              have HGW := Lib.hid hgw
              have HB6 := Lib.hid (HB5.out.grown hgrow (by have := HS.out; have := HB2.out.size; simp; omega) (fun q hq => (HSP.out q hq).1))
              have HS6 : Hid (B0 < wy.heap.size) := Lib.hid (by have := HS.out; have := HB2.out.size; have := hgrow.size; simp at this; omega)
              clear hown hgrow hgw
              go_wp2_with fail
              exact ⟨⟨k + 1, by go_num, by omega, by rw [HTK2.out, List.length_append]; simp; omega, Lib.hid (by rw [HTK2.out]; exact HGW.out), HB6, HS6⟩, by simp [intOf]; omega⟩
          · have HSK2 := Lib.hid (HSK.out (by rw [HNV.out]; exact anyN_yes (k := tk.length - 1) (by omega) HF.out))
            have HG5 := Lib.hid (HGN.out.below (bdrewN (Below.refl _ w2) m))
            have HB5 : Hid (Below B0 w (w2.drewN m)) := Lib.hid (bdrewN (HB.out.trans (HB2.out.mono (by have := HS.out; omega))) m)
            have HS5 : Hid (B0 < (w2.drewN m).heap.size) := Lib.hid (by have := HS.out; have := HB2.out.size; show B0 < w2.heap.size; omega)
            go_wp2_with fail
            exact ⟨⟨k + 1, by go_num, by omega, by rw [HSK2.out]; exact h300, Lib.hid (by rw [HSK2.out]; exact HG5.out), HB5, HS5⟩, by simp [intOf]; omega⟩
    · obtain rfl : k = P := by omega
      have T6 : decide ((k : Int) < (k : Int)) = false := by simp
      obtain ⟨rfl, rfl⟩ := HGO.out h300
      go_wp2_with fail
      go_ret2
      exact ⟨_, rfl, HG.out.wo, HB.out⟩
end Go.Proofs.Ythhjhfkcgokffaa
