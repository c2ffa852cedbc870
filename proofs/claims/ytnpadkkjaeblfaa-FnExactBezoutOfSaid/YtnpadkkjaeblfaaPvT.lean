/-
  Polynomials without the zeros at their end: of the model and of the program; copies.
-/
import Derived.Test.YtnpadkkjaeblfaaPvA
namespace Go.Proofs.Ytnpadkkjaeblfaa
set_option linter.unusedVariables false
set_option linter.unusedSimpArgs false
open Go.ChangeShapes Go.WideShapes Go.ChangeAt Go.RowKit

theorem trim_keep {zs : List Int} {k : Nat} (h : zs.getD k 0 = 0) (HK : trimN zs (k + 1) = trimN zs zs.length) : trimN zs k = trimN zs zs.length := by rw [← HK, trimN_step zs k h]
theorem trim_stop {zs : List Int} {k : Nat} (h : ¬ zs.getD k 0 = 0) (HK : trimN zs (k + 1) = trimN zs zs.length) : k + 1 = trimN zs zs.length := by rw [← HK, trimN_stop zs k h]
set_option maxHeartbeats 1000000 in
theorem trimmed_any (A : Option Addr) (c : Nat) (zs : List Int) (hn : zs.length ≤ 1048576) (hcap : zs.length ≤ c) (w : World) (h : NS w (.slice A zs.length c) zs) :
    Calls Try.prog 92 #[.slice A zs.length c] w fun e w' => e = .returned (.slice A (trimN zs zs.length) (trimN zs zs.length)) ∧ w' = w := by
  have hc := h.spot.2
  clear h
  by_cases h0 : zs.length = 0
  · have e0 : zs = [] := List.length_eq_zero_iff.1 h0
    subst e0
    clear hc h0
    show Calls Try.prog 92 #[.slice A 0 c] w fun e w' => e = .returned (.slice A 0 0) ∧ w' = w
    cases A with
    | none =>
      go_enter Try.func92, Try.ntmps92
      go_wp2_with fail
      go_loop [3] (fun y => y = .int .i64 0) (fun y => 0)
      case atStart => rfl
      case round =>
        obtain rfl := hrel
        go_wp2_with fail
        go_ret
        exact ⟨rfl, rfl⟩
    | some ad =>
      go_enter Try.func92, Try.ntmps92
      go_wp2_with fail
      go_loop [3] (fun y => y = .int .i64 0) (fun y => 0)
      case atStart => rfl
      case round =>
        obtain rfl := hrel
        go_wp2_with fail
        go_ret
        exact ⟨by first | rfl | simp, rfl⟩
  obtain ⟨b, off, rfl, hlb, hcell⟩ := hc (by omega)
  have HC := Lib.hid hcell
  obtain ⟨t, ht⟩ : ∃ t, t = trimN zs zs.length := ⟨_, rfl⟩
  rw [← ht]
  have HT := Lib.hid ht
  clear hc hcell ht
  go_enter Try.func92, Try.ntmps92
  go_wp2_with fail
  go_loop [3] (fun y => ∃ m : Nat, y = .int .i64 (m : Int) ∧ m ≤ zs.length ∧ Hid (trimN zs m = trimN zs zs.length)) (fun y => (intOf y).toNat)
  case atStart => exact ⟨zs.length, rfl, Nat.le_refl _, Lib.hid rfl⟩
  case round =>
    obtain ⟨m, rfl, hm, HK⟩ := hrel
    by_cases hm0 : m = 0
    · subst hm0
      have HE : Hid (0 = t) := Lib.hid (by rw [HT.out, ← HK.out]; rfl)
      go_wp2_with fail
      go_ret
      exact ⟨by rw [← HE.out]; rfl, rfl⟩
    · obtain ⟨k, rfl⟩ : ∃ k, m = k + 1 := ⟨m - 1, by omega⟩
      have T1 : decide (0 < ((k + 1 : Nat) : Int)) = true := by simp <;> omega
      have hx : ((k + 1 : Nat) : Int) - 1 = (k : Int) := by omega
      have i1 : (k : Int) < (zs.length : Int) := by omega
      have q1 := HC.out k (by omega)
      obtain ⟨x, hxx⟩ : ∃ x, x = zs.getD k 0 := ⟨_, rfl⟩
      rw [← hxx] at q1
      by_cases hx0 : x = 0
      · have HK2 := Lib.hid (trim_keep (by rw [← hxx]; exact hx0) HK.out)
        subst hx0
        clear hxx HK
        go_wp2_with fail
        exact ⟨⟨k, by go_num, by omega, HK2⟩, by simp [intOf]⟩
      · have T2 : (x == 0) = false := by rw [beq_eq_false_iff_ne]; exact hx0
        have HE : Hid (k + 1 = t) := Lib.hid (by rw [HT.out]; exact trim_stop (by rw [← hxx]; exact hx0) HK.out)
        have i2 : ((k + 1 : Nat) : Int) ≤ (c : Int) := by omega
        clear hxx HK hx0
        go_wp2_with fail
        go_ret
        exact ⟨by rw [← HE.out]; rfl, rfl⟩
set_option maxHeartbeats 1000000 in
theorem l05Trim_any (A : Option Addr) (c : Nat) (zs : List Int) (hn : zs.length ≤ 4194304) (hca : zs.length ≤ c) (w : World) (h : NS w (.slice A zs.length c) zs) :
    Calls Try.prog 91 #[.slice A zs.length c] w fun e w' => ∃ r, e = .returned r ∧ w'.ownsRow w.heap.size 41 1 r (trimN zs zs.length) (u16s (pTrim zs)) ∧ Below w.heap.size w w' := by
  obtain ⟨i0, hi, hz0, hz1, hz2⟩ := info_parts info25
  have E0 := Lib.hid (World.ownsRow_made w (e := 41) (size := 1) (base := w.heap.size) #[] 0 (Nat.le_refl _) (Nat.zero_le _) rfl)
  by_cases hl0 : zs.length = 0
  · have e0 : zs = [] := List.length_eq_zero_iff.1 hl0
    subst e0
    clear h hl0
    show Calls Try.prog 91 #[.slice A 0 c] w fun e w' => ∃ r, e = .returned r ∧ w'.ownsRow w.heap.size 41 1 r 0 (u16s (pTrim [])) ∧ Below w.heap.size w w'
    cases A with
    | none =>
      go_enter Try.func91, Try.ntmps91
      go_wp2_with fail
      go_loop [3] (fun y => y = .int .i64 0) (fun y => 0)
      case atStart => rfl
      case round =>
        obtain rfl := hrel
        go_wp2_with fail
        go_ret
        exact ⟨_, rfl, by simpa [u16s, pTrim, trimN] using E0.out, (Below.refl _ _).alloc (Nat.le_refl _) _⟩
    | some ad =>
      go_enter Try.func91, Try.ntmps91
      go_wp2_with fail
      go_loop [3] (fun y => y = .int .i64 0) (fun y => 0)
      case atStart => rfl
      case round =>
        obtain rfl := hrel
        go_wp2_with fail
        go_ret
        exact ⟨_, rfl, by simpa [u16s, pTrim, trimN] using E0.out, (Below.refl _ _).alloc (Nat.le_refl _) _⟩
  have HS := Lib.hid (h.below ((Below.refl _ w).alloc (Nat.le_refl _) (.cells #[] 41)))
  obtain ⟨b, off, rfl, hlb, hcell⟩ := h.spot.2 (by omega)
  obtain ⟨t, ht⟩ : ∃ t, t = trimN zs zs.length := ⟨_, rfl⟩
  have htl : t ≤ zs.length := by rw [ht]; exact trimN_le _ _
  obtain ⟨ts, hts⟩ : ∃ ts, ts = pTrim zs := ⟨_, rfl⟩
  have hpt : ts = zs.take t := by rw [hts, ht]; rfl
  have hpl : ts.length = t := by rw [hts, ht]; exact pTrim_len zs
  rw [← hts, ← ht]
  have HT := Lib.hid ht
  have HPT := Lib.hid hpt
  have HPL := Lib.hid hpl
  have HT0 : Hid (t = 0 → ts = []) := Lib.hid (fun e => List.length_eq_zero_iff.1 (by rw [hpl, e]))
  have HCL := Lib.hid hcell
  clear h hcell ht hpt hpl hts
  go_enter Try.func91, Try.ntmps91
  go_wp2_with fail
  go_loop [3] (fun y => ∃ m : Nat, y = .int .i64 (m : Int) ∧ m ≤ zs.length ∧ Hid (trimN zs m = trimN zs zs.length)) (fun y => (intOf y).toNat)
  case atStart => exact ⟨zs.length, rfl, Nat.le_refl _, Lib.hid rfl⟩
  case round =>
    obtain ⟨m, rfl, hm, HK⟩ := hrel
    have i2 : (m : Int) ≤ (c : Int) := by omega
    have i3 : m ≤ c := by omega
    by_cases hm0 : m = 0
    · subst hm0
      have HE : Hid (0 = t) := Lib.hid (by rw [HT.out, ← HK.out]; rfl)
      go_wp2_with fail
      go_ret
      exact ⟨_, rfl, by rw [← HE.out, HT0.out HE.out.symm]; simpa [u16s] using E0.out, (Below.refl _ _).alloc (Nat.le_refl _) _⟩
    · obtain ⟨k, rfl⟩ : ∃ k, m = k + 1 := ⟨m - 1, by omega⟩
      have T1 : decide (0 < ((k + 1 : Nat) : Int)) = true := by simp <;> omega
      have hx : ((k + 1 : Nat) : Int) - 1 = (k : Int) := by omega
      have i1 : (k : Int) < (zs.length : Int) := by omega
      have q1 := HCL.out k (by omega)
      obtain ⟨x, hxx⟩ : ∃ x, x = zs.getD k 0 := ⟨_, rfl⟩
      rw [← hxx] at q1
      by_cases hx0 : x = 0
      · have HK2 := Lib.hid (trim_keep (by rw [← hxx]; exact hx0) HK.out)
        subst hx0
        clear hxx HK
        go_wp2_with fail
        exact ⟨⟨k, by go_num, by omega, HK2⟩, by simp [intOf]⟩
      · have T2 : (x == 0) = false := by rw [beq_eq_false_iff_ne]; exact hx0
        have HE : Hid (k + 1 = t) := Lib.hid (by rw [HT.out]; exact trim_stop (by rw [← hxx]; exact hx0) HK.out)
        have hns := (HS.out.cut (k + 1) (by omega) c)
        rw [HE.out, ← HPT.out, ← HE.out] at hns
        have HNS := Lib.hid hns
        clear hxx HK hx0 hns
        go_wp2_with (at_builtin; refine wpList_append_ns rfl _ _ 25 24 rfl w.heap.size 41 i0 (.int .u16 0) Try.underlying25 Try.underlying24 hi hz0 hz1 hz2 rfl _ 0 _ rfl E0.out _ ts rfl HNS.out (by rw [HPL.out]; omega) (by simp) ?_)
        intro s' wy hown hgrow _
        go_wp2_with fail
        go_ret
        refine ⟨_, rfl, by rw [HPL.out] at hown; simpa using hown, ((Below.refl _ w).alloc (Nat.le_refl _) _).grown hgrow (by simp) (by intro k hk; simp [Value.ownBlock] at hk; omega)⟩
theorem inU_of {w : World} {v : Value} {zs : List Int} (h : NS w v zs) : inU zs := h.all
set_option maxHeartbeats 1000000 in
theorem clone_any (A : Option Addr) (c : Nat) (zs : List Int) (hn : zs.length ≤ 4194304) (w : World) (h : NS w (.slice A zs.length c) zs) :
    Calls Try.prog 93 #[.slice A zs.length c] w fun e w' => ∃ r, e = .returned r ∧ w'.ownsRow w.heap.size 41 1 r zs.length (u16s zs) ∧ Below w.heap.size w w' := by
  obtain ⟨i0, hi, hz0, hz1, hz2⟩ := info_parts info25
  have E0 := Lib.hid (World.ownsRow_made w (e := 41) (size := 1) (base := w.heap.size) #[] 0 (Nat.le_refl _) (Nat.zero_le _) rfl)
  have HS := Lib.hid (h.below ((Below.refl _ w).alloc (Nat.le_refl _) (.cells #[] 41)))
  have q : ∀ (w : World) (a : Option Addr) (n c n' c' : Nat), (binOp .eql 25 (.slice a n c) (.slice none n' c')).run Try.prog w = .ok (.bool a.isNone) w := fun w a n c n' c' => Lib.run_eql_slice_nil w _ _ a n c n' c' Try.underlying25
  cases A with
  | none =>
    have hl0 : zs.length = 0 := by
      rcases Nat.eq_zero_or_pos zs.length with e | e
      · exact e
      · obtain ⟨b, off, e2, _⟩ := h.spot.2 e
        cases e2
    have e0 : zs = [] := List.length_eq_zero_iff.1 hl0
    subst e0
    clear h hl0 HS
    show Calls Try.prog _ #[.slice none 0 c] w fun e w' => ∃ r, e = .returned r ∧ w'.ownsRow w.heap.size 41 1 r 0 (u16s []) ∧ Below w.heap.size w w'
    go_enter Try.func93, Try.ntmps93
    go_wp2_with fail
    go_ret
    exact ⟨_, rfl, by simpa [u16s] using World.ownsRow_nil w w.heap.size 41 1, Below.refl _ _⟩
  | some ad =>
    clear h
    go_enter Try.func93, Try.ntmps93
    go_wp2_with (at_builtin; refine wpList_append_ns rfl _ _ 25 25 rfl w.heap.size 41 i0 (.int .u16 0) Try.underlying25 Try.underlying25 hi hz0 hz1 hz2 rfl _ 0 _ rfl E0.out _ zs rfl HS.out (by omega) (by simp) ?_)
    intro s' wy hown hgrow _
    go_wp2_with fail
    go_ret
    refine ⟨_, rfl, by simpa using hown, ((Below.refl _ w).alloc (Nat.le_refl _) _).grown hgrow (by simp) (by intro k hk; simp [Value.ownBlock] at hk; omega)⟩
theorem trimA_yes {zs : List Int} (h : trimN zs zs.length ≤ 21) : trimA zs = pTrim zs ∧ trimC zs = 0 := by
  unfold trimA trimC; rw [pTrim_len, if_pos h, if_pos h]; exact ⟨rfl, rfl⟩
theorem trimA_no {zs : List Int} (h : ¬ trimN zs zs.length ≤ 21) : trimA zs = [] ∧ trimC zs = 3 := by
  unfold trimA trimC; rw [pTrim_len, if_neg h, if_neg h]; exact ⟨rfl, rfl⟩
set_option maxHeartbeats 1000000 in
theorem spec_TrimPoly (v : Value) (zs : List Int) (hn : zs.length ≤ 1048576) (w : World) (h : NC w v zs) :
    Calls Try.prog 33 #[v] w fun e w' => ∃ r, e = .returned (.tuple #[r, .int .i64 (trimC zs)]) ∧ PO w' w.heap.size r (trimA zs) ∧ Below w.heap.size w w' := by
  have ha := h.inU
  have HN := Lib.hid h.ns
  obtain ⟨A, c, rfl, hca⟩ := h.form
  clear h
  go_enter Try.func33, Try.ntmps33
  go_wp2_with fail
  refine (l05Trim_any A c zs (by omega) hca _ HN.out).mono ?_
  rintro e w1 ⟨r, rfl, ho, hb⟩
  have hp := PO.of_own ho (pTrim_len zs) (pTrim_in ha)
  obtain ⟨A1, c1, rfl, _, _⟩ := own_form ho
  have HP := Lib.hid hp
  have HB := Lib.hid hb
  clear ho hp hb
  by_cases hle : trimN zs zs.length ≤ 21
  · obtain ⟨t, ht⟩ : ∃ t, t = trimN zs zs.length := ⟨_, rfl⟩
    have E := Lib.hid (trimA_yes hle)
    rw [← ht] at hle HP ⊢
    have T1 : decide ((21 : Int) < (t : Int)) = false := by simp; omega
    clear ht
    go_wp2_with fail
    go_ret2
    exact ⟨_, by rw [E.out.2]; rfl, by rw [E.out.1]; exact HP.out, HB.out⟩
  · obtain ⟨t, ht⟩ : ∃ t, t = trimN zs zs.length := ⟨_, rfl⟩
    have E := Lib.hid (trimA_no hle)
    have htb : t ≤ zs.length := by rw [ht]; exact trimN_le _ _
    rw [← ht] at hle ⊢
    have T1 : decide ((21 : Int) < (t : Int)) = true := by simp; omega
    clear ht HP
    go_wp2_with fail
    go_ret2
    refine ⟨_, by rw [E.out.2]; rfl, by rw [E.out.1]; exact PO.nil _ _ _ _ (by first | exact Nat.zero_le _ | simp) (fun e => by first | rfl | cases e), HB.out.alloc HB.out.size _⟩
set_option maxHeartbeats 1000000 in
theorem impl_TrimPoly (v : Value) (zs : List Int) (hn : zs.length ≤ 1048576) (w : World) (h : NC w v zs) :
    Calls Try.prog 35 #[v] w fun e w' => ∃ r, e = .returned (.tuple #[r, .int .i64 (trimC zs)]) ∧ PO w' w.heap.size r (trimA zs) ∧ Below w.heap.size w w' := by
  have ha := h.inU
  have HN := Lib.hid h.ns
  obtain ⟨A, c, rfl, hca⟩ := h.form
  clear h
  go_enter Try.func35, Try.ntmps35
  go_wp2_with fail
  refine (trimmed_any A c zs hn hca _ HN.out).mono ?_
  rintro e w1 ⟨rfl, rfl⟩
  have hcut := HN.out.cut (trimN zs zs.length) (trimN_le _ _) (trimN zs zs.length)
  by_cases hle : trimN zs zs.length ≤ 21
  · have E := Lib.hid (trimA_yes hle)
    have hlen : (zs.take (trimN zs zs.length)).length = trimN zs zs.length := pTrim_len zs
    obtain ⟨t, ht⟩ : ∃ t, t = trimN zs zs.length := ⟨_, rfl⟩
    have hpt : pTrim zs = zs.take t := by rw [ht]; rfl
    rw [← ht] at hle hlen hcut ⊢
    have T1 : decide ((20 : Int) < (t : Int) - 1) = false := by simp; omega
    have HCUT := Lib.hid hcut
    have HPT := Lib.hid hpt
    have HL := Lib.hid hlen
    have HA := Lib.hid ha
    clear ht hcut hpt hlen
    go_wp2_with fail
    refine (degree_any A t t (by omega) _).mono ?_
    rintro e w1 ⟨rfl, rfl⟩
    go_wp2_with fail
    have hcl := clone_any A t (zs.take t) (by rw [HL.out]; omega) w1 (by rw [HL.out]; exact HCUT.out)
    rw [HL.out] at hcl
    refine hcl.mono ?_
    rintro e w2 ⟨r, rfl, ho, hb⟩
    have HP := Lib.hid (PO.of_own ho HL.out (HA.out.take t))
    have HB := Lib.hid hb
    clear ho hb hcl
    go_wp2_with fail
    go_ret2
    exact ⟨_, by rw [E.out.2]; rfl, by rw [E.out.1, HPT.out]; exact HP.out, HB.out⟩
  · have E := Lib.hid (trimA_no hle)
    obtain ⟨t, ht⟩ : ∃ t, t = trimN zs zs.length := ⟨_, rfl⟩
    have htb : t ≤ zs.length := by rw [ht]; exact trimN_le _ _
    rw [← ht] at hle ⊢
    have T1 : decide ((20 : Int) < (t : Int) - 1) = true := by simp; omega
    clear ht hcut
    go_wp2_with fail
    refine (degree_any A t t (by omega) _).mono ?_
    rintro e w1 ⟨rfl, rfl⟩
    go_wp2_with fail
    go_ret2
    exact ⟨_, by rw [E.out.2]; rfl, by rw [E.out.1]; exact PO.nil0 _ _, Below.refl _ _⟩
end Go.Proofs.Ytnpadkkjaeblfaa
