/-
  Spanned codes of the program; SpannedBy.
-/
import Derived.Test.YthhjhfkcgokffaaYx
import Derived.Deep.Cut
namespace Go.Proofs.Ythhjhfkcgokffaa
set_option linter.unusedVariables false
set_option linter.unusedSimpArgs false
open Go.ChangeShapes Go.WideShapes Go.ChangeAt Go.RowKit Go.Shelf

/-- a span sorted by the program -/
theorem sortSpan_any (B : Nat) (v : Value) (sp : List (List Int)) (hp : 0 < sp.length) (hn : sp.length ≤ 300) (hm : ∀ i, i < sp.length → (sp.getD i []).length ≤ 1048576) (hm0 : ∀ i, i < sp.length → 0 < (sp.getD i []).length) (w : World) (h : GW w B v sp) :
    Calls Try.prog 161 #[v, .func (.func 142) #[] #[]] w fun e w' => e = .returned (.tuple #[]) ∧ GW w' B v (stS sp) ∧ Below B w w' := by
  obtain ⟨us, vs, ho, hv, hr⟩ := id h
  obtain ⟨A, c, rfl, _, hA⟩ := own_form ho
  obtain ⟨g, rfl, hgB, hgl⟩ := hA hp
  have hty := own_tyw ho g rfl
  have hs := sortWords_any w B g sp.length c vs sp (by omega) rfl ho (fun i hi => ⟨us i, hv i hi, (hr.1 i hi).1.frm, nx_of (hr.1 i hi).1.ns (fun A n c b off e hA hn eb => by
    obtain ⟨cur, hcur⟩ := po_ty (hr.1 i hi).1 hn b (by rw [e, hA]; rfl)
    obtain ⟨cur2, h2⟩ := hty
    rw [eb, h2] at hcur
    exact absurd hcur (by intro e; injection e with e; injection e with e1 e2; exact word_ne e2)), hm i hi⟩)
  refine hs.mono ?_
  rintro e w' ⟨rfl, ps, hp1, hp2, hp3, hp4⟩
  have h5 := GW.perm (gs := sp) (us := us) (vs := vs) rfl ho hv hr hp1 hp3 (GBx.of hp4)
  have hvl : vs.length = sp.length := by have := ho.1; omega
  have h6 : ps.map (·.2) = stS sp := stS_one (by
    have h7 := hp1.map (·.2)
    rw [List.map_snd_zip (by omega)] at h7
    exact h7) hp2
  rw [h6] at h5
  refine ⟨rfl, ?_, (Below.refl _ w).mono (by omega) |>.grown hp4 (by omega) (fun q hq => by have := Option.some.inj hq; omega)⟩
  have hl2 := stS_len sp
  exact h5
set_option maxHeartbeats 4000000 in
theorem spannedWords_any (N : Nat) (hba : baB (N : Int) = true) (gs : List (List Int)) (h0 : lsC (N : Int) gs [] = 0) (A : Option Addr) (c : Nat) (us : Nat → Value) (w : World) (hc : 0 < gs.length → ∃ b off, A = some ⟨b, off, none⟩ ∧ b < w.heap.size ∧ ∀ i, i < gs.length → w.cell? ⟨b, off + i, none⟩ = some (us i)) (hu : ∀ i, i < gs.length → NS w (us i) (gs.getD i [])) :
    Calls Try.prog 209 #[.slice A gs.length c, .int .i64 (N : Int)] w fun e w' => ∃ r, e = .returned (.tuple #[r, .int .i64 (spC (N : Int) gs)]) ∧ WO w' w.heap.size w'.heap.size r (spA (N : Int) gs) ∧ Below w.heap.size w w' := by
  obtain ⟨_, hws, h300⟩ := lsC_ok h0
  rw [List.append_nil] at hws
  by_cases hg0 : gs.length = 0
  · have e1 : spC (N : Int) gs = 0 := by unfold spC; rw [if_pos h0, if_pos hg0]
    have e2 : spA (N : Int) gs = [] := by unfold spA; rw [if_pos h0, if_pos hg0]
    have T1 : ((gs.length : Int) == 0) = true := by rw [hg0]; rfl
    rw [e1, e2]
    clear h0 hg0 e1 e2 hws hc hu
    go_enter Try.func209, Try.ntmps209
    go_wp2_with fail
    go_ret2
    exact ⟨_, rfl, WO.nil0 _ _ _, Below.refl _ w⟩
  have T0 : ((gs.length : Int) == 0) = false := by rw [beq_eq_false_iff_ne]; omega
  obtain ⟨l, hl⟩ : ∃ l, l = (gs.getD 0 []).length := ⟨_, rfl⟩
  have hl7 : 1 ≤ l ∧ l ≤ 7 := by rw [hl]; exact wdB_len (wsB_at hws 0 (by omega)).1
  have hgl : ∀ i, i < gs.length → (gs.getD i []).length = l := fun i hi => by rw [hl]; exact (wsB_at hws i hi).2
  have hgb : ∀ i, i < gs.length → BWd (N : Int) l (gs.getD i []) := fun i hi => by
    have := BWd.of_valid (wsB_at hws i hi).1 (inU_of (hu i hi))
    rw [hgl i hi] at this
    exact this
  have hso := spanOf_any N hba gs (by omega) (by omega) l hl7 hgl hgb A c us w hc hu
  have hst := fun sp h => spT_ok (n := N) hba (gs := gs) (l := l) hl.symm hgb gs.length sp (Nat.le_refl _) h
  cases hsp : spT N gs gs.length with
  | none =>
    rw [hsp] at hso
    have e1 : spC (N : Int) gs = 7 := by
      unfold spC; rw [if_pos h0, if_neg hg0]
      show (match spT N gs gs.length with | none => _ | some _ => _) = _
      rw [hsp]
    have e2 : spA (N : Int) gs = [] := by
      unfold spA; rw [if_pos h0, if_neg hg0]
      show (match spT N gs gs.length with | none => _ | some sp => _) = _
      rw [hsp]
    rw [e1, e2]
    have HSO := Lib.hid hso
    clear hso hst hsp e1 e2 h0 hg0 hws hc hu hgl hgb hl
    go_enter Try.func209, Try.ntmps209
    go_wp2_with fail
    refine HSO.out.mono ?_
    rintro e w2 ⟨r1, r2, rfl, hb2, rfl, rfl⟩
    have HB2 := Lib.hid hb2
    clear hb2
    go_wp2_with fail
    refine (sortNone_any none 0 _ _).mono ?_
    rintro e w3 ⟨rfl, rfl⟩
    go_wp2_with fail
    go_ret2
    exact ⟨_, rfl, WO.nil0 _ _ _, HB2.out⟩
  | some sp =>
    rw [hsp] at hso
    obtain ⟨k1, k2, k3⟩ := hst sp hsp
    have e1 : spC (N : Int) gs = 0 := by
      unfold spC; rw [if_pos h0, if_neg hg0]
      show (match spT N gs gs.length with | none => _ | some _ => _) = _
      rw [hsp]
    have e2 : spA (N : Int) gs = stS sp := by
      unfold spA; rw [if_pos h0, if_neg hg0]
      show (match spT N gs gs.length with | none => _ | some sp => _) = _
      rw [hsp]
    rw [e1, e2]
    have hsl : ∀ j, j < sp.length → (sp.getD j []).length = l := fun j hj => by
      have e : sp.getD j [] = sp[j] := by simp [List.getD, hj]
      rw [e]; exact (k3 _ (List.getElem_mem hj)).1
    have HSO := Lib.hid hso
    have HSL := Lib.hid hsl
    obtain ⟨an, han⟩ : ∃ an, an = stS sp := ⟨_, rfl⟩
    rw [← han]
    have HAN := Lib.hid han
    clear hso hst hsp e1 e2 h0 hg0 hws hc hu hgl hgb hl hsl k3 han
    go_enter Try.func209, Try.ntmps209
    go_wp2_with fail
    refine HSO.out.mono ?_
    rintro e w2 ⟨r1, r2, rfl, hb2, hgw, vb, hob, _⟩
    obtain ⟨A2, c2, rfl⟩ := hgw.form
    obtain ⟨A1, c1, e1, _⟩ := own_form hob
    have HSS := Lib.hid (sortSpan_any w.heap.size _ sp k1 k2 (fun i hi => by rw [HSL.out i hi]; omega) (fun i hi => by rw [HSL.out i hi]; omega) w2 hgw)
    have HB2 := Lib.hid hb2
    clear hb2 hgw hob
    subst e1
    go_wp2_with fail
    refine HSS.out.mono ?_
    rintro e w3 ⟨rfl, hg3, hb3⟩
    rw [← HAN.out] at hg3
    have HG3 := Lib.hid hg3.wo
    have HB3 := Lib.hid (HB2.out.trans hb3)
    clear hg3 hb3
    go_wp2_with fail
    go_ret2
    exact ⟨_, rfl, HG3.out, HB3.out⟩
set_option maxHeartbeats 4000000 in
theorem openCodeS_any (n : Int) (A : Option Addr) (m c : Nat) (gs : List (List Int)) (hn : gs.length ≤ 1048576) (hm : ∀ i, i < gs.length → (gs.getD i []).length ≤ 1048576) (hb : -9223372036854775808 ≤ n ∧ n ≤ 9223372036854775807) (w : World) (h : WS w (.slice A m c) gs) :
    Calls Try.prog 137 #[.int .i64 n, .iface 99 (.slice A m c)] w fun e w' => e = .returned (.tuple #[.int .i64 (lsB n gs []), .int .i64 (lsC n gs [])]) ∧ Below w.heap.size w w' := by
  have hta : ∀ w, Sem.run Try.prog (Instr.typeAssert (Value.iface 99 (.slice A m c)) 134 91 true) w = .ok (.tuple #[.agg #[.int .i64 0, .int .i64 0], .bool false]) w := fun _ => by kernel_rfl
  have htb : ∀ w, Sem.run Try.prog (Instr.typeAssert (Value.iface 99 (.slice A m c)) 134 99 true) w = .ok (.tuple #[.slice A m c, .bool true]) w := fun _ => by kernel_rfl
  have hol := openList_any n _ _ gs [] hn (by simp) (by simpa using hm) hb w h (WS.nil w none 0)
  obtain ⟨cb, hcb⟩ : ∃ cb, cb = lsB n gs [] := ⟨_, rfl⟩
  obtain ⟨cd, hcd⟩ : ∃ cd, cd = lsC n gs [] := ⟨_, rfl⟩
  rw [← hcb, ← hcd] at hol ⊢
  have HOL := Lib.hid hol
  clear hol hcb hcd h hm
  go_enter Try.func137, Try.ntmps137
  go_wp2_with fail
  refine HOL.out.mono ?_
  rintro e w2 ⟨rfl, hb2⟩
  have HB2 := Lib.hid hb2
  clear hb2
  go_wp2_with fail
  go_ret2
  exact ⟨rfl, HB2.out⟩
set_option maxHeartbeats 4000000 in
theorem wordsOfS_any (n : Int) (v : Value) (gs : List (List Int)) (hb : -9223372036854775808 ≤ n ∧ n ≤ 9223372036854775807) (hn : gs.length ≤ 1048576) (hm : ∀ i, i < gs.length → (gs.getD i []).length ≤ 1048576) (w : World) (h : WS w v gs) :
    Calls Try.prog 95 #[.int .i64 n, .iface 99 v] w fun e w' => ∃ r, e = .returned (.tuple #[r, .int .i64 (spC n gs)]) ∧ WO w' w.heap.size w'.heap.size r (spA n gs) ∧ Below w.heap.size w w' := by
  have hmd : ∀ (x : Value) w, (method 318 99 x "loop.example/g01307/impl.words").run Try.prog w = .ok (209, x) w := fun _ _ => by kernel_rfl
  obtain ⟨A, c, us, rfl, hc, hu⟩ := h.open
  have HOC := Lib.hid (openCodeS_any n A gs.length c gs hn hm hb w h)
  by_cases h0 : lsC n gs [] = 0
  case neg =>
    have e1 : spC n gs = lsC n gs [] := by unfold spC; rw [if_neg h0]
    have e2 : spA n gs = [] := by unfold spA; rw [if_neg h0]
    rw [e1, e2]
    obtain ⟨cb, hcb⟩ : ∃ cb, cb = lsB n gs [] := ⟨_, rfl⟩
    obtain ⟨cd, hcd⟩ : ∃ cd, cd = lsC n gs [] := ⟨_, rfl⟩
    rw [← hcb, ← hcd] at HOC
    rw [← hcd] at h0 ⊢
    have T1 : (cd != 0) = true := by rw [bne_iff_ne]; exact h0
    clear hcb hcd h0 e1 e2 hm h hc hu
    go_enter Try.func95, Try.ntmps95
    go_wp2_with fail
    refine HOC.out.mono ?_
    rintro e w2 ⟨rfl, hb2⟩
    have HB2 := Lib.hid hb2
    clear hb2
    go_wp2_with fail
    go_ret2
    exact ⟨_, rfl, WO.nil0 _ _ _, HB2.out⟩
  obtain ⟨hba, _, _⟩ := lsC_ok h0
  have hlb : lsB n gs [] = n := by unfold lsB; rw [if_pos h0]
  rw [h0, hlb] at HOC
  obtain ⟨N, hN⟩ : ∃ N : Nat, n = (N : Int) := by
    rcases baB_cases hba with e | e | e | e
    · exact ⟨2, e⟩
    · exact ⟨4, e⟩
    · exact ⟨16, e⟩
    · exact ⟨256, e⟩
  subst hN
  have HSW := Lib.hid (fun (W : World) (hW : Below w.heap.size w W) => spannedWords_any N hba gs h0 A c us W (fun h1 => by
    obtain ⟨b, off, e, hlt, hcell⟩ := hc h1
    exact ⟨b, off, e, Nat.lt_of_lt_of_le hlt hW.size, fun i hi => (hW.cell (p := ⟨b, off + i, none⟩) hlt).trans (hcell i hi)⟩) (fun i hi => (hu i hi).below hW))
  obtain ⟨rc, hrc⟩ : ∃ rc, rc = spC (N : Int) gs := ⟨_, rfl⟩
  obtain ⟨ra, hra⟩ : ∃ ra, ra = spA (N : Int) gs := ⟨_, rfl⟩
  rw [← hrc, ← hra] at HSW ⊢
  clear hrc hra hba h0 hlb hm h hc hu
  go_enter Try.func95, Try.ntmps95
  go_wp2_with fail
  refine HOC.out.mono ?_
  rintro e w2 ⟨rfl, hb2⟩
  have HB2 := Lib.hid hb2
  clear hb2
  go_wp2_with fail
  refine (HSW.out w2 HB2.out).mono ?_
  rintro e w3 ⟨r, rfl, hwo, hb3⟩
  obtain ⟨Ar, cr, us9, er, hrest⟩ := id hwo
  have HWO := Lib.hid (hwo.lower HB2.out.size)
  have HB3 := Lib.hid (bchain HB2.out hb3)
  clear hb3 hwo hrest
  subst er
  go_wp2_with fail
  go_ret2
  exact ⟨_, rfl, HWO.out, HB3.out⟩
set_option maxHeartbeats 1000000 in
theorem impl_SpannedBy (n : Int) (v : Value) (gs : List (List Int)) (hb : -9223372036854775808 ≤ n ∧ n ≤ 9223372036854775807) (hn : gs.length ≤ 1048576) (hm : ∀ i, i < gs.length → (gs.getD i []).length ≤ 1048576) (w : World) (h : WC w v gs) :
    Calls Try.prog 53 #[.int .i64 n, v] w fun e w' => ∃ r, e = .returned (.tuple #[r, .int .i64 (spC n gs)]) ∧ WO w' w.heap.size w'.heap.size r (spA n gs) ∧ Below w.heap.size w w' := by
  have HWF := Lib.hid (wordsOfS_any n v gs hb hn hm w h.ws)
  obtain ⟨A, c, rfl, _⟩ := h
  obtain ⟨rc, hrc⟩ : ∃ rc, rc = spC n gs := ⟨_, rfl⟩
  obtain ⟨ra, hra⟩ : ∃ ra, ra = spA n gs := ⟨_, rfl⟩
  rw [← hrc, ← hra] at HWF ⊢
  clear hrc hra hm
  go_enter Try.func53, Try.ntmps53
  go_wp2_with fail
  refine HWF.out.mono ?_
  rintro e w3 ⟨r, rfl, hwo, hb3⟩
  obtain ⟨Ar, cr, us9, er, hrest⟩ := id hwo
  have HWO := Lib.hid hwo
  have HB3 := Lib.hid hb3
  clear hb3 hwo hrest
  subst er
  go_wp2_with fail
  go_ret2
  exact ⟨_, rfl, HWO.out, HB3.out⟩
theorem grP_lens {l : Nat} {sp : List (List Int)} {x : List Int} (hs : ∀ y ∈ sp, y.length = l) : ∀ a, ∀ y ∈ grP sp x a, y.length = l
  | 0, y, h => by cases h
  | a + 1, y, h => by
    rw [grP, List.mem_append] at h
    rcases h with h | h
    · exact grP_lens hs a y h
    · obtain ⟨z, hz, rfl⟩ := List.mem_map.1 h
      unfold wplus; rw [tab_len]; exact hs z hz
theorem spT_small {n : Nat} {gs : List (List Int)} : ∀ k sp, spT n gs k = some sp → sp.length ≤ 300 ∧ ∀ y ∈ sp, y.length = (gs.getD 0 []).length
  | 0, sp, h => by
    have e : [tab (gs.getD 0 []).length fun _ => (0 : Int)] = sp := Option.some.inj h
    subst e
    refine ⟨by simp, fun y hy => ?_⟩
    rw [List.mem_singleton] at hy
    rw [hy, tab_len]
  | k + 1, sp, h => by
    rw [spT] at h
    cases h0 : spT n gs k with
    | none => rw [h0] at h; cases h
    | some sp0 =>
      rw [h0] at h
      have ih := spT_small k sp0 h0
      have h : (if memB sp0 (gs.getD k []) = true then some sp0 else if 300 < sp0.length * n then none else some (grP sp0 (gs.getD k []) n)) = some sp := h
      split at h
      · rw [← Option.some.inj h]; exact ih
      · split at h
        · cases h
        · rename_i h3
          rw [← Option.some.inj h, grP_len]
          exact ⟨by omega, grP_lens ih.2 n⟩
theorem spA_all (n : Int) (gs : List (List Int)) : (spA n gs).length ≤ 300 ∧ ∀ i, i < (spA n gs).length → ((spA n gs).getD i []).length ≤ 7 := by
  unfold spA
  split
  · rename_i h0
    split
    · exact ⟨Nat.zero_le _, fun i hi => absurd hi (by simp)⟩
    · rename_i hg0
      obtain ⟨_, hws, _⟩ := lsC_ok h0
      rw [List.append_nil] at hws
      have h7 := (wdB_len (wsB_at hws 0 (by omega)).1).2
      cases hsp : spT n.toNat gs gs.length with
      | none => exact ⟨Nat.zero_le _, fun i hi => absurd hi (by simp)⟩
      | some sp =>
        have h := spT_small gs.length sp hsp
        show (stS sp).length ≤ 300 ∧ ∀ i, i < (stS sp).length → ((stS sp).getD i []).length ≤ 7
        rw [stS_len]
        refine ⟨h.1, fun i hi => ?_⟩
        have hm : (stS sp).getD i [] ∈ sp := mem_getD (d := []) (List.mergeSort_perm _ _) (by rw [show (sp.mergeSort fun a b => decide (¬ cmpL b a < 0)).length = (stS sp).length from rfl, stS_len]; exact hi)
        rw [h.2 _ hm]; exact h7
  · exact ⟨Nat.zero_le _, fun i hi => absurd hi (by simp)⟩
theorem spA_total (n : Int) (gs : List (List Int)) : total (spA n gs) ≤ 1048576 := by
  have h := spA_all n gs
  have := total_small h.2
  omega
end Go.Proofs.Ythhjhfkcgokffaa
