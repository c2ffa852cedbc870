/-
  What turned lies between two block numbers; the answers of circuits marked, and looked at again.
-/
import Derived.Test.YtedcfmdgcafnmaaDoorCd
import Derived.OwnWalk
namespace Go.Proofs.YtedcfmdgcafnmaaDoor
set_option linter.unusedVariables false
set_option linter.unusedSimpArgs false
open Go.ChangeShapes Go.WideShapes Go.ChangeAt Go.RowKit

/-- what turned of w's blocks lies from lo on, below hi -/
def Mid (lo hi : Nat) (w w' : World) : Prop := Below lo w w' ∧ ∀ k, hi ≤ k → k < w.heap.size → w'.heap[k]? = w.heap[k]?
theorem Mid.heap {lo hi : Nat} {w w' : World} (h : Mid lo hi w w') (k : Nat) (hk : k < w.heap.size) (hr : k < lo ∨ hi ≤ k) : w'.heap[k]? = w.heap[k]? := by
  rcases hr with hr | hr
  · exact h.1.block k hr
  · exact h.2 k hr hk
theorem Mid.of_below {lo hi : Nat} {w w' : World} (h : Below w.heap.size w w') (hl : lo ≤ w.heap.size) : Mid lo hi w w' := ⟨h.mono hl, fun k _ hk => h.block k hk⟩
theorem Mid.trans {lo hi : Nat} {a b c : World} (h : Mid lo hi a b) (h' : Mid lo hi b c) : Mid lo hi a c :=
  ⟨h.1.trans h'.1, fun k hk hs => (h'.2 k hk (Nat.lt_of_lt_of_le hs h.1.size)).trans (h.2 k hk hs)⟩
theorem Mid.refl (lo hi : Nat) (w : World) : Mid lo hi w w := ⟨Below.refl _ _, fun _ _ _ => rfl⟩
theorem Mid.of_grown {lo hi : Nat} {w w' : World} {r : Option Nat} (h : w.grownBy w' r) (hr : ∀ k, r = some k → lo ≤ k ∧ k < hi) (hl : lo ≤ w.heap.size) : Mid lo hi w w' :=
  ⟨(Below.refl _ w).grown h hl (fun k hk => (hr k hk).1), fun k hk hs => h.block k hs (fun e => by have := (hr k e.symm).2; omega)⟩
theorem own_mid {l h lo s n : Nat} {w w' : World} {e : TypeId} {v : Value} {cs : List Value} (ho : w.ownsRow lo e s v n cs) (hm : Mid l h w w') (hd : ∀ k, v.ownBlock = some k → k < l ∨ h ≤ k) : w'.ownsRow lo e s v n cs := by
  have hb := own_block ho
  refine ⟨ho.1, ?_⟩
  rcases ho.2 with q | ⟨g, cap, cur, q1, q2, q3, q4⟩
  · exact .inl q
  · have e1 : v.ownBlock = some g := by rw [q1]; rfl
    exact .inr ⟨g, cap, cur, q1, q2, (hm.heap g (hb g e1).2 (hd g e1)).trans q3, q4⟩
theorem CO.mid {l h lo hi : Nat} {w w' : World} {v : Value} {n : Int} {gs : List G3} {os : List Int} (ho : CO lo hi w v n gs os) (hm : Mid l h w w') (hd : hi ≤ l ∨ h ≤ lo) : CO lo hi w' v n gs os := by
  obtain ⟨G, O, hv, hn, hg, hz, h1, h2, h3, h4, h5⟩ := ho
  have e1 := own_block h1; have e2 := own_block h2
  refine ⟨G, O, hv, hn, hg, hz, own_mid h1 hm (fun k hk => ?_), own_mid h2 hm (fun k hk => ?_), h3, h4, h5⟩
  · have := h3 k hk; have := (e1 k hk).1; omega
  · have := h4 k hk; have := (e2 k hk).1; omega
theorem BX.mid {l h : Nat} {w w' : World} {g : Nat} {a b c : Value} (hx : BX w g a b c) (hm : Mid l h w w') (hd : g < l ∨ h ≤ g) : BX w' g a b c := by
  have hl := hx.lt
  obtain ⟨t, ht⟩ := hx
  exact ⟨t, (hm.heap g hl hd).trans ht⟩
/-- a row of one's own, in a block from lo on, below hi -/
def OR (lo hi : Nat) (w : World) (e : TypeId) (s : Nat) (v : Value) (n : Nat) (cs : List Value) : Prop := w.ownsRow lo e s v n cs ∧ ∀ k, v.ownBlock = some k → k < hi
theorem OR.of {lo : Nat} {w : World} {e : TypeId} {s n : Nat} {v : Value} {cs : List Value} (h : w.ownsRow lo e s v n cs) : OR lo w.heap.size w e s v n cs := ⟨h, fun k hk => (own_block h k hk).2⟩
theorem OR.below {lo hi : Nat} {w w' : World} {e : TypeId} {s n : Nat} {v : Value} {cs : List Value} (h : OR lo hi w e s v n cs) (hb : Below w.heap.size w w') : OR lo hi w' e s v n cs := ⟨owb h.1 hb, h.2⟩
theorem OR.mid {l h lo hi : Nat} {w w' : World} {e : TypeId} {s n : Nat} {v : Value} {cs : List Value} (ho : OR lo hi w e s v n cs) (hm : Mid l h w w') (hd : hi ≤ l ∨ h ≤ lo) : OR lo hi w' e s v n cs :=
  ⟨own_mid ho.1 hm (fun k hk => by have := ho.2 k hk; have := (own_block ho.1 k hk).1; omega), ho.2⟩
theorem OR.form {lo hi : Nat} {w : World} {e : TypeId} {s n : Nat} {v : Value} {cs : List Value} (h : OR lo hi w e s v n cs) : ∃ A c, v = .slice A n c := by
  rcases h.1.2 with ⟨q, h0⟩ | ⟨g, cap, cur, q, _⟩
  · exact ⟨none, 0, by rw [q, h0]⟩
  · exact ⟨_, _, q⟩
theorem own_formu {w : World} {base n : Nat} {e : TypeId} {size : Nat} {v : Value} {xs : List Value} (h : w.ownsRow base e size v n xs) :
    ∃ A c, v = .slice A n c ∧ n ≤ maxLen ∧ (0 < n → ∃ g, A = some ⟨g, 0, none⟩ ∧ base ≤ g ∧ g < w.heap.size) := by
  rcases h.2 with ⟨rfl, rfl⟩ | ⟨g, cap, cur, rfl, h1, hg, h2, h3, _⟩
  · exact ⟨none, 0, rfl, Nat.zero_le _, fun x => by omega⟩
  · exact ⟨some ⟨g, 0, none⟩, cap, rfl, by omega, fun _ => ⟨g, rfl, h1, (Array.getElem?_eq_some_iff.1 hg).1⟩⟩
theorem grown_transc {a b c : World} {r : Option Nat} (h1 : a.grownBy b r) (h2 : b.grownBy c r) : a.grownBy c r :=
  ⟨h2.os.trans h1.os, h2.tape.trans h1.tape, h2.output.trans h1.output, Nat.le_trans h1.size h2.size, fun k hk hne => (h2.block k (Nat.lt_of_lt_of_le hk h1.size) hne).trans (h1.block k hk hne)⟩
theorem grown_reflc (w : World) (r : Option Nat) : w.grownBy w r := ⟨rfl, rfl, rfl, Nat.le_refl _, fun _ _ _ => rfl⟩

theorem own_grown {w w' : World} {lo s n : Nat} {e : TypeId} {v : Value} {cs : List Value} {r : Option Nat} (ho : w.ownsRow lo e s v n cs) (hg : w.grownBy w' r) (hd : ∀ k, v.ownBlock = some k → r ≠ some k) : w'.ownsRow lo e s v n cs := by
  have hb := own_block ho
  refine ⟨ho.1, ?_⟩
  rcases ho.2 with q | ⟨g, cap, cur, q1, q2, q3, q4⟩
  · exact .inl q
  · have e1 : v.ownBlock = some g := by rw [q1]; rfl
    exact .inr ⟨g, cap, cur, q1, q2, (hg.block g (hb g e1).2 (fun e => hd g e1 e.symm)).trans q3, q4⟩
/-- a list while it is being marked -/
def mrk {α : Type} (f : Nat → α) (xs : List α) (k : Nat) : List α := (List.range k).map f ++ xs.drop k
def mks {α : Type} (f : Nat → α) (n : Nat) : List α := (List.range n).map f
theorem mks_len {α : Type} (f : Nat → α) (n : Nat) : (mks f n).length = n := by simp [mks]
theorem mks_at {α : Type} (f : Nat → α) (d : α) (n j : Nat) (hj : j < n) : (mks f n).getD j d = f j := by simp [mks, List.getD, hj]
theorem mks_all {α : Type} (f : Nat → α) (n : Nat) (Q : α → Prop) (h : ∀ j, Q (f j)) : ∀ x ∈ mks f n, Q x := by
  intro x hx
  obtain ⟨j, _, rfl⟩ := List.mem_map.1 hx
  exact h j
theorem mrk_zero {α : Type} (f : Nat → α) (xs : List α) : mrk f xs 0 = xs := by simp [mrk]
theorem mrk_end {α : Type} (f : Nat → α) (xs : List α) : mrk f xs xs.length = mks f xs.length := by simp [mrk, mks]
theorem mrk_len {α : Type} (f : Nat → α) (xs : List α) (k : Nat) (hk : k ≤ xs.length) : (mrk f xs k).length = xs.length := by simp [mrk]; omega
theorem mrk_set {α : Type} (f : Nat → α) (xs : List α) (k : Nat) (hk : k < xs.length) : (mrk f xs k).set k (f k) = mrk f xs (k + 1) := by
  unfold mrk
  have e : k - ((List.range k).map f).length = 0 := by simp
  rw [List.set_append_right k _ (by simp), e, List.drop_eq_getElem_cons hk, List.set_cons_zero, List.range_succ, List.map_append, List.append_assoc]
  rfl
theorem wrap8s (z : Int) : -128 ≤ IntKind.wrap .i8 z ∧ IntKind.wrap .i8 z < 128 := by
  simp only [IntKind.wrap, show IntKind.i8.bits = 8 from rfl, show IntKind.i8.signed = true from rfl]
  constructor <;> (simp; omega)
theorem wrap16s (z : Int) : -32768 ≤ IntKind.wrap .i16 z ∧ IntKind.wrap .i16 z < 32768 := by
  simp only [IntKind.wrap, show IntKind.i16.bits = 16 from rfl, show IntKind.i16.signed = true from rfl]
  constructor <;> (simp; omega)
/-- the mark of a gate -/
def mkg (m i : Nat) : G3 := (IntKind.wrap .i8 ((m + 3 * i : Nat) : Int), IntKind.wrap .i16 (((m + 3 * i : Nat) : Int) + 1), IntKind.wrap .i16 (((m + 3 * i : Nat) : Int) + 1 + 1))
def mki (m i : Nat) : Int := IntKind.wrap .i16 ((m + i : Nat) : Int)
theorem mkg_w (m i : Nat) : GW (mkg m i) := ⟨wrap8s _, wrap16s _, wrap16s _⟩
theorem mki_w (m i : Nat) : IW (mki m i) := wrap16s _

set_option maxHeartbeats 2000000 in
theorem markGateS_any (v : Value) (gs : List G3) (hl : gs.length ≤ 1048576) (m : Nat) (hm : m ≤ 1073741824) (B : Nat) (w : World) (h : w.ownsRow B 67 3 v gs.length (gcs gs)) :
    Calls Tryd.prog 53 #[v, .int .i64 (m : Int)] w fun e w' => e = .returned (.int .i64 ((m + 3 * gs.length : Nat) : Int)) ∧ w'.ownsRow B 67 3 v gs.length (gcs (mks (mkg m) gs.length)) ∧ w.grownBy w' v.ownBlock := by
  obtain ⟨A, c, rfl, _, hA⟩ := own_formu h
  have HA := Lib.hid hA
  clear hA
  have h0 := h
  rw [← mrk_zero (mkg m) gs] at h0
  have H0 := Lib.hid h0
  clear h0 h
  go_enter Tryd.func53, Tryd.ntmps53
  go_wp2_with fail
  go_loopw [5, 1] (fun y k wr => ∃ i q : Nat, y = .int .i64 i ∧ i ≤ gs.length ∧ k = .int .i64 (q : Int) ∧ q = m + 3 * i ∧ Hid (wr.ownsRow B 67 3 (.slice A gs.length c) gs.length (gcs (mrk (mkg m) gs i))) ∧ Hid (w.grownBy wr (Value.slice A gs.length c).ownBlock)) (fun y _ _ => gs.length - (intOf y).toNat)
  case atStart => exact ⟨0, m, rfl, Nat.zero_le _, rfl, rfl, H0, Lib.hid (grown_reflc _ _)⟩
  case round =>
    clear H0
    obtain ⟨i, q, rfl, hi, rfl, hq, HO, HB⟩ := hrel
    have hqb : q ≤ 1077000000 := by omega
    by_cases hlt : i < gs.length
    · have T1 : decide ((i : Int) < (gs.length : Int)) = true := by simp; omega
      obtain ⟨g, rfl, hg1, hg2⟩ := HA.out (by omega)
      have i1 : (i : Int) < (gs.length : Int) := by omega
      have lg : (gcs (mrk (mkg m) gs i)).length = gs.length * 3 := by rw [gcs_len, mrk_len _ _ _ hi]
      obtain ⟨z0, hz0⟩ : ∃ z, z = IntKind.wrap .i8 ((q : Nat) : Int) := ⟨_, rfl⟩
      obtain ⟨z1, hz1⟩ : ∃ z, z = IntKind.wrap .i16 (((q : Nat) : Int) + 1) := ⟨_, rfl⟩
      obtain ⟨z2, hz2⟩ : ∃ z, z = IntKind.wrap .i16 (((q : Nat) : Int) + 1 + 1) := ⟨_, rfl⟩
      have HM := Lib.hid (show mkg m i = (z0, z1, z2) from by unfold mkg; rw [← hq, hz0, hz1, hz2])
      have w0 : -128 ≤ z0 ∧ z0 < 128 := by rw [hz0]; exact wrap8s _
      have w1 : -32768 ≤ z1 ∧ z1 < 32768 := by rw [hz1]; exact wrap16s _
      have w2 : -32768 ≤ z2 ∧ z2 < 32768 := by rw [hz2]; exact wrap16s _
      have f0 : IntKind.wrap .i8 ((q : Nat) : Int) = z0 := hz0.symm
      have f1 : IntKind.wrap .i16 (((q : Nat) : Int) + 1) = z1 := hz1.symm
      have f2 : IntKind.wrap .i16 (((q : Nat) : Int) + 1 + 1) = z2 := hz2.symm
      have f3 : IntKind.wrap .i16 (((q : Nat) : Int) + 2) = z2 := by rw [← f2]; congr 1
      obtain ⟨x0, hx0⟩ : ∃ x, (gcs (mrk (mkg m) gs i))[i * 3]? = some x := ⟨_, List.getElem?_eq_getElem (by omega)⟩
      have q0 : wr.cell? ⟨g, i * 3, none⟩ = some x0 := (HO.out.cellAt (i * 3) (by omega)).trans hx0
      have r0 : wr.frozen? ⟨g, i * 3, none⟩ = false := HO.out.frozenAt _
      have o1 := HO.out.stored (i * 3) (.int .i8 z0)
      have s1 := o1.1.stored (i * 3 + 1) (.int .i16 z1)
      have u1 := s1.1.stored (i * 3 + 2) (.int .i16 z2)
      obtain ⟨x1, hx1⟩ : ∃ x, ((gcs (mrk (mkg m) gs i)).set (i * 3) (.int .i8 z0))[i * 3 + 1]? = some x := ⟨_, List.getElem?_eq_getElem (by rw [List.length_set]; omega)⟩
      have q1 := (o1.1.cellAt (i * 3 + 1) (by omega)).trans hx1
      have r1 := o1.1.frozenAt (i * 3 + 1)
      obtain ⟨x2, hx2⟩ : ∃ x, (((gcs (mrk (mkg m) gs i)).set (i * 3) (.int .i8 z0)).set (i * 3 + 1) (.int .i16 z1))[i * 3 + 2]? = some x := ⟨_, List.getElem?_eq_getElem (by rw [List.length_set, List.length_set]; omega)⟩
      have q2 := (s1.1.cellAt (i * 3 + 2) (by omega)).trans hx2
      have r2 := s1.1.frozenAt (i * 3 + 2)
      have u2 := u1.1
      rw [gcs_set (mrk (mkg m) gs i) i (z0, z1, z2) (by rw [mrk_len _ _ _ hi]; exact hlt), ← HM.out, mrk_set _ _ _ hlt] at u2
      have U2 := Lib.hid u2
      have U3 := Lib.hid (grown_transc (grown_transc (grown_transc HB.out o1.2) s1.2) u1.2)
      have HQ := Lib.hid hq
      clear HO HB o1 s1 u1 u2 hx0 hx1 hx2 hz0 hz1 hz2 lg HM hq
      go_wp2_with fail
      exact ⟨⟨i + 1, q + 3, by go_num, by omega, by first | rfl | go_num, by have := HQ.out; omega, U2, U3⟩, by simp [intOf]; omega⟩
    · obtain rfl : i = gs.length := by omega
      subst hq
      have T1 : decide ((gs.length : Int) < (gs.length : Int)) = false := by simp
      have HE := Lib.hid (mrk_end (mkg m) gs)
      go_wp2_with fail
      go_ret
      refine ⟨by first | rfl | simp, ?_, HB.out⟩
      rw [← HE.out]; exact HO.out

set_option maxHeartbeats 2000000 in
theorem heldGateS_any (v : Value) (n : Nat) (hl : n ≤ 1048576) (m : Nat) (hm : m ≤ 1073741824) (w : World) (h : GL w v (mks (mkg m) n)) :
    Calls Tryd.prog 55 #[v, .int .i64 (m : Int)] w fun e w' => e = .returned (.int .i64 ((m + 3 * n : Nat) : Int)) ∧ w' = w := by
  have hln := mks_len (mkg m) n
  have H := Lib.hid h
  obtain ⟨A, c, rfl⟩ := h.form
  clear h
  rw [hln] at H ⊢
  have HN := Lib.hid hln
  clear hln
  go_enter Tryd.func55, Tryd.ntmps55
  go_wp2_with fail
  go_loopw [5, 1] (fun y k wr => ∃ i q : Nat, y = .int .i64 i ∧ i ≤ n ∧ k = .int .i64 (q : Int) ∧ q = m + 3 * i ∧ w = wr) (fun y _ _ => n - (intOf y).toNat)
  case atStart => exact ⟨0, m, rfl, Nat.zero_le _, rfl, rfl, rfl⟩
  case round =>
    obtain ⟨i, q, rfl, hi, rfl, hq, rfl⟩ := hrel
    have hqb : q ≤ 1077000000 := by omega
    by_cases hlt : i < n
    · have T1 : decide ((i : Int) < (n : Int)) = true := by simp; omega
      obtain ⟨b, off, c', e, hlb, hgw, c0, c1, c2⟩ := H.out.at i (by rw [HN.out]; exact hlt)
      rw [HN.out] at e
      cases e
      rw [mks_at _ _ _ _ hlt] at c0 c1 c2
      have i1 : (i : Int) < (n : Int) := by omega
      obtain ⟨z0, hz0⟩ : ∃ z, z = IntKind.wrap .i8 ((q : Nat) : Int) := ⟨_, rfl⟩
      obtain ⟨z1, hz1⟩ : ∃ z, z = IntKind.wrap .i16 (((q : Nat) : Int) + 1) := ⟨_, rfl⟩
      obtain ⟨z2, hz2⟩ : ∃ z, z = IntKind.wrap .i16 (((q : Nat) : Int) + 1 + 1) := ⟨_, rfl⟩
      rw [show mkg m i = (z0, z1, z2) from by unfold mkg; rw [← hq, hz0, hz1, hz2]] at c0 c1 c2
      simp only at c0 c1 c2
      have w0 : -128 ≤ z0 ∧ z0 < 128 := by rw [hz0]; exact wrap8s _
      have w1 : -32768 ≤ z1 ∧ z1 < 32768 := by rw [hz1]; exact wrap16s _
      have w2 : -32768 ≤ z2 ∧ z2 < 32768 := by rw [hz2]; exact wrap16s _
      have f0 : IntKind.wrap .i8 ((q : Nat) : Int) = z0 := hz0.symm
      have f1 : IntKind.wrap .i16 (((q : Nat) : Int) + 1) = z1 := hz1.symm
      have f2 : IntKind.wrap .i16 (((q : Nat) : Int) + 1 + 1) = z2 := hz2.symm
      have f3 : IntKind.wrap .i16 (((q : Nat) : Int) + 2) = z2 := by rw [← f2]; congr 1
      have T3 : (z0 != z0) = false := by simp
      have T4 : (z1 != z1) = false := by simp
      have T5 : (z2 != z2) = false := by simp
      have HQ := Lib.hid hq
      clear hz0 hz1 hz2 hq hgw
      go_wp2_with fail
      exact ⟨⟨i + 1, q + 3, by go_num, by omega, by first | rfl | go_num, by have := HQ.out; omega, by first | rfl | trivial⟩, by simp [intOf]; omega⟩
    · obtain rfl : i = n := by omega
      subst hq
      have T1 : decide ((i : Int) < (i : Int)) = false := by simp
      go_wp2_with fail
      go_ret
      exact ⟨by first | rfl | simp, rfl⟩
theorem LS.at1 {w : World} {v : Value} {n : Nat} {cs : List Value} (h : LS w v n cs) (i : Nat) (hi : i < n) (x : Value) (hx : cs[i]? = some x) :
    ∃ b off c, v = .slice (some ⟨b, off, none⟩) n c ∧ b < w.heap.size ∧ w.cell? ⟨b, off + i, none⟩ = some x := by
  obtain ⟨A, c, rfl, hm, hc⟩ := h
  obtain ⟨b, off, rfl, hlt, hr⟩ := hc (by omega)
  exact ⟨b, off, c, rfl, hlt, hr i x hx⟩
theorem LS.form {w : World} {v : Value} {n : Nat} {cs : List Value} (h : LS w v n cs) : ∃ A c, v = .slice A n c := by
  obtain ⟨A, c, hv, _⟩ := h
  exact ⟨A, c, hv⟩
theorem LS.long {w : World} {v : Value} {n : Nat} {cs : List Value} (h : LS w v n cs) : n ≤ 9223372036854775807 := by
  obtain ⟨A, c, _, hm, _⟩ := h
  exact hm
theorem map_at {α : Type} (F : α → Value) (d : α) (xs : List α) (i : Nat) (hi : i < xs.length) : (xs.map F)[i]? = some (F (xs.getD i d)) := by
  simp [List.getD, hi]
/-- the marks of an index, of a bool, of an int64 -/
def mkb (m i : Nat) : Bool := ((m + i : Nat) : Int).tmod 3 == 0
def mkl (m i : Nat) : Int := ((m + i : Nat) : Int)

set_option maxHeartbeats 2000000 in
theorem markInt16S_any (v : Value) (xs : List Int) (hl : xs.length ≤ 1048576) (m : Nat) (hm : m ≤ 1077000000) (B : Nat) (w : World) (h : w.ownsRow B 65 1 v xs.length (xs.map (Value.int .i16))) :
    Calls Tryd.prog 54 #[v, .int .i64 (m : Int)] w fun e w' => e = .returned (.int .i64 ((m + xs.length : Nat) : Int)) ∧ w'.ownsRow B 65 1 v xs.length ((mks (mki m) xs.length).map (Value.int .i16)) ∧ w.grownBy w' v.ownBlock := by
  obtain ⟨A, c, rfl, _, hA⟩ := own_formu h
  have HA := Lib.hid hA
  clear hA
  have h0 := h
  rw [← mrk_zero (mki m) xs] at h0
  rw [mrk_zero] at h0
  have H0 := Lib.hid (show w.ownsRow B 65 1 (.slice A xs.length c) xs.length ((mrk (mki m) xs 0).map (Value.int .i16)) from by rw [mrk_zero]; exact h0)
  clear h0 h
  go_enter Tryd.func54, Tryd.ntmps54
  go_wp2_with fail
  go_loopw [5, 1] (fun y k wr => ∃ i q : Nat, y = .int .i64 i ∧ i ≤ xs.length ∧ k = .int .i64 (q : Int) ∧ q = m + i ∧ Hid (wr.ownsRow B 65 1 (.slice A xs.length c) xs.length ((mrk (mki m) xs i).map (Value.int .i16))) ∧ Hid (w.grownBy wr (Value.slice A xs.length c).ownBlock)) (fun y _ _ => xs.length - (intOf y).toNat)
  case atStart => exact ⟨0, m, rfl, Nat.zero_le _, rfl, rfl, H0, Lib.hid (grown_reflc _ _)⟩
  case round =>
    clear H0
    obtain ⟨i, q, rfl, hi, rfl, hq, HO, HB⟩ := hrel
    have hqb : q ≤ 1079000000 := by omega
    by_cases hlt : i < xs.length
    · have T1 : decide ((i : Int) < (xs.length : Int)) = true := by simp; omega
      obtain ⟨g, rfl, hg1, hg2⟩ := HA.out (by omega)
      have i1 : (i : Int) < (xs.length : Int) := by omega
      have lg : ((mrk (mki m) xs i).map (Value.int .i16)).length = xs.length := by rw [List.length_map, mrk_len _ _ _ hi]
      obtain ⟨z0, hz0⟩ : ∃ z, z = IntKind.wrap .i16 ((q : Nat) : Int) := ⟨_, rfl⟩
      have HM := Lib.hid (show mki m i = z0 from by unfold mki; rw [← hq, hz0])
      have w0 : -32768 ≤ z0 ∧ z0 < 32768 := by rw [hz0]; exact wrap16s _
      have f0 : IntKind.wrap .i16 ((q : Nat) : Int) = z0 := hz0.symm
      obtain ⟨x0, hx0⟩ : ∃ x, ((mrk (mki m) xs i).map (Value.int .i16))[i]? = some x := ⟨_, List.getElem?_eq_getElem (by omega)⟩
      have q0 : wr.cell? ⟨g, i, none⟩ = some x0 := (HO.out.cellAt i (by omega)).trans hx0
      have r0 : wr.frozen? ⟨g, i, none⟩ = false := HO.out.frozenAt _
      have o1 := HO.out.stored i ((Value.int .i16) z0)
      have u2 := o1.1
      rw [← List.map_set, ← HM.out, mrk_set _ _ _ hlt, HM.out] at u2
      have U2 := Lib.hid u2
      have U3 := Lib.hid (grown_transc HB.out o1.2)
      have HQ := Lib.hid hq
      clear HO HB o1 u2 hx0 hz0 lg HM hq
      go_wp2_with fail
      exact ⟨⟨i + 1, q + 1, by go_num, by omega, by first | rfl | go_num, by have := HQ.out; omega, U2, U3⟩, by simp [intOf]; omega⟩
    · obtain rfl : i = xs.length := by omega
      subst hq
      have T1 : decide ((xs.length : Int) < (xs.length : Int)) = false := by simp
      have HE := Lib.hid (mrk_end (mki m) xs)
      go_wp2_with fail
      go_ret
      refine ⟨by first | rfl | simp, ?_, HB.out⟩
      rw [← HE.out]; exact HO.out
set_option maxHeartbeats 2000000 in
theorem heldInt16S_any (v : Value) (n : Nat) (hl : n ≤ 1048576) (m : Nat) (hm : m ≤ 1077000000) (w : World) (h : LS w v n ((mks (mki m) n).map (Value.int .i16))) :
    Calls Tryd.prog 56 #[v, .int .i64 (m : Int)] w fun e w' => e = .returned (.int .i64 ((m + n : Nat) : Int)) ∧ w' = w := by
  have H := Lib.hid h
  obtain ⟨A, c, rfl⟩ := h.form
  clear h
  go_enter Tryd.func56, Tryd.ntmps56
  go_wp2_with fail
  go_loopw [5, 1] (fun y k wr => ∃ i q : Nat, y = .int .i64 i ∧ i ≤ n ∧ k = .int .i64 (q : Int) ∧ q = m + i ∧ w = wr) (fun y _ _ => n - (intOf y).toNat)
  case atStart => exact ⟨0, m, rfl, Nat.zero_le _, rfl, rfl, rfl⟩
  case round =>
    obtain ⟨i, q, rfl, hi, rfl, hq, rfl⟩ := hrel
    have hqb : q ≤ 1079000000 := by omega
    by_cases hlt : i < n
    · have T1 : decide ((i : Int) < (n : Int)) = true := by simp; omega
      obtain ⟨z0, hz0⟩ : ∃ z, z = IntKind.wrap .i16 ((q : Nat) : Int) := ⟨_, rfl⟩
      obtain ⟨b, off, c', e, hlb, c0⟩ := H.out.at1 i hlt ((Value.int .i16) z0) (by rw [map_at (Value.int .i16) 0 _ _ (by rw [mks_len]; exact hlt), mks_at _ _ _ _ hlt]; unfold mki; rw [← hq, hz0])
      cases e
      have i1 : (i : Int) < (n : Int) := by omega
      have w0 : -32768 ≤ z0 ∧ z0 < 32768 := by rw [hz0]; exact wrap16s _
      have f0 : IntKind.wrap .i16 ((q : Nat) : Int) = z0 := hz0.symm
      have T3 : (z0 != z0) = false := by simp
      have HQ := Lib.hid hq
      clear hz0 hq
      go_wp2_with fail
      exact ⟨⟨i + 1, q + 1, by go_num, by omega, by first | rfl | go_num, by have := HQ.out; omega, by first | rfl | trivial⟩, by simp [intOf]; omega⟩
    · obtain rfl : i = n := by omega
      subst hq
      have T1 : decide ((i : Int) < (i : Int)) = false := by simp
      go_wp2_with fail
      go_ret
      exact ⟨by first | rfl | simp, rfl⟩

set_option maxHeartbeats 2000000 in
set_option maxHeartbeats 2000000 in
set_option maxHeartbeats 2000000 in
set_option maxHeartbeats 2000000 in
set_option maxHeartbeats 1000000 in
set_option maxHeartbeats 1000000 in
set_option maxHeartbeats 2000000 in
theorem markCircuit_any (v : Value) (n : Int) (gs : List G3) (os : List Int) (hn : gs.length + os.length ≤ 1048576) (lo hi m : Nat) (hm : m ≤ 1000) (w : World) (h : CO lo hi w v n gs os) (hlo : lo ≤ w.heap.size) :
    Calls Tryd.prog 14 #[v, .int .i64 (m : Int)] w fun e w' => e = .returned (.int .i64 ((m + 3 * gs.length + os.length : Nat) : Int)) ∧ CO lo hi w' v n (mks (mkg m) gs.length) (mks (mki (m + 3 * gs.length)) os.length) ∧ Mid lo hi w w' := by
  obtain ⟨G, O, rfl, hn1, hg, hz, h1, h2, h3, h4, h5⟩ := h
  obtain ⟨A, c, rfl, _, _⟩ := own_formu h1
  obtain ⟨A2, c2, rfl, _, _⟩ := own_formu h2
  have K3 := Lib.hid h3; have K4 := Lib.hid h4; have K5 := Lib.hid h5
  have O1 := Lib.hid (own_block h1); have O2 := Lib.hid (own_block h2)
  go_enter Tryd.func14, Tryd.ntmps14
  go_wp2_with fail
  obtain ⟨a1, a2, a3⟩ := nw1 w (.cells #[.int .i8 n, .slice A gs.length c, .slice A2 os.length c2] 30)
  generalize World.alloc w _ = w1 at a1 a2 a3 ⊢
  have m1 : BX w1 w.heap.size (.int .i8 n) (.slice A gs.length c) (.slice A2 os.length c2) := ⟨_, a1⟩
  refine (markGateS_any _ gs (by omega) m (by omega) lo w1 (owb h1 a2)).mono ?_
  rintro e w2 ⟨rfl, o1, g1⟩
  have M2 := Lib.hid (Mid.of_grown g1 (lo := lo) (hi := hi) (fun k hk => ⟨(O1.out k hk).1, K3.out k hk⟩) (by omega))
  have hx2 : BX w2 w.heap.size (.int .i8 n) (.slice A gs.length c) (.slice A2 os.length c2) := by
    obtain ⟨t, ht⟩ := m1
    exact ⟨t, (g1.block w.heap.size (by omega) (fun e => by have := (O1.out _ e.symm).2; omega)).trans ht⟩
  have h2' : w2.ownsRow lo 65 1 (.slice A2 os.length c2) os.length (i16s os) := by
    exact own_grown (owb h2 a2) g1 (fun k hk e2 => K5.out k e2 hk)
  have k1 := hx2.c2
  have HH2 := Lib.hid h2'; have HO1 := Lib.hid o1
  have A2' := Lib.hid a2; have A3 := Lib.hid a3
  have G1 := Lib.hid g1
  clear m1 hx2 h2' o1 g1 a1 a2 a3 h1 h2 h3 h4 h5
  go_wp2_with fail
  refine (markInt16S_any _ os (by omega) (m + 3 * gs.length) (by omega) lo w2 HH2.out).mono ?_
  rintro e w3 ⟨rfl, o3, g3⟩
  have o13 : w3.ownsRow lo 67 3 (.slice A gs.length c) gs.length (gcs (mks (mkg m) gs.length)) := by
    exact own_grown HO1.out g3 (fun k hk e2 => K5.out k hk e2)
  have M3 := Lib.hid (Mid.of_grown g3 (lo := lo) (hi := hi) (fun k hk => ⟨(O2.out k hk).1, K4.out k hk⟩) (by have := M2.out.1.size; have := A3.out; omega))
  have O13 := Lib.hid o13; have O3 := Lib.hid o3
  clear o13 o3 g3 k1
  go_wp2_with fail
  go_ret
  refine ⟨by first | rfl | simp, ⟨_, _, rfl, hn1, mks_all _ _ _ (mkg_w m), mks_all _ _ _ (mki_w _), by rw [mks_len]; exact O13.out, by rw [mks_len]; exact O3.out, ?_, ?_, ?_⟩, ?_⟩
  · exact K3.out
  · exact K4.out
  · exact K5.out
  · exact ((Mid.of_below A2'.out hlo).trans M2.out).trans M3.out
set_option maxHeartbeats 2000000 in
theorem heldCircuit_any (v : Value) (n : Int) (a b : Nat) (hn : a + b ≤ 1048576) (m : Nat) (hm : m ≤ 1000) (w : World) (h : CI w v n (mks (mkg m) a) (mks (mki (m + 3 * a)) b)) :
    Calls Tryd.prog 15 #[v, .int .i64 (m : Int)] w fun e w' => e = .returned (.int .i64 ((m + 3 * a + b : Nat) : Int)) ∧ Below w.heap.size w w' := by
  obtain ⟨G, O, rfl, hn1, hg, ho⟩ := h
  have HG := Lib.hid hg; have HO := Lib.hid ho
  obtain ⟨A, c, rfl⟩ := hg.form
  obtain ⟨A2, c2, rfl⟩ := ho.form
  clear hg ho
  rw [mks_len] at HG HO
  rw [mks_len, mks_len]
  go_enter Tryd.func15, Tryd.ntmps15
  go_wp2_with fail
  obtain ⟨a1, a2, a3⟩ := nw1 w (.cells #[.int .i8 n, .slice A a c, .slice A2 b c2] 30)
  generalize World.alloc w _ = w1 at a1 a2 a3 ⊢
  have m1 : BX w1 w.heap.size (.int .i8 n) (.slice A a c) (.slice A2 b c2) := ⟨_, a1⟩
  refine (heldGateS_any _ a (by omega) m (by omega) w1 (HG.out.below a2)).mono ?_
  rintro e w2 ⟨rfl, rfl⟩
  have k1 := m1.c2
  have HB := Lib.hid a2
  have t1 : decide (((m + 3 * a : Nat) : Int) < 0) = false := by simp; omega
  have t2 : decide (((m + 3 * a + b : Nat) : Int) < 0) = false := by simp; omega
  obtain ⟨q, hq⟩ : ∃ q, q = m + 3 * a := ⟨_, rfl⟩
  obtain ⟨q2, hq2⟩ : ∃ q, q = m + 3 * a + b := ⟨_, rfl⟩
  rw [← hq] at t1 HO ⊢
  rw [← hq2] at t2
  have HQ := Lib.hid hq; have HQ2 := Lib.hid hq2
  clear a1 a2 a3 m1 hq hq2
  go_wp2_with fail
  have hh := heldInt16S_any _ b (by omega) q (by have := HQ.out; omega) w2 (by have h := (HO.out.below HB.out).1; rw [mks_len] at h; exact h)
  rw [show q + b = q2 from by rw [HQ.out, HQ2.out]] at hh
  refine hh.mono ?_
  rintro e w3 ⟨rfl, rfl⟩
  clear k1 hh
  go_wp2_with fail
  go_ret
  exact ⟨by first | rfl | (rw [HQ2.out]; rfl) | (rw [HQ2.out, HQ.out]; rfl), HB.out⟩

end Go.Proofs.YtedcfmdgcafnmaaDoor
