/-
  Games whose rows are their own: marked, held, appended to.
-/
import Derived.Test.YtklddmmbbaaliaaDoorValid
import Derived.Laws.AppendOwn
namespace Go.Proofs.YtklddmmbbaaliaaDoor
set_option linter.unusedVariables false
set_option linter.unusedSimpArgs false
open Go.ChangeShapes Go.WideShapes Go.ChangeAt Go.RowKit Go.Deep

theorem own_form {w : World} {base n : Nat} {e : TypeId} {size : Nat} {v : Value} {xs : List Value} (h : w.ownsRow base e size v n xs) :
    ∃ A c, v = .slice A n c ∧ n ≤ maxLen ∧ (0 < n → ∃ g, A = some ⟨g, 0, none⟩ ∧ base ≤ g ∧ g < w.heap.size) := by
  rcases h.2 with ⟨rfl, rfl⟩ | ⟨g, cap, cur, rfl, h1, hg, h2, h3, _⟩
  · exact ⟨none, 0, rfl, Nat.zero_le _, fun x => by omega⟩
  · exact ⟨some ⟨g, 0, none⟩, cap, rfl, by omega, fun _ => ⟨g, rfl, h1, (Array.getElem?_eq_some_iff.1 hg).1⟩⟩
theorem own_block {w : World} {base n g o : Nat} {s : Option Nat} {e : TypeId} {size : Nat} {m c : Nat} {xs : List Value} (h : w.ownsRow base e size (.slice (some ⟨g, o, none⟩) m c) n xs) :
    base ≤ g ∧ ∃ cur, w.heap[g]? = some (.cells cur e (0, 0)) := by
  rcases h.2 with ⟨h1, _⟩ | ⟨g2, cap, cur, e2, h1, hg, _⟩
  · cases h1
  · simp only [Value.slice.injEq, Option.some.injEq, Addr.mk.injEq] at e2
    obtain ⟨⟨rfl, _⟩, _⟩ := e2
    exact ⟨h1, cur, hg⟩
theorem own_ne {w : World} {b1 b2 n1 n2 : Nat} {e1 e2 : TypeId} {s1 s2 : Nat} {v1 v2 : Value} {x1 x2 : List Value} (h1 : w.ownsRow b1 e1 s1 v1 n1 x1) (h2 : w.ownsRow b2 e2 s2 v2 n2 x2) (he : e1 ≠ e2) : v1.ownBlock = none ∨ v1.ownBlock ≠ v2.ownBlock := by
  rcases h1.2 with ⟨rfl, _⟩ | ⟨g1, c1, u1, rfl, _, q1, _⟩
  · exact .inl rfl
  · rcases h2.2 with ⟨rfl, _⟩ | ⟨g2, c2, u2, rfl, _, q2, _⟩
    · exact .inr (by simp [Value.ownBlock])
    · refine .inr ?_
      intro e
      simp only [Value.ownBlock, Option.some.injEq] at e
      rw [e, q2] at q1
      simp only [Option.some.injEq, Obj.cells.injEq] at q1
      exact he q1.2.1.symm
theorem grown_put (w : World) (g o : Nat) (x : Value) : w.grownBy (w.setCell ⟨g, o, none⟩ x) (some g) := by
  refine ⟨rfl, rfl, rfl, by simp [World.setCell], fun k hk hne => ?_⟩
  exact Below.heap_setCell _ _ _ _ (fun e => hne (by have e2 : k = g := by first | exact e | exact e.symm
                                                     rw [e2]))
theorem grown_trans {a b c : World} {r : Option Nat} (h1 : a.grownBy b r) (h2 : b.grownBy c r) : a.grownBy c r :=
  ⟨h2.os.trans h1.os, h2.tape.trans h1.tape, h2.output.trans h1.output, Nat.le_trans h1.size h2.size, fun k hk hne => (h2.block k (Nat.lt_of_lt_of_le hk h1.size) hne).trans (h1.block k hk hne)⟩
theorem grown_refl (w : World) (r : Option Nat) : w.grownBy w r := ⟨rfl, rfl, rfl, Nat.le_refl _, fun _ _ _ => rfl⟩

/-- the slice v holds the rows U, each in a block of its own -/
structure OGU (U : Nat → Value) (B : Nat) (w : World) (v : Value) (gs : List (List Int)) : Prop where
  outer : w.ownsRow B 124 1 v gs.length ((List.range gs.length).map U)
  rows : ∀ i, i < gs.length → w.ownsRow B 57 1 (U i) (gs.getD i []).length (i8s (gs.getD i []))
  small : ∀ i, i < gs.length → ∀ z ∈ gs.getD i [], -128 ≤ z ∧ z < 128
  apart : ∀ i j, i < j → j < gs.length → (U i).ownBlock = none ∨ (U i).ownBlock ≠ (U j).ownBlock
theorem OGU.apart2 {U : Nat → Value} {B : Nat} {w : World} {v : Value} {gs : List (List Int)} (h : OGU U B w v gs) (i j : Nat) (hi : i < gs.length) (hj : j < gs.length) (hne : i ≠ j) : (U i).ownBlock = none ∨ (U i).ownBlock ≠ (U j).ownBlock := by
  by_cases e : i < j
  · exact h.apart i j e hj
  · rcases h.apart j i (by omega) hi with q | q
    · cases hu : (U i).ownBlock with
      | none => exact .inl rfl
      | some k => exact .inr (by rw [q]; simp)
    · exact .inr (fun x => q x.symm)
theorem OGU.below {U : Nat → Value} {B : Nat} {w w' : World} {v : Value} {gs : List (List Int)} (h : OGU U B w v gs) (hb : Below w.heap.size w w') : OGU U B w' v gs :=
  ⟨own_below h.outer hb, fun i hi => own_below (h.rows i hi) hb, h.small, h.apart⟩
theorem OGU.gs {U : Nat → Value} {B : Nat} {w : World} {v : Value} {gs : List (List Int)} (h : OGU U B w v gs) : GS B w v gs := by
  obtain ⟨A, c, rfl, hm, hA⟩ := own_form h.outer
  refine ⟨A, c, rfl, by unfold maxLen at hm; omega, fun i hi => ?_, fun hn => ?_⟩
  · obtain ⟨_, _, _, hm2, _⟩ := own_form (h.rows i hi)
    unfold maxLen at hm2; omega
  · obtain ⟨g, rfl, hg1, hg2⟩ := hA hn
    refine ⟨g, 0, rfl, hg1, hg2, fun i hi => ⟨U i, ?_, R8.of_own (h.rows i hi) (h.small i hi)⟩⟩
    rw [Nat.zero_add, h.outer.cellAt i (by omega)]
    simp [hi]
/-- one row is written, in place or in a block that is new -/
theorem OGU.turn {U : Nat → Value} {B : Nat} {w w' : World} {v : Value} {gs gs' : List (List Int)} (h : OGU U B w v gs) (k : Nat) (hk : k < gs.length) (hl : gs'.length = gs.length) (hg : w.grownBy w' (U k).ownBlock)
    (ho : w'.ownsRow B 57 1 (U k) (gs'.getD k []).length (i8s (gs'.getD k []))) (hs : ∀ z ∈ gs'.getD k [], -128 ≤ z ∧ z < 128) (hsame : ∀ i, i < gs.length → i ≠ k → gs'.getD i [] = gs.getD i []) : OGU U B w' v gs' := by
  refine ⟨?_, fun i hi => ?_, fun i hi => ?_, fun i j hij hj => h.apart i j hij (by omega)⟩
  · rw [hl]
    refine h.outer.kept hg ?_
    rcases own_ne h.outer (h.rows k hk) (by decide) with q | q
    · exact .inl q
    · exact .inr q
  · by_cases e : i = k
    · subst e; exact ho
    · rw [hsame i (by omega) e]
      exact (h.rows i (by omega)).kept hg (h.apart2 i k (by omega) hk e)
  · by_cases e : i = k
    · subst e; exact hs
    · rw [hsame i (by omega) e]
      exact h.small i (by omega)
/-- a row more -/
theorem OGU.snoc {U : Nat → Value} {B M : Nat} {w w' : World} {v v' u : Value} {gs : List (List Int)} {zs : List Int} (h : OGU U B w v gs) (hg : w.grownBy w' v.ownBlock) (ho : w'.ownsRow B 124 1 v' (gs.length + 1) ((List.range gs.length).map U ++ [u]))
    (hu : w.ownsRow M 57 1 u zs.length (i8s zs)) (hB : B ≤ M) (hs : ∀ z ∈ zs, -128 ≤ z ∧ z < 128) (hM : ∀ i, i < gs.length → ∀ b, (U i).ownBlock = some b → b < M) : OGU (fun i => if i = gs.length then u else U i) B w' v' (gs ++ [zs]) := by
  have hU : ∀ i, i < gs.length → (fun i => if i = gs.length then u else U i) i = U i := fun i hi => by simp [show i ≠ gs.length from by omega]
  have hg1 : ∀ i, i < gs.length → (gs ++ [zs]).getD i [] = gs.getD i [] := fun i hi => by simp [List.getD, List.getElem?_append_left hi]
  have hg2 : (gs ++ [zs]).getD gs.length [] = zs := by simp [List.getD]
  have hln : (gs ++ [zs]).length = gs.length + 1 := by simp
  have hlow : w.ownsRow B 57 1 u zs.length (i8s zs) := by
    refine ⟨hu.1, ?_⟩
    rcases hu.2 with q | ⟨g, c, cur, q1, q2, q3⟩
    · exact .inl q
    · exact .inr ⟨g, c, cur, q1, Nat.le_trans hB q2, q3⟩
  refine ⟨?_, fun i hi => ?_, fun i hi => ?_, fun i j hij hj => ?_⟩
  · rw [hln, List.range_succ, List.map_append, List.map_singleton]
    have e : (List.range gs.length).map (fun i => if i = gs.length then u else U i) = (List.range gs.length).map U := List.map_congr_left fun i hi => hU i (List.mem_range.1 hi)
    rw [e]
    simpa using ho
  · by_cases e : i = gs.length
    · subst e
      rw [hg2]
      simp only [if_true]
      exact hlow.kept hg (own_ne hu h.outer (by decide))
    · have hi2 : i < gs.length := by omega
      rw [hg1 i hi2, show (if i = gs.length then u else U i) = U i from if_neg e]
      exact (h.rows i hi2).kept hg (own_ne (h.rows i hi2) h.outer (by decide))
  · by_cases e : i = gs.length
    · subst e; rw [hg2]; exact hs
    · rw [hg1 i (by omega)]; exact h.small i (by omega)
  · rw [hln] at hj
    have hi : i < gs.length := by omega
    rw [show (if i = gs.length then u else U i) = U i from if_neg (by omega)]
    by_cases e : j = gs.length
    · subst e
      simp only [if_true]
      cases hq : (U i).ownBlock with
      | none => exact .inl rfl
      | some b =>
        refine .inr (fun q => ?_)
        have := (hu.lt b q.symm).1
        have := hM i hi b hq
        omega
    · rw [show (if j = gs.length then u else U j) = U j from if_neg e]
      exact h.apart i j hij (by omega)
/-- nothing has changed but blocks from lo on and before hi -/
structure Amid (lo hi : Nat) (w w' : World) : Prop where
  os : w'.os = w.os
  tape : w'.tape = w.tape
  output : w'.output = w.output
  size : w.heap.size ≤ w'.heap.size
  block : ∀ k, k < w.heap.size → k < lo ∨ hi ≤ k → w'.heap[k]? = w.heap[k]?
theorem Amid.refl (lo hi : Nat) (w : World) : Amid lo hi w w := ⟨rfl, rfl, rfl, Nat.le_refl _, fun _ _ _ => rfl⟩
theorem Amid.trans {lo hi : Nat} {a b c : World} (h1 : Amid lo hi a b) (h2 : Amid lo hi b c) : Amid lo hi a c :=
  ⟨h2.os.trans h1.os, h2.tape.trans h1.tape, h2.output.trans h1.output, Nat.le_trans h1.size h2.size, fun k hk hn => (h2.block k (Nat.lt_of_lt_of_le hk h1.size) hn).trans (h1.block k hk hn)⟩
theorem own_amid {lo hi B : Nat} {w w' : World} {e : TypeId} {s n : Nat} {v : Value} {xs : List Value} (h : w.ownsRow B e s v n xs) (ha : Amid lo hi w w') (hB : hi ≤ B) : w'.ownsRow B e s v n xs := by
  refine ⟨h.1, ?_⟩
  rcases h.2 with q | ⟨g, c, cur, q1, q2, q3, q4⟩
  · exact .inl q
  · exact .inr ⟨g, c, cur, q1, q2, (ha.block g (Array.getElem?_eq_some_iff.1 q3).1 (.inr (Nat.le_trans hB q2))).trans q3, q4⟩
theorem OGU.amid {U : Nat → Value} {B lo hi : Nat} {w w' : World} {v : Value} {gs : List (List Int)} (h : OGU U B w v gs) (ha : Amid lo hi w w') (hB : hi ≤ B) : OGU U B w' v gs :=
  ⟨own_amid h.outer ha hB, fun i hi' => own_amid (h.rows i hi') ha hB, h.small, h.apart⟩
theorem OGU.lows {U : Nat → Value} {B : Nat} {w : World} {v : Value} {gs : List (List Int)} (h : OGU U B w v gs) : ∀ i, i < gs.length → ∀ b, (U i).ownBlock = some b → b < w.heap.size := fun i hi b hb => ((h.rows i hi).lt b hb).2
def markRow (m n : Nat) : List Int := (List.range n).map fun j => IntKind.wrap .i8 ((m + j : Nat) : Int)
theorem markRow_len (m n : Nat) : (markRow m n).length = n := by unfold markRow; simp
theorem wrap8_small (m : Int) : -128 ≤ IntKind.wrap .i8 m ∧ IntKind.wrap .i8 m < 128 := by
  simp only [IntKind.wrap, show IntKind.i8.bits = 8 from rfl, show IntKind.i8.signed = true from rfl]
  constructor <;> (simp; omega)
theorem markRow_small (m n : Nat) : ∀ z ∈ markRow m n, -128 ≤ z ∧ z < 128 := by
  intro z hz
  unfold markRow at hz
  obtain ⟨j, _, rfl⟩ := List.mem_map.1 hz
  exact wrap8_small _
theorem markRow_at (m n j : Nat) (hj : j < n) : (markRow m n).getD j 0 = IntKind.wrap .i8 ((m + j : Nat) : Int) := by
  unfold markRow
  simp [List.getD, hj]
/-- the row while it is being marked -/
def mrk8 (zs : List Int) (m k : Nat) : List Value := i8s (markRow m k) ++ (i8s zs).drop k
theorem mrk8_zero (zs : List Int) (m : Nat) : mrk8 zs m 0 = i8s zs := by simp [mrk8, markRow, i8s]
theorem mrk8_end (zs : List Int) (m : Nat) : mrk8 zs m zs.length = i8s (markRow m zs.length) := by simp [mrk8, i8s]
theorem mrk8_next (zs : List Int) (m k : Nat) (hk : k < zs.length) : ∃ x, (mrk8 zs m k)[k]? = some x := by
  refine ⟨_, List.getElem?_eq_getElem (by simp [mrk8, i8s, markRow]; omega)⟩
theorem mrk8_set (zs : List Int) (m k : Nat) (hk : k < zs.length) : (mrk8 zs m k).set k (.int .i8 (IntKind.wrap .i8 ((m + k : Nat) : Int))) = mrk8 zs m (k + 1) := by
  unfold mrk8
  have e : (i8s zs).drop k = .int .i8 zs[k] :: (i8s zs).drop (k + 1) := by
    rw [List.drop_eq_getElem_cons (by simpa [i8s] using hk)]
    simp [i8s]
  rw [List.set_append_right k _ (by simp [i8s, markRow]), e]
  have l : (i8s (markRow m k)).length = k := by simp [i8s, markRow]
  rw [l, Nat.sub_self, List.set_cons_zero]
  unfold markRow
  rw [List.range_succ, List.map_append]
  simp [i8s]
set_option maxHeartbeats 1000000 in
theorem markInt8S_any (v : Value) (zs : List Int) (hl : zs.length ≤ 1048576) (m : Nat) (hm : m ≤ 1073741824) (B : Nat) (w : World) (h : w.ownsRow B 57 1 v zs.length (i8s zs)) :
    Calls Tryd.prog 114 #[v, .int .i64 (m : Int)] w fun e w' => e = .returned (.int .i64 ((m + zs.length : Nat) : Int)) ∧ w'.ownsRow B 57 1 v zs.length (i8s (markRow m zs.length)) ∧ w.grownBy w' v.ownBlock := by
  obtain ⟨A, c, rfl, _, hA⟩ := own_form h
  have HA := Lib.hid hA
  clear hA
  have h0 := h
  rw [← mrk8_zero zs m] at h0
  have H0 := Lib.hid h0
  clear h0 h
  go_enter Tryd.func114, Tryd.ntmps114
  go_wp2_with fail
  go_loopw [5, 1] (fun y k wr => ∃ i : Nat, y = .int .i64 i ∧ i ≤ zs.length ∧ k = .int .i64 ((m + i : Nat) : Int) ∧ Hid (wr.ownsRow B 57 1 (.slice A zs.length c) zs.length (mrk8 zs m i)) ∧ Hid (w.grownBy wr (Value.slice A zs.length c).ownBlock)) (fun y _ _ => zs.length - (intOf y).toNat)
  case atStart => exact ⟨0, rfl, by omega, by first | rfl | simp, H0, Lib.hid (grown_refl _ _)⟩
  case round =>
    clear H0
    obtain ⟨i, rfl, hi, rfl, HO, HB⟩ := hrel
    by_cases hlt : i < zs.length
    · have T1 : decide ((i : Int) < (zs.length : Int)) = true := by simp; omega
      obtain ⟨g, rfl, hg1, hg2⟩ := HA.out (by omega)
      have i1 : (i : Int) < (zs.length : Int) := by omega
      obtain ⟨x, hx⟩ := mrk8_next zs m i hlt
      have q1 : wr.cell? ⟨g, i, none⟩ = some x := (HO.out.cellAt i (by omega)).trans hx
      have q2 : wr.frozen? ⟨g, i, none⟩ = false := HO.out.frozenAt _
      have q3 := (HO.out.stored i (.int .i8 (IntKind.wrap .i8 ((m + i : Nat) : Int)))).1
      rw [mrk8_set zs m i hlt] at q3
      have Q3 := Lib.hid q3
      have Q4 := Lib.hid (grown_trans HB.out (grown_put wr g i (.int .i8 (IntKind.wrap .i8 ((m + i : Nat) : Int)))))
      have ws := wrap8_small ((m + i : Nat) : Int)
      obtain ⟨z, hz⟩ : ∃ z, z = IntKind.wrap .i8 ((m + i : Nat) : Int) := ⟨_, rfl⟩
      rw [← hz] at Q3 Q4 ws
      have hz' : IntKind.wrap .i8 ((m : Int) + (i : Int)) = z := by rw [hz]; congr 1
      have hz2 : IntKind.wrap .i8 (((m + i : Nat) : Int)) = z := hz.symm
      clear HO HB q3 hx hz
      go_wp2_with fail
      exact ⟨⟨i + 1, by first | rfl | go_num, by omega, by first | rfl | (simp <;> omega), Q3, Q4⟩, by simp [intOf]; omega⟩
    · obtain rfl : i = zs.length := by omega
      have T1 : decide ((zs.length : Int) < (zs.length : Int)) = false := by simp
      have HE := Lib.hid (mrk8_end zs m)
      go_wp2_with fail
      go_ret
      refine ⟨by first | rfl | simp, ?_, HB.out⟩
      rw [← HE.out]; exact HO.out
set_option maxHeartbeats 1000000 in
theorem heldInt8S_any (v : Value) (n : Nat) (hl : n ≤ 1048576) (m : Nat) (hm : m ≤ 1073741824) (B : Nat) (w : World) (h : R8 B w v (markRow m n)) :
    Calls Tryd.prog 115 #[v, .int .i64 (m : Int)] w fun e w' => e = .returned (.int .i64 ((m + n : Nat) : Int)) ∧ w' = w := by
  obtain ⟨A, c, rfl, _, hc⟩ := h
  rw [markRow_len] at hc ⊢
  have HC := Lib.hid hc
  clear hc
  go_enter Tryd.func115, Tryd.ntmps115
  go_wp2_with fail
  go_loopw [5, 1] (fun y k wr => ∃ i : Nat, y = .int .i64 i ∧ i ≤ n ∧ k = .int .i64 ((m + i : Nat) : Int) ∧ w = wr) (fun y _ _ => n - (intOf y).toNat)
  case atStart => exact ⟨0, rfl, by omega, by first | rfl | simp, rfl⟩
  case round =>
    obtain ⟨i, rfl, hi, rfl, rfl⟩ := hrel
    by_cases hlt : i < n
    · have T1 : decide ((i : Int) < (n : Int)) = true := by simp; omega
      obtain ⟨b, off, rfl, _, hlb, hcell⟩ := HC.out (by omega)
      have i1 : (i : Int) < (n : Int) := by omega
      have q1 := hcell i hlt
      have HCL := Lib.hid hcell
      clear hcell
      rw [markRow_at m n i hlt] at q1
      have ws := wrap8_small ((m + i : Nat) : Int)
      obtain ⟨z, hz⟩ : ∃ z, z = IntKind.wrap .i8 ((m + i : Nat) : Int) := ⟨_, rfl⟩
      rw [← hz] at q1 ws
      have hz' : IntKind.wrap .i8 ((m : Int) + (i : Int)) = z := by rw [hz]; congr 1
      have hz2 : IntKind.wrap .i8 (((m + i : Nat) : Int)) = z := hz.symm
      have T3 : (z != z) = false := by simp
      clear hz
      go_wp2_with fail
      exact ⟨⟨i + 1, by first | rfl | go_num, by omega, by first | rfl | (simp <;> omega), by simp⟩, by simp [intOf]; omega⟩
    · obtain rfl : i = n := by omega
      have T1 : decide ((i : Int) < (i : Int)) = false := by simp
      go_wp2_with fail
      go_ret
      exact ⟨by first | rfl | simp, rfl⟩
/-- the lengths of the first rows -/
def sumTo (gs : List (List Int)) : Nat → Nat
  | 0 => 0
  | t + 1 => sumTo gs t + (gs.getD t []).length
theorem sum_mono (gs : List (List Int)) (i : Nat) : ∀ j, sumTo gs i ≤ sumTo gs (i + j)
  | 0 => Nat.le_refl _
  | j + 1 => Nat.le_trans (sum_mono gs i j) (by rw [← Nat.add_assoc]; exact Nat.le_add_right _ _)
theorem sum_le {gs : List (List Int)} {i j : Nat} (h : i ≤ j) : sumTo gs i ≤ sumTo gs j := by
  have := sum_mono gs i (j - i)
  rwa [Nat.add_sub_cancel' h] at this
def markTo (gs : List (List Int)) (m t : Nat) : List (List Int) := (List.range gs.length).map fun i => if i < t then markRow (m + sumTo gs i) (gs.getD i []).length else gs.getD i []
theorem markTo_len (gs : List (List Int)) (m t : Nat) : (markTo gs m t).length = gs.length := by simp [markTo]
theorem markTo_at (gs : List (List Int)) (m t i : Nat) (hi : i < gs.length) : (markTo gs m t).getD i [] = if i < t then markRow (m + sumTo gs i) (gs.getD i []).length else gs.getD i [] := by
  unfold markTo; exact rangeMap_getD _ _ _ hi
theorem markTo_zero (gs : List (List Int)) (m : Nat) : markTo gs m 0 = gs := by
  refine List.ext_getElem (markTo_len _ _ _) fun i h1 h2 => ?_
  simp [markTo, List.getD, h2]
set_option maxHeartbeats 1000000 in
theorem markGame_any (U : Nat → Value) (v : Value) (gs : List (List Int)) (hs : sumTo gs gs.length ≤ 1048576) (hn : gs.length ≤ 1048576) (m : Nat) (hm : m ≤ 16777216) (B : Nat) (w : World) (h : OGU U B w v gs) :
    Calls Tryd.prog 64 #[v, .int .i64 (m : Int)] w fun e w' => e = .returned (.int .i64 ((m + sumTo gs gs.length : Nat) : Int)) ∧ OGU U B w' v (markTo gs m gs.length) ∧ Below B w w' ∧ ∀ top, (∀ i, i < gs.length → ∀ b, (U i).ownBlock = some b → b < top) → Amid B top w w' := by
  obtain ⟨A, c, rfl, _, hA⟩ := own_form h.outer
  have HA := Lib.hid hA
  clear hA
  have h0 : OGU U B w (.slice A gs.length c) (markTo gs m 0) := by rw [markTo_zero]; exact h
  have H0 := Lib.hid h0
  clear h0
  clear h
  go_enter Tryd.func64, Tryd.ntmps64
  go_wp2_with fail
  go_loopw [5, 1] (fun y k wr => ∃ i : Nat, y = .int .i64 i ∧ i ≤ gs.length ∧ k = .int .i64 ((m + sumTo gs i : Nat) : Int) ∧ Hid (OGU U B wr (.slice A gs.length c) (markTo gs m i)) ∧ Hid (Below B w wr) ∧ Hid (∀ top, (∀ i, i < gs.length → ∀ b, (U i).ownBlock = some b → b < top) → Amid B top w wr)) (fun y _ _ => gs.length - (intOf y).toNat)
  case atStart => exact ⟨0, rfl, by omega, by first | rfl | simp [sumTo], H0, Lib.hid (Below.refl _ _), Lib.hid (fun _ _ => Amid.refl _ _ _)⟩
  case round =>
    clear H0
    obtain ⟨i, rfl, hi, rfl, HO, HB, HAM⟩ := hrel
    by_cases hlt : i < gs.length
    · have T1 : decide ((i : Int) < (gs.length : Int)) = true := by simp; omega
      obtain ⟨g, rfl, hg1, hg2⟩ := HA.out (by omega)
      have i1 : (i : Int) < (gs.length : Int) := by omega
      have hi2 : i < (markTo gs m i).length := by rw [markTo_len]; exact hlt
      have hout := HO.out.outer
      rw [markTo_len] at hout
      have q1 : wr.cell? ⟨g, i, none⟩ = some (U i) := (hout.cellAt i (by omega)).trans (by simp [hlt])
      have HSZ := Lib.hid (Nat.le_trans hg1 (Nat.le_of_lt (hout.lt g rfl).2))
      have hrow := HO.out.rows i hi2
      rw [markTo_at gs m i i hlt, if_neg (Nat.lt_irrefl i)] at hrow
      have s1 : sumTo gs (i + 1) ≤ sumTo gs gs.length := sum_le (by omega)
      have s2 : sumTo gs (i + 1) = sumTo gs i + (gs.getD i []).length := rfl
      have s3 : (gs.getD i []).length ≤ 1048576 := by omega
      have s4 : m + sumTo gs i ≤ 1073741824 := by omega
      have S2 := Lib.hid s2
      have HR := Lib.hid hrow
      have hbl := hrow.lt
      have HBL := Lib.hid hbl
      obtain ⟨u, hu⟩ : ∃ u, u = U i := ⟨_, rfl⟩
      rw [← hu] at q1
      have HU := Lib.hid hu
      obtain ⟨sm, hsm⟩ : ∃ sm, sm = m + sumTo gs i := ⟨_, rfl⟩
      have HSM := Lib.hid hsm
      rw [← hsm] at s4 ⊢
      clear hrow hbl s1 s2 hu hsm hout
      go_wp2_with fail
      refine (markInt8S_any u (gs.getD i []) s3 sm s4 B _ (by rw [HU.out]; exact HR.out)).mono ?_
      rintro e w2 ⟨rfl, ho2, hgr⟩
      rw [HU.out] at ho2 hgr
      rw [HSM.out] at ho2
      have HO2 := Lib.hid (HO.out.turn (gs' := markTo gs m (i + 1)) i hi2 (by rw [markTo_len, markTo_len]) hgr
        (by rw [markTo_at gs m (i + 1) i hlt, if_pos (Nat.lt_succ_self i), markRow_len]; exact ho2)
        (by rw [markTo_at gs m (i + 1) i hlt, if_pos (Nat.lt_succ_self i)]; exact markRow_small _ _)
        (by
          intro j hj hne
          rw [markTo_len] at hj
          rw [markTo_at gs m (i + 1) j hj, markTo_at gs m i j hj]
          by_cases e : j < i
          · rw [if_pos e, if_pos (by omega)]
          · rw [if_neg e, if_neg (by omega)]))
      have HB2 := Lib.hid (HB.out.grown hgr HSZ.out (fun k hk => (HBL.out k hk).1))
      have HAM2 := Lib.hid (show ∀ top, (∀ i, i < gs.length → ∀ b, (U i).ownBlock = some b → b < top) → Amid B top w w2 from fun top ht => (HAM.out top ht).trans ⟨hgr.os, hgr.tape, hgr.output, hgr.size, fun x hx hn => hgr.block x hx (fun e => by
        have q1 := (HBL.out x e.symm).1
        have q2 := ht i hlt x e.symm
        omega)⟩)
      have hsum : ((sm + (gs.getD i []).length : Nat) : Int) = ((m + sumTo gs (i + 1) : Nat) : Int) := by rw [HSM.out, S2.out]; congr 1; omega
      rw [hsum]
      clear ho2 hgr HO HB HAM hsum
      go_wp2_with fail
      exact ⟨⟨i + 1, by first | rfl | go_num, by omega, rfl, HO2, HB2, HAM2⟩, by simp [intOf]; omega⟩
    · obtain rfl : i = gs.length := by omega
      have T1 : decide ((gs.length : Int) < (gs.length : Int)) = false := by simp
      go_wp2_with fail
      go_ret
      exact ⟨rfl, HO.out, HB.out, HAM.out⟩
set_option maxHeartbeats 1000000 in
theorem heldGame_any (v : Value) (gs : List (List Int)) (hs : sumTo gs gs.length ≤ 1048576) (hn : gs.length ≤ 1048576) (m : Nat) (hm : m ≤ 1048576) (B : Nat) (w : World) (h : GS B w v (markTo gs m gs.length)) :
    Calls Tryd.prog 65 #[v, .int .i64 (m : Int)] w fun e w' => e = .returned (.int .i64 ((m + sumTo gs gs.length : Nat) : Int)) ∧ w' = w := by
  obtain ⟨A, c, rfl, _, _, hc⟩ := h
  rw [markTo_len] at hc ⊢
  have HC := Lib.hid hc
  clear hc
  go_enter Tryd.func65, Tryd.ntmps65
  go_wp2_with fail
  go_loopw [5, 1] (fun y k wr => ∃ i : Nat, y = .int .i64 i ∧ i ≤ gs.length ∧ k = .int .i64 ((m + sumTo gs i : Nat) : Int) ∧ w = wr) (fun y _ _ => gs.length - (intOf y).toNat)
  case atStart => exact ⟨0, rfl, by omega, by first | rfl | simp [sumTo], rfl⟩
  case round =>
    obtain ⟨i, rfl, hi, rfl, rfl⟩ := hrel
    by_cases hlt : i < gs.length
    · have T1 : decide ((i : Int) < (gs.length : Int)) = true := by simp; omega
      obtain ⟨b, off, rfl, _, hlb, hcell⟩ := HC.out (by omega)
      have i1 : (i : Int) < (gs.length : Int) := by omega
      obtain ⟨u, q1, hu⟩ := hcell i hlt
      have HCL := Lib.hid hcell
      clear hcell
      rw [markTo_at gs m gs.length i hlt, if_pos hlt] at hu
      have s1 : sumTo gs (i + 1) ≤ sumTo gs gs.length := sum_le (by omega)
      have s2 : sumTo gs (i + 1) = sumTo gs i + (gs.getD i []).length := rfl
      have s3 : (gs.getD i []).length ≤ 1048576 := by omega
      have s4 : m + sumTo gs i ≤ 1073741824 := by omega
      have S2 := Lib.hid s2
      have HU := Lib.hid hu
      obtain ⟨sm, hsm⟩ : ∃ sm, sm = m + sumTo gs i := ⟨_, rfl⟩
      have HSM := Lib.hid hsm
      rw [← hsm] at s4 ⊢
      clear hu s1 s2 hsm
      go_wp2_with fail
      refine (heldInt8S_any u (gs.getD i []).length s3 sm s4 0 _ (by rw [HSM.out]; exact HU.out.low (Nat.zero_le _))).mono ?_
      rintro e w2 ⟨rfl, rfl⟩
      have hsum : ((sm + (gs.getD i []).length : Nat) : Int) = ((m + sumTo gs (i + 1) : Nat) : Int) := by rw [HSM.out, S2.out]; congr 1; omega
      rw [hsum]
      have T2 : decide (((m + sumTo gs (i + 1) : Nat) : Int) < 0) = false := by simp; omega
      clear hsum
      go_wp2_with fail
      exact ⟨⟨i + 1, by first | rfl | go_num, by omega, rfl, by simp⟩, by simp [intOf]; omega⟩
    · obtain rfl : i = gs.length := by omega
      have T1 : decide ((gs.length : Int) < (gs.length : Int)) = false := by simp
      go_wp2_with fail
      go_ret
      exact ⟨rfl, rfl⟩
end Go.Proofs.YtklddmmbbaaliaaDoor
