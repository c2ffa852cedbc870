/-
  Games read from their texts, pure: rows and numbers, and what their texts fall into.
-/
import Derived.Test.YtklddmmbbaaliaaDoorGTxt
import Derived.Test.YtklddmmbbaaliaaDoorReads
import Derived.Lib.ParseIntBCases
namespace Go.Proofs.YtklddmmbbaaliaaDoor
set_option linter.unusedVariables false
set_option linter.unusedSimpArgs false
open Go.ChangeShapes Go.WideShapes Go.ChangeAt Go.RowKit
theorem spl_snoc (b : UInt8) (m : List UInt8) (hm : b ∉ m) : ∀ l, spl b (l ++ b :: m) = spl b l ++ [m] := by
  intro l
  induction l with
  | nil => rw [List.nil_append, spl_eq, spl_miss b m hm, spl_nil]; rfl
  | cons c r ih =>
    rw [List.cons_append]
    by_cases e : c = b
    · rw [e, spl_eq, spl_eq, ih]; rfl
    · cases hr : spl b r with
      | nil => exact absurd hr (spl_length_pos b r)
      | cons y ys =>
        rw [hr] at ih
        rw [spl_ne e ih, spl_ne e hr]; rfl
theorem spl_jt (b : UInt8) (T : Nat → List UInt8) : ∀ k, (∀ i, i < k + 1 → b ∉ T i) → spl b (jt b T (k + 1)) = (List.range (k + 1)).map T := by
  intro k
  induction k with
  | zero => intro h; rw [jt_one, spl_miss b _ (h 0 (by omega))]; rfl
  | succ k ih =>
    intro h
    rw [jt_step b T (k + 1) (by omega), List.append_assoc, List.singleton_append, spl_snoc b _ (h (k + 1) (by omega)), ih (fun i hi => h i (by omega)), List.range_succ (n := k + 1), List.map_append]; rfl
theorem join_spl (b : UInt8) : ∀ l, Lib.join (spl b l) [b] = l := by
  intro l
  induction l with
  | nil => rw [spl_nil, Lib.join_one]
  | cons c r ih =>
    cases hr : spl b r with
    | nil => exact absurd hr (spl_length_pos b r)
    | cons y ys =>
      rw [hr] at ih
      by_cases e : c = b
      · rw [e, spl_eq, hr, Lib.join_cons]
        rw [Lib.join_cons] at ih
        show [] ++ ([b] ++ y ++ Lib.joinTail [b] ys) = _
        simp only [List.nil_append, List.singleton_append, List.cons_append, ih]
      · rw [spl_ne e hr, Lib.join_cons]
        rw [Lib.join_cons] at ih
        rw [List.cons_append, ih]
theorem getD_range {α : Type} (d : α) : ∀ l : List α, (List.range l.length).map (fun i => l.getD i d) = l := by
  intro l
  refine List.ext_getElem (by simp) fun i h1 h2 => ?_
  simp [List.getD, h2]
theorem jt_of_spl (b : UInt8) (l : List UInt8) : jt b (fun i => (spl b l).getD i []) (spl b l).length = l := by
  unfold jt
  rw [getD_range, join_spl]
theorem jt_congr (b : UInt8) (T S : Nat → List UInt8) (k : Nat) (h : ∀ i, i < k → T i = S i) : jt b T k = jt b S k := by
  unfold jt
  rw [List.map_congr_left (fun i hi => h i (List.mem_range.1 hi))]
theorem dd_no (u : Nat) (b : UInt8) (hb : ¬ (48 ≤ b.toNat ∧ b.toNat ≤ 57)) : b ∉ Lib.decDigits u := fun q => hb ((dd_digits u).1 b q)
theorem dd_inj {a b : Nat} (h : Lib.decDigits a = Lib.decDigits b) : a = b := nimT_inj (by unfold nimT; rw [h])
theorem dd_ne45 (u : Nat) (r : List UInt8) : Lib.decDigits u ++ r ≠ [45] := by
  obtain ⟨h1, _, h3, _⟩ := dd_digits u
  cases hd : Lib.decDigits u with
  | nil => exact absurd hd h3
  | cons c t =>
    intro q
    rw [hd] at h1
    have hc := h1 c (List.mem_cons_self ..)
    have : c = 45 := by simpa using congrArg (fun l : List UInt8 => l.headD 0) q
    rw [this] at hc
    exact absurd hc (by decide)
/-- a row as the specification reads it -/
def SRow (p : List UInt8) (us : List Nat) : Prop := (p = [45] ∧ us = []) ∨ (p ≠ [45] ∧ spl 44 p = us.map Lib.decDigits ∧ ∀ u ∈ us, u < 60)
theorem SRow.inj {p : List UInt8} {us vs : List Nat} (h : SRow p us) (h' : SRow p vs) : us = vs := by
  rcases h with ⟨h1, h2⟩ | ⟨h1, h2, _⟩ <;> rcases h' with ⟨h3, h4⟩ | ⟨h3, h4, _⟩
  · rw [h2, h4]
  · exact absurd h1 h3
  · exact absurd h3 h1
  · rw [h2] at h4
    have key : ∀ us vs : List Nat, us.map Lib.decDigits = vs.map Lib.decDigits → us = vs := by
      intro us
      induction us with
      | nil => intro vs h; cases vs with
        | nil => rfl
        | cons _ _ => simp at h
      | cons a r ih => intro vs h; cases vs with
        | nil => simp at h
        | cons b t =>
          simp only [List.map_cons, List.cons.injEq] at h
          rw [dd_inj h.1, ih t h.2]
    exact key us vs h4
theorem uI_at (us : List Nat) (i : Nat) : ((uI us).getD i 0).toNat = us.getD i 0 := by
  unfold uI
  simp only [List.getD, List.getElem?_map]
  cases us[i]? <;> simp
/-- the text of what has been read -/
theorem SRow.text {p : List UInt8} {us : List Nat} (h : SRow p us) : mvT (uI us) = p := by
  rcases h with ⟨h1, h2⟩ | ⟨h1, h2, _⟩
  · rw [h1, h2]; rfl
  · have hne : us ≠ [] := by
      intro q
      rw [q] at h2
      exact spl_length_pos 44 p h2
    unfold mvT
    rw [if_neg (by intro q; apply hne; unfold uI at q; simpa using q)]
    have e := jt_of_spl 44 p
    have hl : (spl 44 p).length = (uI us).length := by rw [h2, uI_len]; simp
    rw [← e, hl]
    refine jt_congr 44 _ _ _ (fun i hi => ?_)
    unfold nT
    rw [uI_at, h2]
    rw [uI_len] at hi
    simp [List.getD, List.getElem?_map, hi]
theorem small_row {zs : List Int} (h : ∀ z ∈ zs, 0 ≤ z ∧ z < 60) : ∃ us, zs = uI us ∧ ∀ u ∈ us, u < 60 := by
  refine ⟨zs.map Int.toNat, ?_, fun u hu => ?_⟩
  · unfold uI
    rw [List.map_map]
    refine (List.map_id zs).symm.trans (List.map_congr_left fun z hz => ?_)
    have := h z hz
    show z = ((z.toNat : Nat) : Int)
    omega
  · obtain ⟨z, hz, rfl⟩ := List.mem_map.1 hu
    have := h z hz
    omega
/-- the text of a row is read as the row -/
theorem row_srow {us : List Nat} (h : ∀ u ∈ us, u < 60) : SRow (mvT (uI us)) us ∧ 32 ∉ mvT (uI us) := by
  cases us with
  | nil => exact ⟨.inl ⟨rfl, rfl⟩, by show (32 : UInt8) ∉ [45]; decide⟩
  | cons a r =>
    have hm : mvT (uI (a :: r)) = jt 44 (nT (uI (a :: r))) (r.length + 1) := by
      unfold mvT
      rw [if_neg (by simp [uI]), uI_len]; rfl
    have hT : ∀ i, nT (uI (a :: r)) i = Lib.decDigits ((a :: r).getD i 0) := fun i => by unfold nT; rw [uI_at]
    have hs : spl 44 (mvT (uI (a :: r))) = (a :: r).map Lib.decDigits := by
      rw [hm, spl_jt 44 _ r.length (fun i hi => by rw [hT]; exact dd_no _ _ (by decide))]
      refine List.ext_getElem (by simp) fun i h1 h2 => ?_
      have hi : i < (a :: r).length := by simpa using h2
      rw [List.getElem_map, List.getElem_range, List.getElem_map, hT]
      simp only [List.getD, List.getElem?_eq_getElem hi, Option.getD_some]
    refine ⟨.inr ⟨?_, hs, h⟩, ?_⟩
    · intro q
      rw [q] at hs
      have : spl 44 [45] = [[45]] := by decide +kernel
      rw [this] at hs
      simp only [List.map_cons] at hs
      have e := (List.cons.inj hs).1
      exact dd_ne45 a [] (by rw [List.append_nil, ← e])
    · rw [hm]
      have key : ∀ k, (∀ i, i < k → (32 : UInt8) ∉ nT (uI (a :: r)) i) → (32 : UInt8) ∉ jt 44 (nT (uI (a :: r))) k := by
        intro k
        induction k with
        | zero => intro _; rw [jt_zero]; simp
        | succ k ih =>
          intro h
          by_cases h0 : k = 0
          · subst h0; rw [jt_one]; exact h 0 (by omega)
          · rw [jt_step 44 _ k (by omega)]
            intro q
            simp only [List.mem_append, List.mem_singleton] at q
            rcases q with (q | q) | q
            · exact ih (fun i hi => h i (by omega)) q
            · exact absurd q (by decide)
            · exact h k (by omega) q
      exact key _ (fun i _ => by rw [hT]; exact dd_no _ _ (by decide))
/-- the text of a game -/
def gl (gs : List (List Int)) : List UInt8 := jt 32 (plT gs) gs.length
/-- the game gs is valid, and has the text l -/
def GTX (l : List UInt8) (gs : List (List Int)) : Prop := validB gs = true ∧ gl gs = l
theorem gtx_gl {gs : List (List Int)} (h : validB gs = true) : gtx gs = gl gs := by unfold gtx gl; rw [if_pos h]
theorem row_in {i : Nat} (hi : i ≤ 60) {zs : List Int} (h : rowOk i zs) : ∀ z ∈ zs, 0 ≤ z ∧ z < 60 := by
  have key : ∀ j, j ≤ zs.length → (0 < j → 0 ≤ zs.getD (j - 1) 0) ∧ -1 ≤ lastOf zs j := by
    intro j
    induction j with
    | zero => intro _; exact ⟨fun h => absurd h (by omega), by show (-1 : Int) ≤ -1; omega⟩
    | succ j ih =>
      intro hj
      have h1 := (ih (by omega)).2
      have h2 := (h j (by omega)).1
      refine ⟨fun _ => ?_, ?_⟩
      · rw [Nat.add_sub_cancel]; omega
      · show -1 ≤ zs.getD j 0; omega
  intro z hz
  obtain ⟨j, hj, rfl⟩ := List.getElem_of_mem hz
  have e : zs.getD j 0 = zs[j] := by simp [List.getD, hj]
  have h1 := (key (j + 1) (by omega)).1 (by omega)
  have h2 := (h j hj).2
  rw [Nat.add_sub_cancel, e] at h1
  rw [e] at h2
  exact ⟨h1, by omega⟩
theorem valid_parts {gs : List (List Int)} (h : validB gs = true) : 1 ≤ gs.length ∧ gs.length ≤ 60 ∧ ∀ i, i < gs.length → rowOk i (gs.getD i []) := by
  have hv : validP gs := of_decide_eq_true h
  exact ⟨hv.1.1, hv.1.2, hv.2⟩
/-- the parts of a valid game's text are read as its rows -/
theorem gtx_rows {l : List UInt8} {gs : List (List Int)} (h : GTX l gs) : (spl 32 l).length = gs.length ∧ ∀ i, i < gs.length → ∃ us, gs.getD i [] = uI us ∧ SRow ((spl 32 l).getD i []) us := by
  obtain ⟨hv, rfl⟩ := h
  obtain ⟨h1, h2, h3⟩ := valid_parts hv
  have hrow : ∀ i, i < gs.length → ∃ us, gs.getD i [] = uI us ∧ (∀ u ∈ us, u < 60) := fun i hi => small_row (row_in (by omega) (h3 i hi))
  have hs : spl 32 (gl gs) = (List.range gs.length).map (plT gs) := by
    obtain ⟨k, hk⟩ : ∃ k, gs.length = k + 1 := ⟨gs.length - 1, by omega⟩
    unfold gl
    rw [hk, spl_jt 32 _ k (fun i hi => ?_)]
    obtain ⟨us, e, hu⟩ := hrow i (by omega)
    unfold plT
    rw [e]
    exact (row_srow hu).2
  rw [hs]
  refine ⟨by simp, fun i hi => ?_⟩
  obtain ⟨us, e, hu⟩ := hrow i hi
  refine ⟨us, e, ?_⟩
  have : ((List.range gs.length).map (plT gs)).getD i [] = plT gs i := by simp [List.getD, List.getElem?_map, List.getElem?_range hi]
  rw [this]
  unfold plT
  rw [e]
  exact (row_srow hu).1
/-- what has been read, row by row, has the text -/
theorem rows_gtx {l : List UInt8} {uss : List (List Nat)} (hl : uss.length = (spl 32 l).length) (h : ∀ i, i < uss.length → SRow ((spl 32 l).getD i []) (uss.getD i [])) (hv : validB (uss.map uI) = true) : GTX l (uss.map uI) := by
  refine ⟨hv, ?_⟩
  have e := jt_of_spl 32 l
  unfold gl
  rw [List.length_map, hl]
  refine (jt_congr 32 _ _ _ (fun i hi => ?_)).trans e
  unfold plT
  have hu : i < uss.length := by omega
  have e2 : (uss.map uI).getD i [] = uI (uss.getD i []) := by simp [List.getD, List.getElem?_map, hu]
  rw [e2]
  exact (h i hu).text
theorem gtx_of_rows {l : List UInt8} {uss : List (List Nat)} {gs : List (List Int)} (hl : uss.length = (spl 32 l).length) (h : ∀ i, i < uss.length → SRow ((spl 32 l).getD i []) (uss.getD i [])) (hg : GTX l gs) : gs = uss.map uI := by
  obtain ⟨h1, h2⟩ := gtx_rows hg
  refine List.ext_getElem (by simp; omega) fun i q1 q2 => ?_
  obtain ⟨us, e, hs⟩ := h2 i q1
  have hu : i < uss.length := by omega
  have e1 : gs.getD i [] = gs[i] := by simp [List.getD, q1]
  have e2 : uss.getD i [] = uss[i] := by simp [List.getD, hu]
  rw [List.getElem_map, ← e1, e, hs.inj (h i hu), e2]
end Go.Proofs.YtklddmmbbaaliaaDoor
