/-
  Products by exclusion, pure: the recursion that both sides reckon.
-/
import Derived.Test.YtklddmmbbaaliaaExc
import Derived.Maps.OwnRows
import Derived.Maps.Views
namespace Go.Proofs.Ytklddmmbbaaliaa
set_option linter.unusedVariables false
set_option linter.unusedSimpArgs false
open Go.ChangeShapes Go.WideShapes Go.ChangeAt Go.RowKit
theorem least_ex (p : Nat → Prop) : ∀ n, p n → ∃ m, p m ∧ ∀ j, j < m → ¬ p j := by
  intro n
  induction n using Nat.strongRecOn with
  | ind n ih =>
    intro hn
    rcases Classical.em (∃ j, j < n ∧ p j) with ⟨j, hj, hp⟩ | h
    · exact ih j hj hp
    · exact ⟨n, hn, fun j hj hp => h ⟨j, hj, hp⟩⟩
theorem mexP_ex (zs : List Int) : ∃ m, mexP zs m := by
  obtain ⟨j, _, hj⟩ := mex_ex zs
  rw [seenF_all] at hj
  obtain ⟨m, h1, h2⟩ := least_ex (fun j => ((j : Nat) : Int) ∉ zs) j (of_decide_eq_false hj)
  exact ⟨m, fun j hj => Classical.not_not.1 (h2 j hj), h1⟩
noncomputable def mexOf (zs : List Int) : Nat := Classical.choose (mexP_ex zs)
theorem mexOf_spec (zs : List Int) : mexP zs (mexOf zs) := Classical.choose_spec (mexP_ex zs)
theorem mexOf_le (zs : List Int) : mexOf zs ≤ zs.length := pig _ zs (mexOf_spec zs).1
def exN (F : Nat → Nat → Nat) (i k x y : Nat) : Nat := F x k ^^^ F i y ^^^ F x y
def exL (F : Nat → Nat → Nat) (i k n : Nat) : List Int := (List.range n).map fun t => ((exN F i k (t / k) (t % k) : Nat) : Int)
theorem exL_len (F : Nat → Nat → Nat) (i k n : Nat) : (exL F i k n).length = n := by simp [exL]
theorem exL_snoc (F : Nat → Nat → Nat) (i k n : Nat) : exL F i k (n + 1) = exL F i k n ++ [((exN F i k (n / k) (n % k) : Nat) : Int)] := by
  unfold exL; rw [List.range_succ, List.map_append]; rfl
theorem exL_at (F : Nat → Nat → Nat) (i k n t : Nat) (h : t < n) : (exL F i k n).getD t 0 = ((exN F i k (t / k) (t % k) : Nat) : Int) := by
  simp [exL, List.getD, h]
theorem pos_div {x y k : Nat} (h : y < k) : (x * k + y) / k = x ∧ (x * k + y) % k = y := by
  have hk : 0 < k := by omega
  constructor
  · rw [Nat.mul_comm, Nat.mul_add_div hk, Nat.div_eq_of_lt h]; omega
  · rw [Nat.mul_comm, Nat.mul_add_mod, Nat.mod_eq_of_lt h]
theorem exL_congr (F G : Nat → Nat → Nat) (i k : Nat) (h : ∀ x y, x + y < i + k → F x y = G x y) : exL F i k (i * k) = exL G i k (i * k) := by
  unfold exL
  apply List.map_congr_left
  intro t ht
  have ht := List.mem_range.1 ht
  have hk : 0 < k := by
    rcases Nat.eq_zero_or_pos k with e | e
    · rw [e] at ht; simp at ht
    · exact e
  have h1 : t / k < i := Nat.div_lt_of_lt_mul (by rw [Nat.mul_comm]; exact ht)
  have h2 := Nat.mod_lt t hk
  unfold exN
  rw [h _ _ (by omega), h _ _ (by omega), h _ _ (by omega)]
noncomputable def Tf : Nat → Nat → Nat → Nat
  | 0, _, _ => 0
  | n + 1, i, k => mexOf (exL (Tf n) i k (i * k))
theorem Tf_eq : ∀ n m i k, i + k < n → i + k < m → Tf n i k = Tf m i k := by
  intro n
  induction n with
  | zero => intro m i k h; omega
  | succ n ih =>
    intro m i k h1 h2
    cases m with
    | zero => omega
    | succ m =>
      show mexOf _ = mexOf _
      rw [exL_congr (Tf n) (Tf m) i k (fun x y hxy => ih m x y (by omega) (by omega))]
noncomputable def TT (i k : Nat) : Nat := Tf (i + k + 1) i k
theorem TT_eq (i k : Nat) : TT i k = mexOf (exL TT i k (i * k)) := by
  show mexOf _ = mexOf _
  rw [exL_congr (Tf (i + k)) TT i k (fun x y hxy => Tf_eq _ _ _ _ (by omega) (by omega))]
theorem TT_mex (i k : Nat) : mexP (exL TT i k (i * k)) (TT i k) := by rw [TT_eq]; exact mexOf_spec _
theorem TT_le (i k : Nat) : TT i k ≤ i * k := by
  have := mexOf_le (exL TT i k (i * k))
  rw [exL_len, ← TT_eq] at this
  exact this
theorem TT_lt {i k : Nat} (h1 : i < 32) (h2 : k < 32) : TT i k < 1024 := by
  have := TT_le i k
  have h3 : i * k ≤ 31 * 31 := Nat.mul_le_mul (by omega) (by omega)
  omega
theorem exN_lt {i k x y : Nat} (h1 : i < 32) (h2 : k < 32) (h3 : x < 32) (h4 : y < 32) : exN TT i k x y < 1024 := by
  have e : (1024 : Nat) = 2 ^ 10 := rfl
  unfold exN
  rw [e]
  exact Nat.xor_lt_two_pow (Nat.xor_lt_two_pow (by rw [← e]; exact TT_lt h3 h2) (by rw [← e]; exact TT_lt h1 h4)) (by rw [← e]; exact TT_lt h3 h4)
noncomputable def rowT (i n : Nat) : List Int := (List.range n).map fun y => ((TT i y : Nat) : Int)
theorem rowT_len (i n : Nat) : (rowT i n).length = n := by simp [rowT]
theorem rowT_snoc (i n : Nat) : rowT i (n + 1) = rowT i n ++ [((TT i n : Nat) : Int)] := by
  unfold rowT; rw [List.range_succ, List.map_append]; rfl
theorem rowT_at (i n y : Nat) (h : y < n) : (rowT i n).getD y 0 = ((TT i y : Nat) : Int) := by simp [rowT, List.getD, h]
noncomputable def DD (x n : Nat) : DataW Unit := if n = 0 then .nil else .slice (lits .u16 (rowT x n)) []
theorem DD_row {w : World} {base : Nat} {e : TypeId} {v : Value} {zs : List Int} {x n : Nat} (hoi : w.ownsInts base e .u16 v zs) (h : DD x n = rowDatum .u16 v zs) : zs = rowT x n := by
  unfold DD at h
  by_cases hn : n = 0
  · subst hn
    rw [if_pos rfl] at h
    rcases hoi.datum (H := Unit) with ⟨_, h2⟩ | h2
    · rw [h2]; rfl
    · rw [h2] at h; cases h
  · rw [if_neg hn] at h
    rcases hoi.datum (H := Unit) with ⟨h1, h2⟩ | h2
    · rw [h1] at h; cases h
    · rw [h2] at h
      injection h with h3
      unfold lits at h3
      exact ((List.map_inj_right (fun a b hab => by cases hab; rfl)).1 h3).symm
/-- the map as read: the row of x has f x products -/
def MD (D : DataW Unit) (f : Nat → Nat) : Prop := Maps.IsMap D ∧ ∀ x : Nat, D.atKey (.int .u16 (x : Int)) .nil = DD x (f x)
theorem MD_zero : MD (.map []) (fun _ => 0) := ⟨Maps.isMap_empty, fun x => rfl⟩
theorem MD_put {D : DataW Unit} {f g : Nat → Nat} (h : MD D f) (i : Nat) (hi : g i = f i + 1) (ho : ∀ x, x ≠ i → g x = f x) : MD (D.put (.int .u16 (i : Int)) (.slice (lits .u16 (rowT i (f i + 1))) [])) g := by
  refine ⟨h.1.put _ _, fun x => ?_⟩
  by_cases e : x = i
  · subst e
    rw [Maps.atKey_put_same h.1 (by trivial), hi]
    unfold DD
    rw [if_neg (by omega)]
  · rw [Maps.atKey_put_other (fun q => e (by injection q with q1 q2; exact Int.ofNat.inj q2)), h.2 x, ho x e]
def fl (b1 i m : Nat) (x : Nat) : Nat := if x < i then b1 else if x = i then m else 0
theorem fl_low {b1 i m x : Nat} (h : x < i) : fl b1 i m x = b1 := by unfold fl; rw [if_pos h]
theorem fl_at (b1 i m : Nat) : fl b1 i m i = m := by unfold fl; simp
theorem fl_next (b1 i : Nat) : fl b1 i b1 = fl b1 (i + 1) 0 := by
  funext x
  unfold fl
  by_cases h1 : x < i
  · rw [if_pos h1, if_pos (by omega)]
  · rw [if_neg h1]
    by_cases h2 : x = i
    · rw [if_pos h2, if_pos (by omega)]
    · rw [if_neg h2, if_neg (by omega)]; simp
theorem fl_zero (b1 : Nat) : fl b1 0 0 = fun _ => 0 := by funext x; unfold fl; simp
theorem fl_step {D : DataW Unit} {b1 i m : Nat} (h : MD D (fl b1 i m)) : MD (D.put (.int .u16 (i : Int)) (.slice (lits .u16 (rowT i (m + 1))) [])) (fl b1 i (m + 1)) := by
  have := MD_put (g := fl b1 i (m + 1)) h i (by rw [fl_at, fl_at]) (fun x hx => by unfold fl; simp [hx])
  rw [fl_at] at this
  exact this
/-- the specification's table -/
def UL (f : Nat → Nat → Nat) : List Value := (List.range 1024).map fun t => .int .u16 ((f (t / 32) (t % 32) : Nat) : Int)
theorem UL_len (f : Nat → Nat → Nat) : (UL f).length = 1024 := by simp [UL]
theorem UL_at (f : Nat → Nat → Nat) (x y : Nat) (h1 : x < 32) (h2 : y < 32) : (UL f)[x * 32 + y]? = some (.int .u16 ((f x y : Nat) : Int)) := by
  have h := pos_div (x := x) h2
  unfold UL
  rw [List.getElem?_map, List.getElem?_range (by omega)]
  show some (Value.int .u16 ((f ((x * 32 + y) / 32) ((x * 32 + y) % 32) : Nat) : Int)) = _
  rw [h.1, h.2]
def upd2 (f : Nat → Nat → Nat) (i k u : Nat) : Nat → Nat → Nat := fun x y => if x = i ∧ y = k then u else f x y
theorem UL_set (f : Nat → Nat → Nat) (i k u : Nat) (h1 : i < 32) (h2 : k < 32) : (UL f).set (i * 32 + k) (.int .u16 ((u : Nat) : Int)) = UL (upd2 f i k u) := by
  apply List.ext_getElem?
  intro t
  rw [List.getElem?_set]
  by_cases ht : t < 1024
  · have e : t = t / 32 * 32 + t % 32 := by omega
    have g1 : t / 32 < 32 := by omega
    have g2 : t % 32 < 32 := by omega
    have hA := UL_at (upd2 f i k u) (t / 32) (t % 32) g1 g2
    have hB := UL_at f (t / 32) (t % 32) g1 g2
    rw [← e] at hA hB
    rw [hA, hB, UL_len]
    by_cases q : i * 32 + k = t
    · have e1 : t / 32 = i := by omega
      have e2 : t % 32 = k := by omega
      rw [if_pos q, if_pos (by omega), e1, e2]
      simp [upd2]
    · rw [if_neg q]
      have : ¬ (t / 32 = i ∧ t % 32 = k) := by rintro ⟨a, b⟩; omega
      unfold upd2
      rw [if_neg this]
  · have hA : (UL (upd2 f i k u))[t]? = none := List.getElem?_eq_none (by rw [UL_len]; omega)
    have hB : (UL f)[t]? = none := List.getElem?_eq_none (by rw [UL_len]; omega)
    rw [hA, hB, if_neg (by omega)]
/-- what the table holds ahead of the place i, k -/
def TB (f : Nat → Nat → Nat) (b1 i k : Nat) : Prop := (∀ x y, x < i → y < b1 → f x y = TT x y) ∧ (∀ y, y < k → f i y = TT i y) ∧ (∀ y, k < y → f i y = 0) ∧ (∀ x y, i < x → f x y = 0)
theorem upd2_ne (f : Nat → Nat → Nat) {i k u x y : Nat} (h : ¬ (x = i ∧ y = k)) : upd2 f i k u x y = f x y := by unfold upd2; rw [if_neg h]
theorem upd2_at (f : Nat → Nat → Nat) (i k u : Nat) : upd2 f i k u i k = u := by simp [upd2]
theorem TB_upd {f : Nat → Nat → Nat} {b1 i k : Nat} (h : TB f b1 i k) (u : Nat) : TB (upd2 f i k u) b1 i k := by
  refine ⟨fun x y h1 h2 => ?_, fun y h1 => ?_, fun y h1 => ?_, fun x y h1 => ?_⟩
  · rw [upd2_ne f (by omega)]; exact h.1 x y h1 h2
  · rw [upd2_ne f (by omega)]; exact h.2.1 y h1
  · rw [upd2_ne f (by omega)]; exact h.2.2.1 y h1
  · rw [upd2_ne f (by omega)]; exact h.2.2.2 x y h1
theorem TB_col {f : Nat → Nat → Nat} {b1 i k : Nat} (h : TB f b1 i k) (hk : f i k = TT i k) : TB f b1 i (k + 1) :=
  ⟨h.1, fun y hy => by
    by_cases e : y = k
    · rw [e]; exact hk
    · exact h.2.1 y (by omega), fun y hy => h.2.2.1 y (by omega), h.2.2.2⟩
theorem TB_zero (b1 : Nat) : TB (fun _ _ => 0) b1 0 0 := ⟨fun x y h => by omega, fun y h => by omega, fun _ _ => rfl, fun _ _ _ => rfl⟩
theorem TB_row {f : Nat → Nat → Nat} {b1 i : Nat} (h : TB f b1 i b1) : TB f b1 (i + 1) 0 ∧ f (i + 1) 0 = 0 :=
  ⟨⟨fun x y h1 h2 => by
    by_cases e : x = i
    · rw [e]; exact h.2.1 y h2
    · exact h.1 x y (by omega) h2, fun y h1 => by omega, fun y _ => h.2.2.2 _ y (by omega), fun x y h1 => h.2.2.2 x y (by omega)⟩, h.2.2.2 _ 0 (by omega)⟩
theorem TB_get {f : Nat → Nat → Nat} {b1 i k x y : Nat} (h : TB f b1 i k) (hk : k < b1) (hx : x < i) (hy : y < k) : f x k ^^^ f i y ^^^ f x y = exN TT i k x y := by
  unfold exN
  rw [h.1 x k hx hk, h.2.1 y hy, h.1 x y hx (by omega)]
end Go.Proofs.Ytklddmmbbaaliaa
