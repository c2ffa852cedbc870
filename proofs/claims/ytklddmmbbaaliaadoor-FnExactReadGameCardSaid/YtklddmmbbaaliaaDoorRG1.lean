/-
  Games read from their texts, pure: how much can be read at the most.
-/
import Derived.Test.YtklddmmbbaaliaaDoorRG0
import Derived.Test.YtklddmmbbaaliaaDoorOwnG
namespace Go.Proofs.YtklddmmbbaaliaaDoor
set_option linter.unusedVariables false
set_option linter.unusedSimpArgs false
open Go.ChangeShapes Go.WideShapes Go.ChangeAt Go.RowKit Go.Deep
theorem spl_sum (b : UInt8) : ∀ l, ((spl b l).map List.length).sum + (spl b l).length = l.length + 1 := by
  intro l
  induction l with
  | nil => rw [spl_nil]; rfl
  | cons c r ih =>
    by_cases e : c = b
    · rw [e, spl_eq]; simp only [List.map_cons, List.sum_cons, List.length_cons, List.length_nil]; omega
    · cases hr : spl b r with
      | nil => exact absurd hr (spl_length_pos b r)
      | cons y ys =>
        rw [spl_ne e hr]
        rw [hr] at ih
        simp only [List.map_cons, List.sum_cons, List.length_cons] at ih ⊢; omega
theorem spl_two (b : UInt8) (l : List UInt8) (h : [] ∉ spl b l) : 2 * (spl b l).length ≤ l.length + 1 := by
  have hs := spl_sum b l
  have key : ∀ ps : List (List UInt8), [] ∉ ps → ps.length ≤ (ps.map List.length).sum := by
    intro ps
    induction ps with
    | nil => intro _; simp
    | cons p r ih =>
      intro hp
      have h1 := ih (fun q => hp (List.mem_cons_of_mem _ q))
      have h2 : 1 ≤ p.length := by
        cases p with
        | nil => exact absurd (List.mem_cons_self ..) hp
        | cons _ _ => simp
      simp only [List.length_cons, List.map_cons, List.sum_cons]; omega
  have := key _ h
  omega
theorem par_sum : ∀ (ps : List (List UInt8)) (gs : List (List Int)), gs.length = ps.length → (∀ i, i < gs.length → 1 ≤ (ps.getD i []).length ∧ 2 * (gs.getD i []).length ≤ (ps.getD i []).length + 1) →
    (gs.map List.length).sum + gs.length ≤ (ps.map List.length).sum + ps.length ∧ ((gs.map List.length).sum + gs.length = (ps.map List.length).sum + ps.length → (ps.map List.length).sum = ps.length) := by
  intro ps
  induction ps with
  | nil =>
    intro gs hl _
    have : gs = [] := List.eq_nil_of_length_eq_zero (by simpa using hl)
    subst this; simp
  | cons p r ih =>
    intro gs hl h
    cases gs with
    | nil => simp at hl
    | cons z t =>
      have h0 := h 0 (by simp)
      have h1 := ih t (by simpa using hl) (fun i hi => by
        have := h (i + 1) (by simp; omega)
        simpa [List.getD] using this)
      simp only [List.getD_cons_zero] at h0
      simp only [List.map_cons, List.sum_cons, List.length_cons] at hl ⊢
      refine ⟨by omega, fun e => ?_⟩
      have := h1.2 (by omega)
      omega
theorem lens_sum (gs : List (List Int)) : ∀ i, i ≤ gs.length → lensTo gs i = gs.length + ((gs.take i).map List.length).sum := by
  intro i
  induction i with
  | zero => intro _; rfl
  | succ i ih =>
    intro h
    show lensTo gs i + (gs.getD i []).length = _
    rw [ih (by omega), List.take_succ_eq_append_getElem (show i < gs.length by omega)]
    have : gs.getD i [] = gs[i] := by simp [List.getD, show i < gs.length by omega]
    rw [this, List.map_append, List.sum_append]
    simp only [List.map_cons, List.map_nil, List.sum_cons, List.sum_nil]
    omega
theorem total_of_parts {l : List UInt8} {gs : List (List Int)} (hl : gs.length = (spl 32 l).length) (h : ∀ i, i < gs.length → 1 ≤ ((spl 32 l).getD i []).length ∧ 2 * (gs.getD i []).length ≤ ((spl 32 l).getD i []).length + 1) (hs : l.length ≤ 1048576) : total gs ≤ 1048576 := by
  obtain ⟨h1, h2⟩ := par_sum _ gs hl h
  have h3 := spl_sum 32 l
  have h4 : total gs = gs.length + (gs.map List.length).sum := by
    unfold total
    rw [lens_sum gs _ (Nat.le_refl _), List.take_length]
  omega
theorem SRow.room {p : List UInt8} {us : List Nat} (h : SRow p us) : 1 ≤ p.length ∧ 2 * us.length ≤ p.length + 1 := by
  rcases h with ⟨rfl, rfl⟩ | ⟨h1, h2, _⟩
  · simp
  · have hne : [] ∉ spl 44 p := by
      rw [h2]
      intro q
      obtain ⟨u, _, e⟩ := List.mem_map.1 q
      exact (dd_digits u).2.2.1 e
    have h3 := spl_two 44 p hne
    rw [h2, List.length_map] at h3
    refine ⟨?_, h3⟩
    cases p with
    | nil => rw [spl_nil] at hne; simp at hne
    | cons _ _ => simp
theorem infoI8 : (Tryd.prog.info? 57).map (fun i => (i.zero, i.size, i.bytes)) = some (some (.int .i8 0), 1, 1) := by kernel_rfl
theorem uI_small60 {us : List Nat} (h : ∀ u ∈ us, u < 60) : ∀ z ∈ uI us, -128 ≤ z ∧ z < 128 := by
  intro z hz
  unfold uI at hz
  obtain ⟨u, hu, rfl⟩ := List.mem_map.1 hz
  have := h u hu
  omega
/-- a row has come to its end: it is appended to the game -/
theorem row_done {B M : Nat} {U : Nat → Value} {wo wx wy : World} {v v' u : Value} {gs : List (List Int)} {zs : List Int} (HO : OGU U B wo v gs) (hM : M = wo.heap.size) (hBM : B ≤ M) (hb : Below M wo wx)
    (hrow : wx.ownsRow M 57 1 u zs.length (i8s zs)) (hsm : ∀ z ∈ zs, -128 ≤ z ∧ z < 128) (hgrow : (wx.alloc (.cells #[u] 124)).grownBy wy v.ownBlock)
    (hown : wy.ownsRow B 124 1 v' (gs.length + 1) ((List.range gs.length).map U ++ [u])) : ∃ U', OGU U' B wy v' (gs ++ [zs]) := by
  have hb' : Below wo.heap.size wo wx := by rw [← hM]; exact hb
  have h1 : Below wo.heap.size wo (wx.alloc (.cells #[u] 124)) := hb'.alloc hb'.size _
  have hal : Below wx.heap.size wx (wx.alloc (.cells #[u] 124)) := (Below.refl _ _).alloc (Nat.le_refl _) _
  refine ⟨_, (HO.below h1).snoc hgrow hown (own_below hrow hal) hBM hsm (fun i hi b hb => ?_)⟩
  rw [hM]
  exact HO.lows i hi b hb
end Go.Proofs.YtklddmmbbaaliaaDoor
