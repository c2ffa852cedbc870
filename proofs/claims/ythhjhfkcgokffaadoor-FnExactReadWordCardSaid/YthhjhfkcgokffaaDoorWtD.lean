/-
  The texts of words: of the model and of the program; WordText, ReadWord.
-/
import Derived.Test.YthhjhfkcgokffaaDoorWoD
import Derived.Test.YthhjhfkcgokffaaDoorReads
namespace Go.Proofs.YthhjhfkcgokffaaDoor
set_option linter.unusedVariables false
set_option linter.unusedSimpArgs false
open Go.ChangeShapes Go.WideShapes Go.ChangeAt Go.RowKit

def inU (zs : List Int) : Prop := ∀ z ∈ zs, 0 ≤ z ∧ z < 65536
theorem inU.at {zs : List Int} (h : inU zs) (i : Nat) : 0 ≤ zs.getD i 0 ∧ zs.getD i 0 < 65536 := by
  by_cases hi : i < zs.length
  · have := h zs[i] (List.getElem_mem hi)
    simp [List.getD, hi]; exact this
  · simp [List.getD, Nat.not_lt.1 hi]
theorem join_spl (b : UInt8) : ∀ l, Lib.join (spl b l) [b] = l := by
  intro l
  induction l with
  | nil => rw [spl_nil, Lib.join_one]
  | cons c r ih =>
    cases hr : spl b r with
    | nil => exact absurd hr (spl_length_pos b r)
    | cons y ys =>
      rw [hr] at ih
      by_cases e : c = b
      · rw [e, spl_eq, hr, Lib.join_cons]
        rw [Lib.join_cons] at ih
        show [] ++ ([b] ++ y ++ Lib.joinTail [b] ys) = _
        simp only [List.nil_append, List.singleton_append, List.cons_append, ih]
      · rw [spl_ne e hr, Lib.join_cons]
        rw [Lib.join_cons] at ih
        rw [List.cons_append, ih]
theorem spl_le (b : UInt8) : ∀ l : List UInt8, (spl b l).length ≤ l.length + 1 := by
  intro l
  induction l with
  | nil => rw [spl_nil]; simp
  | cons c r ih =>
    by_cases e : c = b
    · rw [e, spl_eq, List.length_cons, List.length_cons]; omega
    · cases hr : spl b r with
      | nil => exact absurd hr (spl_length_pos b r)
      | cons y ys =>
        rw [spl_ne e hr]
        rw [hr] at ih
        simp only [List.length_cons] at ih ⊢; omega
theorem spl_full (b : UInt8) (l : List UInt8) (h : [] ∉ spl b l) : (spl b l).length ≤ l.length := by
  cases l with
  | nil => exact absurd (by rw [spl_nil]; simp) h
  | cons c r =>
    by_cases e : c = b
    · rw [e, spl_eq] at h
      exact absurd (by simp) h
    · cases hr : spl b r with
      | nil => exact absurd hr (spl_length_pos b r)
      | cons y ys =>
        have := spl_le b r
        rw [hr] at this
        rw [spl_ne e hr]
        simp only [List.length_cons] at this ⊢; omega
theorem rl_len {s : ByteArray} {us : List Nat} (hs : s.size ≤ 1048576) (h : RL s.data.toList us) : us.length ≤ 1048576 := by
  rcases h with h | h
  · rw [h.2]; simp
  · have h2 := h.2.1
    have : ([] : List UInt8) ∉ spl 32 s.data.toList := by
      rw [h2]
      intro q
      obtain ⟨u, _, hu⟩ := List.mem_map.1 q
      simp [nimT] at hu
    have h3 := spl_full 32 _ this
    rw [h2, List.length_map, Array.length_toList] at h3
    exact Nat.le_trans h3 hs
theorem uI_small2 (us : List Nat) (h : ∀ u ∈ us, u < 65536) : inU (uI us) := by
  intro z hz
  unfold uI at hz
  obtain ⟨u, hu, rfl⟩ := List.mem_map.1 hz
  have := h u hu
  omega
theorem inU.nil : inU [] := fun z hz => by cases hz
def wtT (zs : List Int) : ByteArray := ⟨(jn zs zs.length).toArray⟩
theorem spec_WordText (v : Value) (zs : List Int) (hn : zs.length ≤ 1048576) (w : World) (h : NS w v zs) :
    Calls Tryd.prog 5 #[v] w fun e w' => e = .returned (.string (wtT zs)) ∧ Below w.heap.size w w' := by
  have hs := spec_NimsText v zs hn w h
  obtain ⟨s, hs2⟩ : ∃ s : ByteArray, s = ⟨(jn zs zs.length).toArray⟩ := ⟨_, rfl⟩
  have e1 : wtT zs = s := by rw [hs2]; rfl
  rw [← hs2] at hs
  rw [e1]
  have HS := Lib.hid hs
  obtain ⟨A, c, rfl, _⟩ := h
  clear hs hs2 e1
  go_enter Tryd.func5, Tryd.ntmps5
  go_wp2_with fail
  refine HS.out.mono ?_
  rintro e w' ⟨rfl, hb⟩
  have HB := Lib.hid hb
  clear hb
  go_wp2_with fail
  go_ret
  exact ⟨rfl, HB.out⟩
theorem impl_WordText (v : Value) (zs : List Int) (hn : zs.length ≤ 1048576) (w : World) (h : NS w v zs) (htab : POW w) :
    Calls Tryd.prog 7 #[v] w fun e w' => e = .returned (.string (wtT zs)) ∧ Below w.heap.size w w' := by
  have hs := impl_NimsText v zs hn w h htab
  obtain ⟨s, hs2⟩ : ∃ s : ByteArray, s = ⟨(jn zs zs.length).toArray⟩ := ⟨_, rfl⟩
  have e1 : wtT zs = s := by rw [hs2]; rfl
  rw [← hs2] at hs
  rw [e1]
  have HS := Lib.hid hs
  obtain ⟨A, c, rfl, _⟩ := h
  clear hs hs2 e1 htab
  go_enter Tryd.func7, Tryd.ntmps7
  go_wp2_with fail
  refine HS.out.mono ?_
  rintro e w' ⟨rfl, hb⟩
  have HB := Lib.hid hb
  clear hb
  go_wp2_with fail
  go_ret
  exact ⟨rfl, HB.out⟩
def wr (s : ByteArray) : Prop := ∃ us, RL s.data.toList us
open Classical in
noncomputable def wrZ (s : ByteArray) : List Int := if h : wr s then uI (Classical.choose h) else []
open Classical in
noncomputable def wrC (s : ByteArray) : Int := if wr s then 0 else 5
theorem wr_no {s : ByteArray} (hr : ¬ wr s) : wrZ s = [] ∧ wrC s = 5 := by unfold wrZ wrC; rw [dif_neg hr, if_neg hr]; exact ⟨rfl, rfl⟩
theorem wr_yes {s : ByteArray} {us : List Nat} (h1 : RL s.data.toList us) : wrZ s = uI us ∧ wrC s = 0 := by
  have hr : wr s := ⟨us, h1⟩
  unfold wrZ wrC
  rw [dif_pos hr, if_pos hr]
  exact ⟨by rw [RL.inj (Classical.choose_spec hr) h1], rfl⟩
theorem wrZ_len {s : ByteArray} (hs : s.size ≤ 1048576) : (wrZ s).length ≤ 1048576 := by
  by_cases hr : wr s
  · obtain ⟨us, q1⟩ := hr
    rw [(wr_yes q1).1, uI_len]
    exact rl_len hs q1
  · rw [(wr_no hr).1]; simp
theorem spec_ReadWord (s : ByteArray) (hs : s.size ≤ 1048576) (w : World) :
    Calls Tryd.prog 9 #[.string s] w fun e w' => ∃ r, e = .returned (.tuple #[r, .int .i64 (wrC s)]) ∧ PO w' w.heap.size r (wrZ s) ∧ Below w.heap.size w w' := by
  have HR := Lib.hid (spec_ReadNims s hs w)
  go_enter Tryd.func9, Tryd.ntmps9
  go_wp2_with fail
  refine HR.out.mono ?_
  rintro e w1 ⟨⟨us, v, h1, rfl, h2, h3, h4⟩ | ⟨h1, v, rfl, h2⟩, hb⟩
  · obtain ⟨A, c, rfl, _, _⟩ := own_form2 h2
    have HPO := Lib.hid (PO.of_own h2 (uI_len us) (uI_small2 us h4))
    have HB := Lib.hid hb
    have E := Lib.hid (wr_yes h1)
    clear hb h1 h2 h4
    go_wp2_with fail
    go_ret2
    exact ⟨_, by rw [E.out.2]; rfl, by rw [E.out.1]; exact HPO.out, HB.out⟩
  · have HB := Lib.hid hb
    have E := Lib.hid (wr_no (s := s) h1)
    obtain ⟨A, c, rfl, _, _⟩ := own_form2 h2
    clear h1 h2 hb
    go_wp2_with fail
    go_ret2
    exact ⟨_, by rw [E.out.2]; rfl, by rw [E.out.1]; exact PO.nil _ _ _ _ (by first | exact Nat.zero_le _ | simp) (fun e => by first | rfl | cases e), HB.out.alloc HB.out.size _⟩
theorem impl_ReadWord (s : ByteArray) (hs : s.size ≤ 1048576) (m : Int) (w : World) (htab : POW w) (herr : ERRS w) (hm : w.cell? ⟨1, 0, none⟩ = some (.int .i64 m)) :
    Calls Tryd.prog 10 #[.string s] w fun e w' => ∃ r, e = .returned (.tuple #[r, .int .i64 (wrC s)]) ∧ PO w' w.heap.size r (wrZ s) ∧ Below w.heap.size w w' := by
  have HR := Lib.hid (impl_ReadNims s hs m w htab herr hm)
  clear htab herr hm
  go_enter Tryd.func10, Tryd.ntmps10
  go_wp2_with fail
  refine HR.out.mono ?_
  rintro e w1 ⟨⟨us, v, h1, rfl, h2, h3, h4⟩ | ⟨h1, v, rfl, h2⟩, hb⟩
  · obtain ⟨A, c, rfl, _, _⟩ := own_form2 h2
    have HPO := Lib.hid (PO.of_own h2 (uI_len us) (uI_small2 us h4))
    have HB := Lib.hid hb
    have E := Lib.hid (wr_yes h1)
    clear hb h1 h2 h4
    go_wp2_with fail
    go_ret2
    exact ⟨_, by rw [E.out.2]; rfl, by rw [E.out.1]; exact HPO.out, HB.out⟩
  · have HB := Lib.hid hb
    have E := Lib.hid (wr_no (s := s) h1)
    have HPO := Lib.hid (PO.of_own (zs := []) h2 rfl inU.nil)
    obtain ⟨A, c, rfl, _, _⟩ := own_form2 h2
    clear h1 h2 hb
    go_wp2_with fail
    go_ret2
    exact ⟨_, by rw [E.out.2]; rfl, by rw [E.out.1]; exact HPO.out, HB.out⟩
end Go.Proofs.YthhjhfkcgokffaaDoor
