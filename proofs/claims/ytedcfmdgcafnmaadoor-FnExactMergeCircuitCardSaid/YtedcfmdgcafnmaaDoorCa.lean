/-
  Circuits as cells: gates of three cells, lists of them; what comes in is read, and reads so again.
-/
import Derived.Test.YtedcfmdgcafnmaaDoorOpen
import Derived.Deep.Strs
import Derived.Deep.MidRow
import Derived.Deep.QuietTactic
import Derived.Deep.RegionHeld
import Derived.StillTailTactics
import Derived.WideKeyArgs
import Derived.OwnWalk
import Derived.BigQuiet
import Derived.Lib.Hide
namespace Go.Proofs.YtedcfmdgcafnmaaDoor
set_option linter.unusedVariables false
set_option linter.unusedSimpArgs false
open Go.ChangeShapes Go.WideShapes Go.ChangeAt Go.RowKit Go.Deep

abbrev G3 := Int × Int × Int
def gz : G3 := (0, 0, 0)
def gc (g : G3) : List Value := [.int .i8 g.1, .int .i16 g.2.1, .int .i16 g.2.2]
abbrev gv (g : G3) : Value := .agg #[.int .i8 g.1, .int .i16 g.2.1, .int .i16 g.2.2]
def gcs (gs : List G3) : List Value := gs.flatMap gc
abbrev i16s (zs : List Int) : List Value := zs.map (Value.int .i16)
def GW (g : G3) : Prop := (-128 ≤ g.1 ∧ g.1 < 128) ∧ (-32768 ≤ g.2.1 ∧ g.2.1 < 32768) ∧ (-32768 ≤ g.2.2 ∧ g.2.2 < 32768)
def IW (z : Int) : Prop := -32768 ≤ z ∧ z < 32768
theorem gv_one (g : G3) : (#[.int .i8 g.1, .int .i16 g.2.1, .int .i16 g.2.2] : Array Value).all (·.oneCell') = true := all_oneCell_toArray (cs := gc g) (fun v hv => by
  simp [gc] at hv
  rcases hv with rfl | rfl | rfl <;> rfl)
theorem gcs_cons (g : G3) (gs : List G3) : gcs (g :: gs) = gc g ++ gcs gs := by simp [gcs]
theorem gcs_len (gs : List G3) : (gcs gs).length = gs.length * 3 := by
  induction gs with
  | nil => rfl
  | cons g gs ih => rw [gcs_cons, List.length_append, ih, List.length_cons]; simp [gc]; omega
theorem gcs_get : ∀ (gs : List G3) (i : Nat), i < gs.length → ∀ j, j < 3 → (gcs gs)[i * 3 + j]? = (gc (gs.getD i gz))[j]?
  | [], i, h, _, _ => absurd h (Nat.not_lt_zero _)
  | g :: gs, 0, _, j, hj => by
    rw [gcs_cons, Nat.zero_mul, Nat.zero_add, List.getElem?_append_left (by simpa [gc] using hj)]
    rfl
  | g :: gs, i + 1, h, j, hj => by
    rw [gcs_cons, List.getElem?_append_right (by simp [gc]; omega)]
    have := gcs_get gs i (by simpa using h) j hj
    rw [show (i + 1) * 3 + j - (gc g).length = i * 3 + j from by simp [gc]; omega, this]
    rfl
/-- the cells cs lie in a slice of n elements -/
def LS (w : World) (v : Value) (n : Nat) (cs : List Value) : Prop :=
  ∃ A c, v = .slice A n c ∧ n ≤ 9223372036854775807 ∧ (0 < n → ∃ b off, A = some ⟨b, off, none⟩ ∧ b < w.heap.size ∧ w.rangeAt b off cs)
theorem LS.below {w w' : World} {v : Value} {n : Nat} {cs : List Value} (h : LS w v n cs) (hb : Below w.heap.size w w') : LS w' v n cs := by
  obtain ⟨A, c, hv, hm, hc⟩ := h
  refine ⟨A, c, hv, hm, fun hn => ?_⟩
  obtain ⟨b, off, hA, hlt, hcell⟩ := hc hn
  exact ⟨b, off, hA, Nat.lt_of_lt_of_le hlt hb.size, fun i x hx => (hb.cell (p := ⟨b, off + i, none⟩) hlt).trans (hcell i x hx)⟩
theorem LS.of_own {w : World} {base n s : Nat} {e : TypeId} {v : Value} {cs : List Value} (h : w.ownsRow base e s v n cs) : LS w v n cs := by
  have hl := h.1
  rcases h.2 with ⟨rfl, h0⟩ | ⟨g, cap, cur, rfl, hb, hg, q1, q2, _⟩
  · exact ⟨none, 0, by rw [h0], by omega, fun hn => by omega⟩
  · refine ⟨some ⟨g, 0, none⟩, cap, rfl, by unfold maxLen at q2; omega, fun hn => ⟨g, 0, rfl, (Array.getElem?_eq_some_iff.1 hg).1, fun i x hx => ?_⟩⟩
    have hi : i < cs.length := (List.getElem?_eq_some_iff.1 hx).1
    rw [Nat.zero_add, h.cellAt i (by rw [hl] at hi; exact hi)]
    exact hx
/-- a list of gates that is read -/
def GL (w : World) (v : Value) (gs : List G3) : Prop := LS w v gs.length (gcs gs) ∧ ∀ g ∈ gs, GW g
/-- a list of indices that is read -/
def IL (w : World) (v : Value) (os : List Int) : Prop := LS w v os.length (i16s os) ∧ ∀ z ∈ os, IW z
theorem GL.below {w w' : World} {v : Value} {gs : List G3} (h : GL w v gs) (hb : Below w.heap.size w w') : GL w' v gs := ⟨h.1.below hb, h.2⟩
theorem IL.below {w w' : World} {v : Value} {os : List Int} (h : IL w v os) (hb : Below w.heap.size w w') : IL w' v os := ⟨h.1.below hb, h.2⟩
/-- gate i of a list that is read -/
theorem GL.at {w : World} {v : Value} {gs : List G3} (h : GL w v gs) (i : Nat) (hi : i < gs.length) :
    ∃ b off c, v = .slice (some ⟨b, off, none⟩) gs.length c ∧ b < w.heap.size ∧ GW (gs.getD i gz) ∧
      w.cell? ⟨b, off + i * 3, none⟩ = some (.int .i8 (gs.getD i gz).1) ∧ w.cell? ⟨b, off + i * 3 + 1, none⟩ = some (.int .i16 (gs.getD i gz).2.1) ∧ w.cell? ⟨b, off + i * 3 + 2, none⟩ = some (.int .i16 (gs.getD i gz).2.2) := by
  obtain ⟨⟨A, c, rfl, hm, hc⟩, hw⟩ := h
  obtain ⟨b, off, rfl, hlt, hr⟩ := hc (by omega)
  have g := fun j hj => gcs_get gs i hi j hj
  have e : gs.getD i gz = gs[i] := by simp [List.getD, hi]
  refine ⟨b, off, c, rfl, hlt, by rw [e]; exact hw _ (List.getElem_mem hi), ?_, ?_, ?_⟩
  · have := hr (i * 3 + 0) (.int .i8 (gs.getD i gz).1) (by rw [g 0 (by omega)]; rfl)
    exact this
  · have := hr (i * 3 + 1) (.int .i16 (gs.getD i gz).2.1) (by rw [g 1 (by omega)]; rfl)
    rw [Nat.add_assoc]; exact this
  · have := hr (i * 3 + 2) (.int .i16 (gs.getD i gz).2.2) (by rw [g 2 (by omega)]; rfl)
    rw [Nat.add_assoc]; exact this
theorem IL.at {w : World} {v : Value} {os : List Int} (h : IL w v os) (i : Nat) (hi : i < os.length) :
    ∃ b off c, v = .slice (some ⟨b, off, none⟩) os.length c ∧ b < w.heap.size ∧ IW (os.getD i 0) ∧ w.cell? ⟨b, off + i, none⟩ = some (.int .i16 (os.getD i 0)) := by
  obtain ⟨⟨A, c, rfl, hm, hc⟩, hw⟩ := h
  obtain ⟨b, off, rfl, hlt, hr⟩ := hc (by omega)
  have e : os.getD i 0 = os[i] := by simp [List.getD, hi]
  exact ⟨b, off, c, rfl, hlt, by rw [e]; exact hw _ (List.getElem_mem hi), hr i _ (by simp [i16s, List.getD, hi])⟩
theorem GL.form {w : World} {v : Value} {gs : List G3} (h : GL w v gs) : ∃ A c, v = .slice A gs.length c := by
  obtain ⟨⟨A, c, hv, _⟩, _⟩ := h
  exact ⟨A, c, hv⟩
theorem IL.form {w : World} {v : Value} {gs : List Int} (h : IL w v gs) : ∃ A c, v = .slice A gs.length c := by
  obtain ⟨⟨A, c, hv, _⟩, _⟩ := h
  exact ⟨A, c, hv⟩
theorem GL.long {w : World} {v : Value} {gs : List G3} (h : GL w v gs) : gs.length ≤ 9223372036854775807 := by
  obtain ⟨⟨A, c, _, hm, _⟩, _⟩ := h
  exact hm
theorem IL.long {w : World} {v : Value} {gs : List Int} (h : IL w v gs) : gs.length ≤ 9223372036854775807 := by
  obtain ⟨⟨A, c, _, hm, _⟩, _⟩ := h
  exact hm
/-- a circuit that is read: its number of inputs, gates and outputs -/
def CI (w : World) (v : Value) (n : Int) (gs : List G3) (os : List Int) : Prop :=
  ∃ G O, v = .agg #[.int .i8 n, G, O] ∧ (-128 ≤ n ∧ n < 128) ∧ GL w G gs ∧ IL w O os
theorem CI.below {w w' : World} {v : Value} {n : Int} {gs : List G3} {os : List Int} (h : CI w v n gs os) (hb : Below w.heap.size w w') : CI w' v n gs os := by
  obtain ⟨G, O, hv, hn, hg, ho⟩ := h
  exact ⟨G, O, hv, hn, hg.below hb, ho.below hb⟩
section
variable {H : Type} {enc : TypeId × Value → H} {P : Program} {W : World} {base : Nat}
theorem i16_wf {z : Int} (h : (Lit.int .i16 z).wf = true) : IW z := by
  have := bounds_i16 h
  unfold IW
  omega
theorem i8_wfc {z : Int} (h : (Lit.int .i8 z).wf = true) : -128 ≤ z ∧ z < 128 := by
  have := bounds_i8 h; omega
theorem open_idx {fuel : Nat} {t e : TypeId} {cs : List Value} {x : DataW H × List MemPlace} (ht : P.underlying t = some (.slice e)) (he : P.underlying e = some (.int .i16)) (hc : P.cellsOf e = 1)
    (h : DataW.trod enc P W 0 (fun _ => true) true fuel t cs = some x) : ∃ v os, cs = [v] ∧ IL W v os := by
  rcases open_ints ht he hc h with ⟨rfl, _⟩ | ⟨a, len, cap, zs, rfl, _, hl, hm, hz, _, hcell, hwz⟩
  · exact ⟨_, [], rfl, ⟨⟨none, 0, rfl, by simp, fun hn => by simp at hn⟩, by simp⟩⟩
  · simp only [if_true] at hz
    have hlen : (zs.take len).length = len := by rw [List.length_take, Nat.min_eq_left (by omega)]
    refine ⟨_, zs.take len, rfl, ⟨some a, cap, by rw [hlen], by rw [hlen]; unfold maxLen at hm; omega, fun hn => ?_⟩, fun z hz' => i16_wf (hwz z (List.mem_of_mem_take hz'))⟩
    rw [hlen] at hn
    obtain ⟨b, off, spot⟩ := a
    have hspot : spot = none := by simpa [Addr.add] using World.cell?_spot (hcell 0 (by omega))
    subst hspot
    refine ⟨b, off, rfl, block_of_cell (hcell 0 (by omega)), fun i x hx => ?_⟩
    have hi : i < len := by have := (List.getElem?_eq_some_iff.1 hx).1; simp [i16s] at this; omega
    have := hcell i (by omega)
    rw [add_plain] at this
    rw [this, ← hx]
    simp [i16s, List.getElem?_take, hi, List.getD, show i < zs.length from by omega]
theorem open_gates {fuel : Nat} {t e ti tj : TypeId} {f0 f1 f2 : Field} {cs : List Value} {x : DataW H × List MemPlace} (ht : P.underlying t = some (.slice e)) (he : P.underlying e = some (.struct #[f0, f1, f2])) (hce : P.cellsOf e = 3)
    (o0 : f0.offset = 0 ∧ f0.type = ti) (o1 : f1.offset = 1 ∧ f1.type = tj) (o2 : f2.offset = 2 ∧ f2.type = tj) (hti : P.underlying ti = some (.int .i8)) (hci : P.cellsOf ti = 1) (htj : P.underlying tj = some (.int .i16)) (hcj : P.cellsOf tj = 1)
    (h : DataW.trod enc P W 0 (fun _ => true) true fuel t cs = some x) : ∃ v gs, cs = [v] ∧ GL W v gs := by
  rcases open_slice ht h with ⟨rfl, _⟩ | ⟨a, len, cap, m, n, D, Pl, rfl, _, hl, hm, hmm, _, hx⟩
  · exact ⟨_, [], rfl, ⟨⟨none, 0, rfl, by simp, fun hn => by simp at hn⟩, by simp⟩⟩
  · simp only [if_true] at hmm
    have each : ∀ i, i < len → ∃ g : G3, GW g ∧ ∀ j y, (gc g)[j]? = some y → W.cell? (a.add (i * 3 + j)) = some y := by
      intro i hi
      obtain ⟨cs', h1, h2⟩ := hx i (by omega)
      rw [hce] at h1
      obtain ⟨_, hlen, hcell⟩ := World.cells?_some h1
      obtain ⟨y0, y1, y2, k, _, _, g0, g1, g2⟩ := trod_struct3 he h2
      rw [o0.1, o0.2, hci] at g0
      rw [o1.1, o1.2, hcj] at g1
      rw [o2.1, o2.2, hcj] at g2
      obtain ⟨z0, e0, _, w0⟩ := DataW.trod_int hti g0
      obtain ⟨z1, e1, _, w1⟩ := DataW.trod_int htj g1
      obtain ⟨z2, e2, _, w2⟩ := DataW.trod_int htj g2
      match cs', hlen with
      | [c0, c1, c2], _ =>
        simp at e0 e1 e2
        subst e0 e1 e2
        refine ⟨(z0, z1, z2), ⟨i8_wfc w0, i16_wf w1, i16_wf w2⟩, fun j y hy => ?_⟩
        have hj : j < 3 := by have := (List.getElem?_eq_some_iff.1 hy).1; simpa [gc] using this
        have := hcell j hj
        rw [Deep.add_add] at this
        rw [this]
        exact hy
    obtain ⟨G, hG⟩ := choose_lt (α := G3) each
    have hlen : ((List.range len).map G).length = len := by simp
    have hat : ∀ i, i < len → ((List.range len).map G).getD i gz = G i := fun i hi => by simp [List.getD, hi]
    refine ⟨_, (List.range len).map G, rfl, ⟨some a, cap, by rw [hlen], by rw [hlen]; unfold maxLen at hm; omega, fun hn => ?_⟩, fun g hg => ?_⟩
    · rw [hlen] at hn
      obtain ⟨b, off, spot⟩ := a
      have hspot : spot = none := by
        have := (hG 0 hn).2 0 _ rfl
        simpa [Addr.add] using World.cell?_spot this
      subst hspot
      have h00 := (hG 0 hn).2 0 _ rfl
      rw [add_plain] at h00
      refine ⟨b, off, rfl, block_of_cell h00, fun i x hx => ?_⟩
      have hi : i < len * 3 := by have := (List.getElem?_eq_some_iff.1 hx).1; rw [gcs_len, hlen] at this; exact this
      have hq : i / 3 < len := by omega
      have hr : i % 3 < 3 := by omega
      have e := gcs_get ((List.range len).map G) (i / 3) (by rw [hlen]; exact hq) (i % 3) hr
      rw [show i / 3 * 3 + i % 3 = i from by omega, hat _ hq] at e
      have := (hG (i / 3) hq).2 (i % 3) x (by rw [← e]; exact hx)
      rw [add_plain, show i / 3 * 3 + i % 3 = i from by omega] at this
      exact this
    · obtain ⟨i, hi, rfl⟩ := List.mem_map.1 hg
      exact (hG i (List.mem_range.1 hi)).1
/-- a circuit that comes in -/
theorem open_circ {t tg te to ti tj : TypeId} {f0 f1 f2 g0 g1 g2 : Field} {v : Value} {d : DataW H} {p : List MemPlace} (hl : laidOutB P = true) (hr : P.readableRec t = true) (hrow : t < P.types.size)
    (ht : P.underlying t = some (.struct #[f0, f1, f2])) (hct : P.cellsOf t = 3)
    (o0 : f0.offset = 0 ∧ f0.type = ti) (o1 : f1.offset = 1 ∧ f1.type = tg) (o2 : f2.offset = 2 ∧ f2.type = to) (hti : P.underlying ti = some (.int .i8)) (hci : P.cellsOf ti = 1) (htj : P.underlying tj = some (.int .i16)) (hcj : P.cellsOf tj = 1)
    (htg : P.underlying tg = some (.slice te)) (hcg : P.cellsOf tg = 1) (hto : P.underlying to = some (.slice tj)) (hco : P.cellsOf to = 1) (hte : P.underlying te = some (.struct #[g0, g1, g2])) (hce : P.cellsOf te = 3)
    (q0 : g0.offset = 0 ∧ g0.type = ti) (q1 : g1.offset = 1 ∧ g1.type = tj) (q2 : g2.offset = 2 ∧ g2.type = tj)
    (hv : Value.okWide P W .any base t v) (h : DataW.Trod enc P W 0 (fun _ => true) true t v d p) (hlt : ∀ x ∈ p, x.block < W.heap.size) :
    ∃ n gs os, CI W v n gs os ∧ ∀ W' : World, Below W.heap.size W W' → ∀ sp : Nat → Bool, (∀ q ∈ p, sp q.block = true) → DataW.Trod enc P W' 0 sp true t v d p := by
  have hs : ∀ W' : World, Below W.heap.size W W' → ∀ sp : Nat → Bool, (∀ q ∈ p, sp q.block = true) → DataW.Trod enc P W' 0 sp true t v d p := fun W' hb sp hsp =>
    WideElems.Trod_stays hl hr hrow h (fun x hx => hb.same (hlt x hx)) hsp
  obtain ⟨cs, rfl, hsz⟩ := okWide_struct ht hv
  obtain ⟨fuel, hf⟩ := h
  obtain ⟨y0, y1, y2, k, _, hlen, k0, k1, k2⟩ := trod_struct3 ht hf
  rw [o0.1, o0.2, hci] at k0
  rw [o1.1, o1.2, hcg] at k1
  rw [o2.1, o2.2, hco] at k2
  obtain ⟨z0, e0, _, w0⟩ := DataW.trod_int hti k0
  obtain ⟨G, gs, e1, hg⟩ := open_gates htg hte hce q0 q1 q2 hti hci htj hcj k1
  obtain ⟨O, os, e2, ho⟩ := open_idx hto htj hcj k2
  simp only [Value.cells] at hlen e0 e1 e2
  rw [hct] at hlen
  refine ⟨z0, gs, os, ⟨G, O, ?_, i8_wfc w0, hg, ho⟩, hs⟩
  congr 1
  have hc : cs = cs.toList.toArray := by simp
  rw [hc]
  generalize cs.toList = l at hlen e0 e1 e2
  match l, hlen with
  | [a, b, c], _ =>
    simp at e0 e1 e2
    subst e0 e1 e2
    rfl
end
end Go.Proofs.YtedcfmdgcafnmaaDoor
