/-
  A word searched in a sorted row; is a list closed?
-/
import Derived.Test.YthhjhfkcgokffaaYo
import Derived.Shelf.SlCmpFuncs.BinarySearchFunc
namespace Go.Proofs.Ythhjhfkcgokffaa
set_option linter.unusedVariables false
set_option linter.unusedSimpArgs false
open Go.ChangeShapes Go.WideShapes Go.ChangeAt Go.RowKit Go.Shelf

def memB (gs : List (List Int)) (z : List Int) : Bool := decide (z ∈ gs)
/-- where a test that goes over to false holds -/
theorem countP_front {β : Type} (p : β → Bool) : ∀ xs : List β, (∀ i j (hj : j < xs.length) (hij : i < j), p xs[j] = true → p (xs[i]'(by omega)) = true) → ∀ i (hi : i < xs.length), p xs[i] = decide (i < xs.countP p)
  | [], _, i, hi => absurd hi (by simp)
  | x :: r, h, i, hi => by
    have hr : ∀ i j (hj : j < r.length) (hij : i < j), p r[j] = true → p (r[i]'(by omega)) = true := fun i j hj hij hp => by
      have := h (i + 1) (j + 1) (by simp; omega) (by omega) (by simpa using hp)
      simpa using this
    have ih := countP_front p r hr
    by_cases hx : p x = true
    · rw [List.countP_cons_of_pos hx]
      match i, hi with
      | 0, _ => simp [hx]
      | i + 1, hi =>
        have hi' : i < r.length := by simpa using hi
        have := ih i hi'
        simp only [List.getElem_cons_succ]
        rw [this]
        simp
    · have hx' : p x = false := by simpa using hx
      have hall : ∀ i (hi : i < r.length), p r[i] = false := fun i hi => by
        by_cases e : p r[i] = true
        · exact absurd (h 0 (i + 1) (by simp; omega) (by omega) (by simpa using e)) (by simp [hx'])
        · simpa using e
      have hc : r.countP p = 0 := by
        rw [List.countP_eq_zero]
        intro a ha
        obtain ⟨i, hi, rfl⟩ := List.mem_iff_getElem.1 ha
        rw [hall i hi]; decide
      rw [List.countP_cons_of_neg hx, hc]
      match i, hi with
      | 0, _ => simp [hx']
      | i + 1, hi =>
        have hi' : i < r.length := by simpa using hi
        simp only [List.getElem_cons_succ]
        rw [hall i hi']; rfl
theorem srt_at {xs : List (List Int)} (h : SrtL xs) {i j : Nat} (hij : i < j) (hj : j < xs.length) : ¬ cmpL xs[j] (xs[i]'(by omega)) < 0 := by
  have := h i j hij hj
  simpa [List.getD, hj, show i < xs.length from by omega] using this
theorem srt_front {xs : List (List Int)} (h : SrtL xs) (z : List Int) : ∀ i j (hj : j < xs.length) (hij : i < j), decide (cmpL xs[j] z < 0) = true → decide (cmpL (xs[i]'(by omega)) z < 0) = true := by
  intro i j hj hij hp
  rw [decide_eq_true_iff] at hp ⊢
  have h1 := srt_at h hij hj
  have h2 := cmpL_anti xs[j] (xs[i]'(by omega))
  by_cases e : cmpL (xs[i]'(by omega)) xs[j] = 0
  · rw [cmpL_eq _ _ e]; exact hp
  · exact cmpL_trans _ _ _ (by omega) hp
theorem search_mem {xs : List (List Int)} (h : SrtL xs) (z : List Int) (k : Nat) (hk : k = xs.countP (fun x => decide (cmpL x z < 0))) : (decide (k < xs.length) && decide (cmpL (xs.getD k []) z = 0)) = memB xs z := by
  have hf := countP_front (fun x => decide (cmpL x z < 0)) xs (srt_front h z)
  rw [← hk] at hf
  unfold memB
  rw [Bool.eq_iff_iff, Bool.and_eq_true, decide_eq_true_iff, decide_eq_true_iff, decide_eq_true_iff]
  constructor
  · rintro ⟨h1, h2⟩
    have : xs.getD k [] = xs[k] := by simp [List.getD, h1]
    rw [this] at h2
    rw [← cmpL_eq _ _ h2]
    exact List.getElem_mem h1
  · intro hm
    obtain ⟨j, hj, rfl⟩ := List.mem_iff_getElem.1 hm
    have hjk := hf j hj
    rw [cmpL_refl] at hjk
    have hkj : k ≤ j := by
      have : decide ((0 : Int) < 0) = decide (j < k) := hjk
      by_cases e : j < k
      · rw [decide_eq_true e] at this; exact absurd this (by decide)
      · omega
    have hkl : k < xs.length := by omega
    refine ⟨hkl, ?_⟩
    have e0 : xs.getD k [] = xs[k] := by simp [List.getD, hkl]
    rw [e0]
    have h1 := hf k hkl
    have h1' : ¬ cmpL xs[k] xs[j] < 0 := by
      have : decide (cmpL xs[k] xs[j] < 0) = decide (k < k) := h1
      rw [decide_eq_false (Nat.lt_irrefl k), decide_eq_false_iff_not] at this
      exact this
    by_cases e : k = j
    · subst e; exact cmpL_refl _
    · have h2 := srt_at h (show k < j by omega) hj
      have h3 := cmpL_anti xs[j] xs[k]
      omega
/-- the words of a row are words, whatever block g holds -/
def NXs (w : World) (g : Nat) (ps : List (Value × List Int)) : Prop := ∀ p ∈ ps, (∃ A n c, p.1 = .slice A n c) ∧ NX w g p.1 p.2 ∧ p.2.length ≤ 1048576
theorem NX.below {w w' : World} {g : Nat} {v : Value} {zs : List Int} (h : NX w g v zs) (hb : Below w.heap.size w w') : NX w' g v zs := fun W hs hW =>
  h W (Nat.le_trans hb.size hs) (fun k hk hlt => (hW k hk (Nat.lt_of_lt_of_le hlt hb.size)).trans (hb.block k hlt))
theorem NX.ns {w : World} {g : Nat} {v : Value} {zs : List Int} (h : NX w g v zs) : NS w v zs := h w (Nat.le_refl _) (fun _ _ _ => rfl)
theorem nx_of {w : World} {g : Nat} {v : Value} {zs : List Int} (h : NS w v zs) (hg : ∀ A n c b off, v = .slice A n c → A = some ⟨b, off, none⟩ → 0 < zs.length → b ≠ g) : NX w g v zs := by
  intro W hs hW
  obtain ⟨A, c, e, hz, hc⟩ := h
  refine ⟨A, c, e, hz, fun hn => ?_⟩
  obtain ⟨b, off, hA, hlt, hcell⟩ := hc hn
  have hb := hg A _ c b off e hA hn
  refine ⟨b, off, hA, Nat.lt_of_lt_of_le hlt hs, fun i hi => ?_⟩
  rw [← hcell i hi]
  exact cell_sameW (hW b hb hlt)
theorem nx_low {w w1 : World} {g : Nat} {v : Value} {zs : List Int} (h : NS w v zs) (hb : Below w.heap.size w w1) (hg : w.heap.size ≤ g) : NX w1 g v zs := by
  refine nx_of (h.below hb) (fun A n c b off e hA hn eb => ?_)
  obtain ⟨A', c', e', _, hc⟩ := h
  rw [e'] at e
  cases e
  obtain ⟨b', off', hA', hlt, _⟩ := hc hn
  rw [hA] at hA'
  cases hA'
  omega
theorem nx_po {w : World} {B g : Nat} {v : Value} {zs : List Int} (h : PO w B v zs) (hg : g < B) : NX w g v zs := by
  refine nx_of h.ns (fun A n c b off e hA hn eb => ?_)
  have := h.spot hn b (by rw [e, hA]; rfl)
  omega
theorem arr_of (w : World) (g : Nat) (ps : List (Value × List Int)) (h : NXs w g ps) : ∃ d : Array (SWd w g), d.size = ps.length ∧ d.toList.map (fun x => x.1) = ps := by
  have main : ∀ ps : List (Value × List Int), NXs w g ps → ∃ l : List (SWd w g), l.map (fun x => x.1) = ps := by
    intro ps
    induction ps with
    | nil => exact fun _ => ⟨[], rfl⟩
    | cons p r ih =>
      intro h
      obtain ⟨l, hl⟩ := ih (fun q hq => h q (List.mem_cons_of_mem _ hq))
      exact ⟨⟨p, h p (List.mem_cons_self ..)⟩ :: l, congrArg (List.cons p) hl⟩
  obtain ⟨l, hl⟩ := main ps h
  exact ⟨l.toArray, by rw [← hl]; simp, by simpa using hl⟩
theorem NXs.at {w : World} {g : Nat} {ps : List (Value × List Int)} (h : NXs w g ps) (i : Nat) (hi : i < ps.length) : (∃ A n c, ps[i].1 = .slice A n c) ∧ NX w g ps[i].1 ps[i].2 ∧ ps[i].2.length ≤ 1048576 := h _ (List.getElem_mem hi)
set_option maxHeartbeats 2000000 in
theorem search_any (w : World) (B g n c : Nat) (ps : List (Value × List Int)) (hn : n ≤ 1048576) (hl : ps.length = n) (ho : w.ownsRow B 25 1 (.slice (some ⟨g, 0, none⟩) n c) n (ps.map (·.1))) (hx : NXs w g ps) (hs : SrtL (ps.map (·.2)))
    (u : Value) (z : List Int) (hz : z.length ≤ 1048576) (hu : NX w g u z) :
    Calls Try.prog 144 #[.slice (some ⟨g, 0, none⟩) n c, u, .func (.func 142) #[] #[]] w fun e w' => (∃ i : Int, e = .returned (.tuple #[.int .i64 i, .bool (memB (ps.map (·.2)) z)])) ∧ Below w.heap.size w w' := by
  obtain ⟨cur, hg⟩ : ∃ cur, w.heap[g]? = some (.cells cur 25 (0, 0)) := own_tyw ho g rfl
  obtain ⟨d, hd1, hd2⟩ := arr_of w g ps hx
  have hat : ∀ i (hi : i < n), d[i]!.1 = ps[i]'(by omega) := fun i hi => by
    rw [getElem!_pos d i (by omega)]
    have h1 : (d.toList.map (fun x => x.1))[i]? = some d[i].1 := by simp [show i < d.size from by omega]
    rw [hd2, List.getElem?_eq_getElem (by omega)] at h1
    exact (Option.some.inj h1).symm
  have hH : Go.Sort.Holds (encS (w := w) (g := g)) w g 0 d := fun j hj => by
    have := hat j (by omega)
    rw [Nat.zero_add]
    refine ⟨?_, ho.frozenAt j⟩
    rw [ho.cellAt j (by omega), List.getElem?_map, List.getElem?_eq_getElem (by omega)]
    unfold encS
    rw [this]; rfl
  have eg : ∀ args w, (callFunc 142 args).run Try.prog w = .ok (.enter 142 args) w := enters_of Try.func142 (by kernel_rfl) rfl
  have hcmp : CmpLaysT Try.prog 142 #[] (encS (w := w) (g := g)) u (fun x => cmpL x.1.2 z) g 0 d.size w := by
    intro m os dk hs x
    obtain ⟨p, hp1, hp2, hp3⟩ := x
    have h1 := hp2 (sortWorld encS w g 0 m dk os) (sw_size encS w g 0 m dk os) (fun k hk hlt => sw_other encS w g 0 m dk os k hk hlt)
    have h2 := hu (sortWorld encS w g 0 m dk os) (sw_size encS w g 0 m dk os) (fun k hk hlt => sw_other encS w g 0 m dk os k hk hlt)
    refine (compare_any p.1 u p.2 z hp3 hz _ h1 h2).mono ?_
    rintro e w' ⟨rfl, rfl⟩
    exact ⟨rfl, 0, #[], by rw [Go.Sort.grow_empty]; rfl⟩
  have hlist : ∀ i (hi : i < n), (ps.map (·.2))[i]'(by simp; omega) = d[i]!.1.2 := fun i hi => by rw [hat i hi]; simp
  have hmono : ∀ a b, a ≤ b → b < d.size → (fun (x : SWd w g) => cmpL x.1.2 z) d[b]! < 0 → (fun (x : SWd w g) => cmpL x.1.2 z) d[a]! < 0 := fun a b hab hb h => by
    by_cases e : a = b
    · subst e; exact h
    · have h1 := srt_front hs z a b (by simp; omega) (by omega)
      rw [hlist a (by omega), hlist b (by omega), decide_eq_true_iff, decide_eq_true_iff] at h1
      exact h1 h
  have hsr := Any.slices_BinarySearchFunc Try.searchWords (encS (w := w) (g := g)) encS_one u (fun x => cmpL x.1.2 z) 142 #[] g 0 c d w eg hcmp hH (Array.getElem?_eq_some_iff.1 hg).1 (by omega) hmono
  rw [show d.size = n from by omega] at hsr
  refine hsr.mono ?_
  rintro e w' ⟨rfl, m, os, rfl⟩
  have hcount : d.toList.countP (fun x => decide (cmpL x.1.2 z < 0)) = (ps.map (·.2)).countP (fun x => decide (cmpL x z < 0)) := by
    rw [← hd2, List.map_map, List.countP_map]
    rfl
  have hb : (decide (d.toList.countP (fun x => decide (cmpL x.1.2 z < 0)) < n) && decide (cmpL d[d.toList.countP (fun x => decide (cmpL x.1.2 z < 0))]!.1.2 z = 0)) = memB (ps.map (·.2)) z := by
    rw [← search_mem hs z _ rfl, ← hcount]
    have hlen : (ps.map (·.2)).length = n := by simp [hl]
    rw [hlen]
    by_cases hk : d.toList.countP (fun x => decide (cmpL x.1.2 z < 0)) < n
    · have e2 : ∀ k, k < n → (ps.map (·.2)).getD k [] = d[k]!.1.2 := fun k hk => by
        rw [← hlist k hk]
        simp [List.getD, show k < ps.length from by omega]
      rw [e2 _ hk]
    · rw [decide_eq_false hk]; rfl
  refine ⟨⟨((d.toList.countP (fun x => decide (cmpL x.1.2 z < 0)) : Nat) : Int), ?_⟩, ?_⟩
  · exact congrArg (fun b => Ending.returned (.tuple #[.int .i64 ((d.toList.countP (fun x => decide (cmpL x.1.2 z < 0)) : Nat) : Int), .bool b])) hb
  · have e1 : sortWorld (encS (w := w) (g := g)) w g 0 m d os = Go.Sort.grow (Go.Sort.ahead w m) os := by
      unfold sortWorld
      rw [Go.Sort.putRow_self _ _ _ _ _ (Go.Sort.holds_ahead _ _ _ _ _ _ hH)]
    rw [e1]
    exact ⟨rfl, rfl, rfl, by rw [Go.Sort.size_grow]; exact Nat.le_add_right _ _, fun k hk => by
      show (w.heap ++ os)[k]? = _
      rw [Array.getElem?_append_left hk]⟩
end Go.Proofs.Ythhjhfkcgokffaa
