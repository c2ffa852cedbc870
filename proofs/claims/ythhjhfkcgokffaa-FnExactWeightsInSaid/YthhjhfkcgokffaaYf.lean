/-
  How many words of a list have each weight: WeightsIn.
-/
import Derived.Test.YthhjhfkcgokffaaYd
import Derived.Deep.MidRow
namespace Go.Proofs.Ythhjhfkcgokffaa
set_option linter.unusedVariables false
set_option linter.unusedSimpArgs false
open Go.ChangeShapes Go.WideShapes Go.ChangeAt Go.RowKit Go.Deep

theorem bch2 {B : Nat} {a b c : World} (h1 : Below B a b) (h2 : Below b.heap.size b c) (hB : B ≤ b.heap.size) : Below B a c := h1.trans (h2.mono hB)
theorem bsets {B g : Nat} {a : World} (hg : B ≤ g) : ∀ (vs : List Value) (o : Nat) (w : World), Below B a w → Below B a (w.setCells g o vs)
  | [], _, _, h => h
  | v :: r, o, w, h => by
    rw [World.setCells]; exact bsets hg r (o + 1) _ (h.setCell (p := ⟨g, o, none⟩) hg v)
theorem nw1 (w : World) (A : Obj) : (w.alloc A).heap[w.heap.size]? = some A ∧ Below w.heap.size w (w.alloc A) ∧ (w.alloc A).heap.size = w.heap.size + 1 := ⟨heap_alloc_new _ _, (Below.refl _ w).alloc (Nat.le_refl _) A, World.size_alloc _ _⟩
theorem hao3 (w : World) (o : Obj) (k : Nat) (h : k < w.heap.size) : (w.alloc o).heap[k]? = w.heap[k]? := by
  show (w.heap.push o)[k]? = _
  rw [Array.getElem?_push_lt h, Array.getElem?_eq_getElem h]
theorem nw2 (w : World) (A B : Obj) : ((w.alloc A).alloc B).heap[w.heap.size]? = some A ∧ ((w.alloc A).alloc B).heap[w.heap.size + 1]? = some B ∧ Below w.heap.size w ((w.alloc A).alloc B) ∧ ((w.alloc A).alloc B).heap.size = w.heap.size + 1 + 1 := by
  obtain ⟨h1, h2, h3⟩ := nw1 w A
  refine ⟨?_, ?_, h2.alloc (by omega) B, by rw [World.size_alloc, h3]⟩
  · rw [hao3 _ _ _ (by omega)]; exact h1
  · rw [← h3]; exact heap_alloc_new _ _
/-- eight numbers, one more at place k; how many of the first k words have each weight -/
def inc8 (f : Nat → Int) (k : Nat) (j : Nat) : Int := if j = k then f j + 1 else f j
def wtTo (gs : List (List Int)) : Nat → Nat → Int
  | 0 => fun _ => 0
  | k + 1 => inc8 (wtTo gs k) (wtN (gs.getD k []))
theorem wtTo_b (gs : List (List Int)) : ∀ k j, 0 ≤ wtTo gs k j ∧ wtTo gs k j ≤ k
  | 0, j => by simp [wtTo]
  | k + 1, j => by
    have := wtTo_b gs k j
    simp only [wtTo, inc8]
    split <;> omega
abbrev c8 (f : Nat → Int) : Array Value := #[.int .i64 (f 0), .int .i64 (f 1), .int .i64 (f 2), .int .i64 (f 3), .int .i64 (f 4), .int .i64 (f 5), .int .i64 (f 6), .int .i64 (f 7)]
abbrev l8 (f : Nat → Int) : List Value := [.int .i64 (f 0), .int .i64 (f 1), .int .i64 (f 2), .int .i64 (f 3), .int .i64 (f 4), .int .i64 (f 5), .int .i64 (f 6), .int .i64 (f 7)]
abbrev v8 (f : Nat → Int) : Value := .agg (c8 f)
/-- eight numbers lie in a block of their own -/
def B8 (w : World) (g : Nat) (f : Nat → Int) : Prop := ∃ t, w.heap[g]? = some (.cells (c8 f) t (0, 0))
theorem sets_row (g : Nat) (T : TypeId) : ∀ (vs : List Value) (o : Nat) (w : World) (pre mid : List Value), w.heap[g]? = some (.cells (pre ++ mid).toArray T (0, 0)) → pre.length = o → mid.length = vs.length →
    (w.setCells g o vs).heap[g]? = some (.cells (pre ++ vs).toArray T (0, 0))
  | [], o, w, pre, mid, h, _, hl => by
    have : mid = [] := List.length_eq_zero_iff.1 hl
    subst this
    rw [World.setCells]; exact h
  | v :: r, o, w, pre, mid, h, ho, hl => by
    obtain ⟨m, ms, rfl⟩ : ∃ m ms, mid = m :: ms := by
      cases mid with
      | nil => simp at hl
      | cons m ms => exact ⟨m, ms, rfl⟩
    rw [World.setCells]
    have h1 := heap_setCell_same w g o _ T v h
    have e : (pre ++ m :: ms).toArray.setIfInBounds o v = ((pre ++ [v]) ++ ms).toArray := by
      apply Array.ext'
      rw [Array.toList_setIfInBounds]
      show (pre ++ m :: ms).set o v = _
      rw [List.set_append_right o v (by omega), show o - pre.length = 0 from by omega]
      simp
    rw [e] at h1
    have h2 := sets_row g T r (o + 1) _ (pre ++ [v]) ms h1 (by simp; omega) (by simpa using hl)
    rw [h2]
    simp
section
variable {w w' : World} {g B : Nat} {f : Nat → Int}
theorem B8.c0 (h : B8 w g f) : w.cell? ⟨g, 0, none⟩ = some (.int .i64 (f 0)) := by
  obtain ⟨t, h⟩ := h
  exact (cell_of_row _ _ _ _ _ _ h).trans rfl
theorem B8.c1 (h : B8 w g f) : w.cell? ⟨g, 1, none⟩ = some (.int .i64 (f 1)) := by
  obtain ⟨t, h⟩ := h
  exact (cell_of_row _ _ _ _ _ _ h).trans rfl
theorem B8.c2 (h : B8 w g f) : w.cell? ⟨g, 2, none⟩ = some (.int .i64 (f 2)) := by
  obtain ⟨t, h⟩ := h
  exact (cell_of_row _ _ _ _ _ _ h).trans rfl
theorem B8.c3 (h : B8 w g f) : w.cell? ⟨g, 3, none⟩ = some (.int .i64 (f 3)) := by
  obtain ⟨t, h⟩ := h
  exact (cell_of_row _ _ _ _ _ _ h).trans rfl
theorem B8.c4 (h : B8 w g f) : w.cell? ⟨g, 4, none⟩ = some (.int .i64 (f 4)) := by
  obtain ⟨t, h⟩ := h
  exact (cell_of_row _ _ _ _ _ _ h).trans rfl
theorem B8.c5 (h : B8 w g f) : w.cell? ⟨g, 5, none⟩ = some (.int .i64 (f 5)) := by
  obtain ⟨t, h⟩ := h
  exact (cell_of_row _ _ _ _ _ _ h).trans rfl
theorem B8.c6 (h : B8 w g f) : w.cell? ⟨g, 6, none⟩ = some (.int .i64 (f 6)) := by
  obtain ⟨t, h⟩ := h
  exact (cell_of_row _ _ _ _ _ _ h).trans rfl
theorem B8.c7 (h : B8 w g f) : w.cell? ⟨g, 7, none⟩ = some (.int .i64 (f 7)) := by
  obtain ⟨t, h⟩ := h
  exact (cell_of_row _ _ _ _ _ _ h).trans rfl
theorem B8.free (h : B8 w g f) (o : Nat) : w.frozen? ⟨g, o, none⟩ = false := by
  obtain ⟨t, h⟩ := h
  unfold World.frozen?; rw [h]; simp
theorem B8.lt (h : B8 w g f) : g < w.heap.size := by
  obtain ⟨t, h⟩ := h
  exact (Array.getElem?_eq_some_iff.1 h).1
theorem B8.belowB (h : B8 w g f) (hb : Below B w w') (hg : g < B) : B8 w' g f := by
  obtain ⟨t, h⟩ := h
  exact ⟨t, (hb.block g hg).trans h⟩
theorem B8.below (h : B8 w g f) (hb : Below w.heap.size w w') : B8 w' g f := h.belowB hb h.lt
theorem B8.other (h : B8 w g f) {k o : Nat} (hk : k ≠ g) (v : Value) : B8 (w.setCell ⟨k, o, none⟩ v) g f := by
  obtain ⟨t, h⟩ := h
  exact ⟨t, by rw [heap_setCell_other _ _ _ _ (by simpa using hk.symm)]; exact h⟩
theorem B8.at (h : B8 w g f) (kn : Nat) (hk : kn < 8) : w.cell? ⟨g, kn, none⟩ = some (.int .i64 (f kn)) := by
  have hh : kn = 0 ∨ kn = 1 ∨ kn = 2 ∨ kn = 3 ∨ kn = 4 ∨ kn = 5 ∨ kn = 6 ∨ kn = 7 := by omega
  rcases hh with rfl | rfl | rfl | rfl | rfl | rfl | rfl | rfl
  · exact h.c0
  · exact h.c1
  · exact h.c2
  · exact h.c3
  · exact h.c4
  · exact h.c5
  · exact h.c6
  · exact h.c7
theorem B8.inc (h : B8 w g f) (kn : Nat) (hk : kn < 8) (v : Int) (hv : v = f kn + 1) : B8 (w.setCell ⟨g, kn, none⟩ (.int .i64 v)) g (inc8 f kn) := by
  obtain ⟨t, h⟩ := h
  refine ⟨t, ?_⟩
  rw [heap_setCell_same w g kn _ _ _ h]
  subst hv
  have hh : kn = 0 ∨ kn = 1 ∨ kn = 2 ∨ kn = 3 ∨ kn = 4 ∨ kn = 5 ∨ kn = 6 ∨ kn = 7 := by omega
  rcases hh with rfl | rfl | rfl | rfl | rfl | rfl | rfl | rfl <;> rfl
theorem B8.there (h : B8 w g f) : w.there g 0 8 := fun kn hk => by
  refine ⟨?_, h.free _⟩
  rw [Nat.zero_add, h.at kn hk]
  rfl
theorem B8.puts (h : B8 w g f) (d : Nat → Int) : B8 (w.setCells g 0 (c8 d).toList) g d := by
  obtain ⟨t, h⟩ := h
  refine ⟨t, ?_⟩
  exact sets_row g t (c8 d).toList 0 w [] (c8 f).toList (by rw [Array.toArray_toList]; exact h) rfl rfl
theorem B8.range (h : B8 w g f) : w.rangeAt g 0 (l8 f) := fun kn v hv => by
  have hk : kn < 8 := (List.getElem?_eq_some_iff.1 hv).1
  rw [Nat.zero_add, h.at kn hk, ← hv]
  have hh : kn = 0 ∨ kn = 1 ∨ kn = 2 ∨ kn = 3 ∨ kn = 4 ∨ kn = 5 ∨ kn = 6 ∨ kn = 7 := by omega
  rcases hh with rfl | rfl | rfl | rfl | rfl | rfl | rfl | rfl <;> rfl
end
theorem eight_one (f : Nat → Int) : (c8 f).all (·.oneCell') = true := all_oneCell_toArray (cs := [.int .i64 (f 0), .int .i64 (f 1), .int .i64 (f 2), .int .i64 (f 3), .int .i64 (f 4), .int .i64 (f 5), .int .i64 (f 6), .int .i64 (f 7)]) (fun v hv => by
  simp at hv
  rcases hv with rfl | rfl | rfl | rfl | rfl | rfl | rfl | rfl <;> rfl)
theorem results_arr {P : Program} {fn : Func} {p q : Tmp} {ty : TypeId} (h : fn.results = #[.cell p ty, .tmp q]) (tmps : Array Value) (w : World) (g : Nat) (t : TypeId) (cs : Array Value) (fr : Nat × Nat) (d : TypeDesc) (v : Value)
    (hp : tmps.getD p undef = .pointer (some ⟨g, 0, none⟩)) (hq : tmps.getD q undef = v) (hg : w.heap[g]? = some (.cells cs t fr))
    (hu : P.underlying ty = some d) (hd : (match d with | .struct _ | .array _ _ => true | _ => false) = true) (hi : (P.info? ty).map (·.size) = some cs.size) :
    (results fn tmps).run P w = .ok (.tuple #[.agg cs, v]) w := by
  have hp' : tmps[p]?.getD undef = .pointer (some ⟨g, 0, none⟩) := by simpa using hp
  have hq' : tmps[q]?.getD undef = v := by simpa using hq
  simp [results, h, hp', hq', asAddr, run_loadVar_row w g t ty cs fr d hg hu hd hi]
def wiC (n : Int) (gs : List (List Int)) : Int := lsC n gs []
def wiV (n : Int) (gs : List (List Int)) : Nat → Int := if lsC n gs [] = 0 then wtTo gs gs.length else fun _ => 0
set_option maxRecDepth 100000 in
set_option maxHeartbeats 4000000 in
theorem eqA8_refl (f : Nat → Int) (w : World) :
    Calls Try.prog 66 #[v8 f, v8 f] w fun e w' => e = .returned (.bool true) ∧ Below w.heap.size w w' := by
  go_enter Try.func66, Try.ntmps66
  go_wp2_with fail
  obtain ⟨a1, a2, hb1, s1⟩ := nw2 w (.cells (c8 f) 62) (.cells (c8 f) 62)
  generalize World.alloc (World.alloc w _) _ = w1 at a1 a2 hb1 s1 ⊢
  have H1 : Hid (B8 w1 w.heap.size f) := Lib.hid ⟨_, a1⟩
  have H2 : Hid (B8 w1 (w.heap.size + 1) f) := Lib.hid ⟨_, a2⟩
  have HB := Lib.hid hb1
  clear a1 a2 hb1 s1
  go_loopw [5] (fun y wr => ∃ k m : Nat, y = .int .i64 (k : Int) ∧ k ≤ 8 ∧ wr = w1.drewN m) (fun y _ => 8 - (intOf y).toNat)
  case atStart => exact ⟨0, 0, rfl, by omega, rfl⟩
  case round =>
    obtain ⟨k, m, rfl, hk, rfl⟩ := hrel
    by_cases hlt : k < 8
    · have q1 := H1.out.at k hlt
      have q2 := H2.out.at k hlt
      obtain ⟨v, hv⟩ : ∃ v, v = f k := ⟨_, rfl⟩
      rw [← hv] at q1 q2
      have T1 : decide ((k : Int) < 8) = true := by simp; omega
      have T2 : (v != v) = false := by simp
      have i1 : (k : Int) < 8 := by omega
      clear hv
      go_wp2_with fail
      go_quiet (fail)
      go_wp2_with fail
      exact ⟨⟨k + 1, m + nq, by go_num, by omega, rfl⟩, by simp [intOf]; omega⟩
    · obtain rfl : k = 8 := by omega
      have T1 : decide (((8 : Nat) : Int) < 8) = false := by simp
      go_wp2_with fail
      go_ret
      exact ⟨rfl, bdrewN HB.out m⟩
set_option maxRecDepth 100000 in
set_option maxHeartbeats 4000000 in
theorem spec_WeightsIn (n : Int) (v : Value) (gs : List (List Int)) (hb : -9223372036854775808 ≤ n ∧ n ≤ 9223372036854775807) (hn : gs.length ≤ 1048576) (hm : ∀ i, i < gs.length → (gs.getD i []).length ≤ 1048576) (w : World) (h : WS w v gs) :
    Calls Try.prog 64 #[.int .i64 n, v] w fun e w' => e = .returned (.tuple #[v8 (wiV n gs), .int .i64 (wiC n gs)]) ∧ Below w.heap.size w w' := by
  have HWS := Lib.hid h
  obtain ⟨A, c, us, rfl, hc, hu⟩ := HWS.out.open
  have HM := Lib.hid hm
  have HB := Lib.hid hb
  have HC := Lib.hid hc
  have HU := Lib.hid hu
  clear h hc hu hm hb
  go_enter Try.func64, Try.ntmps64
  go_wp2_with fail
  obtain ⟨a1, a2, hb1, s1⟩ := nw2 w (.cells #[.int .i64 0, .int .i64 0, .int .i64 0, .int .i64 0, .int .i64 0, .int .i64 0, .int .i64 0, .int .i64 0] 62) (.cells #[.int .i64 0, .int .i64 0, .int .i64 0, .int .i64 0, .int .i64 0, .int .i64 0, .int .i64 0, .int .i64 0] 62)
  generalize World.alloc (World.alloc w _) _ = w1 at a1 a2 hb1 s1 ⊢
  refine (l06Listed_any n _ gs hn HM.out HB.out w1 (HWS.out.below hb1)).mono ?_
  rintro e w2 ⟨rfl, m0, hw2⟩
  have hb : Below w1.heap.size w1 w2 := by rw [hw2]; exact bdrewN (Below.refl _ _) m0
  clear hw2
  have HR0 : Hid (B8 w2 w.heap.size (fun _ => 0)) := Lib.hid (B8.belowB ⟨_, a1⟩ hb (by omega))
  have HC0 : Hid (B8 w2 (w.heap.size + 1) (wtTo gs 0)) := Lib.hid (B8.belowB ⟨_, a2⟩ hb (by omega))
  have HB0 := Lib.hid (bch2 hb1 hb hb1.size)
  clear hb hb1 a1 a2 s1
  by_cases h0 : lsC n gs [] = 0
  case neg =>
    obtain ⟨cd, hcd⟩ : ∃ cd, cd = lsC n gs [] := ⟨_, rfl⟩
    have hres : wiC n gs = cd ∧ wiV n gs = fun _ => 0 := ⟨by rw [hcd]; rfl, by unfold wiV; rw [if_neg h0]⟩
    rw [← hcd] at h0 ⊢
    have T1 : (cd != 0) = true := by rw [bne_iff_ne]; exact h0
    have HRES := Lib.hid hres
    have hq := HC0.out
    obtain ⟨zf, hzf⟩ : ∃ zf : Nat → Int, zf = wtTo gs 0 := ⟨_, rfl⟩
    rw [← hzf] at hq
    have HZF := Lib.hid hzf
    have r3 := hq.range
    have r2 := HR0.out.there
    have P2 := Lib.hid (HR0.out.puts zf)
    have B9 := Lib.hid (bsets (g := w.heap.size) (by omega) (c8 zf).toList 0 _ HB0.out)
    obtain ⟨w9, hw9⟩ : ∃ w9, w9 = w2.setCells w.heap.size 0 (c8 zf).toList := ⟨_, rfl⟩
    rw [← hw9] at P2 B9
    have HW9 := Lib.hid hw9
    clear hw9
    clear hq hcd h0 hres hzf
    go_wp2_with (first | (guard_target =~ wpList _ _ _ (⟨_, Op.store 62 _ _, _, _, _, _⟩ :: _) _ _; refine wpList_store_mid rfl 62 _ _ rfl w.heap.size 0 (c8 zf) rfl rfl r2 (by kernel_rfl) (eight_one _) ?_; rw [← HW9.out]) | (guard_target =~ wpList _ _ _ (⟨_, Op.load 62 _, _, _, _, _⟩ :: _) _ _; refine wpList_load_mid rfl 62 _ rfl (w.heap.size + 1) 0 rfl (l8 zf) _ r3 Try.underlying62 rfl (by kernel_rfl) ?_))
    obtain ⟨t8, h8⟩ := P2.out
    refine bodyPost_ret (v := .tuple #[v8 zf, .int .i64 cd]) ?_ rfl ⟨by rw [HRES.out.1, HRES.out.2, show zf = fun _ => 0 from HZF.out], B9.out⟩
    exact results_arr rfl _ _ w.heap.size _ _ (0, 0) _ _ rfl rfl h8 Try.underlying62 rfl (by kernel_rfl)
  obtain ⟨_, hws, h300⟩ := lsC_ok h0
  rw [List.append_nil] at hws
  have HW := Lib.hid hws
  have HRES := Lib.hid (show wiC n gs = 0 ∧ wiV n gs = wtTo gs gs.length from ⟨h0, by unfold wiV; rw [if_pos h0]⟩)
  rw [h0]
  clear h0 hws
  go_wp2_with fail
  go_loopw [8] (fun y wr => ∃ k : Nat, y = .int .i64 (k : Int) ∧ k ≤ gs.length ∧ Hid (Below w.heap.size w wr) ∧ Hid (B8 wr w.heap.size (fun _ => 0)) ∧ Hid (B8 wr (w.heap.size + 1) (wtTo gs k))) (fun y _ => gs.length - (intOf y).toNat)
  case atStart => exact ⟨0, rfl, Nat.zero_le _, HB0, HR0, HC0⟩
  case round =>
    obtain ⟨k, rfl, hk, HBR, HR, HCN⟩ := hrel
    clear HB0 HR0 HC0
    by_cases hlt : k < gs.length
    · obtain ⟨b, off, rfl, hlb, hcell⟩ := HC.out (by omega)
      have i1 : (k : Int) < (gs.length : Int) := by omega
      have q1 : wr.cell? ⟨b, off + k, none⟩ = some (us k) := (HBR.out.cell (p := ⟨b, off + k, none⟩) hlb).trans (hcell k hlt)
      have n1 := (HU.out k hlt).below HBR.out
      have hw7 := ws_len HW.out hlt
      have hwt := specWeight_any (us k) (gs.getD k []) (by omega) wr n1
      have hkn : wtN (gs.getD k []) < 8 := by have := wtN_le (gs.getD k []); omega
      obtain ⟨kn, hkn2⟩ : ∃ kn, kn = wtN (gs.getD k []) := ⟨_, rfl⟩
      rw [← hkn2] at hwt hkn
      obtain ⟨ux, hux⟩ : ∃ u, u = us k := ⟨_, rfl⟩
      rw [← hux] at q1 hwt
      have HWT := Lib.hid hwt
      have i2 : (kn : Int) < 8 := by omega
      have hc := HCN.out
      have hr := HR.out
      have q2 := hc.at kn hkn
      have q3 := hc.free kn
      have sm := wtTo_b gs k kn
      obtain ⟨v, hv⟩ : ∃ v, v = wtTo gs k kn := ⟨_, rfl⟩
      rw [← hv] at q2 sm
      have H4 := Lib.hid (show B8 (wr.setCell ⟨w.heap.size + 1, kn, none⟩ (.int .i64 (v + 1))) (w.heap.size + 1) (wtTo gs (k + 1)) from by
        have := hc.inc kn hkn (v + 1) (by rw [hv])
        rw [wtTo, ← hkn2]; exact this)
      have H5 := Lib.hid (hr.other (k := w.heap.size + 1) (o := kn) (by omega) (.int .i64 (v + 1)))
      have H6 := Lib.hid (HBR.out.setCell (p := ⟨w.heap.size + 1, kn, none⟩) (by show w.heap.size ≤ w.heap.size + 1; omega) (.int .i64 (v + 1)))
      have HCL := Lib.hid hcell
      clear hc hr hv HBR HR HCN n1 hw7 hkn2 hux hwt hcell
      go_wp2_with fail
      refine HWT.out.mono ?_
      rintro e w' ⟨rfl, rfl⟩
      go_wp2_with fail
      exact ⟨⟨k + 1, by go_num, by omega, H6, H5, H4⟩, by simp [intOf]; omega⟩
    · obtain rfl : k = gs.length := by omega
      have T1 : decide ((gs.length : Int) < (gs.length : Int)) = false := by simp
      have hc := HCN.out
      have hr := HR.out
      obtain ⟨cc, hcc⟩ : ∃ cc, cc = wtTo gs gs.length := ⟨_, rfl⟩
      rw [← hcc] at hc
      have r3 := hc.range
      have r2 := hr.there
      have P2 := Lib.hid (hr.puts cc)
      have B9 := Lib.hid (bsets (g := w.heap.size) (by omega) (c8 cc).toList 0 _ HBR.out)
      obtain ⟨w9, hw9⟩ : ∃ w9, w9 = wr.setCells w.heap.size 0 (c8 cc).toList := ⟨_, rfl⟩
      rw [← hw9] at P2 B9
      have HW9 := Lib.hid hw9
      clear hw9
      have HK := Lib.hid hcc
      clear hc hr hcc
      go_wp2_with (first | (guard_target =~ wpList _ _ _ (⟨_, Op.store 62 _ _, _, _, _, _⟩ :: _) _ _; refine wpList_store_mid rfl 62 _ _ rfl w.heap.size 0 (c8 cc) rfl rfl r2 (by kernel_rfl) (eight_one _) ?_; rw [← HW9.out]) | (guard_target =~ wpList _ _ _ (⟨_, Op.load 62 _, _, _, _, _⟩ :: _) _ _; refine wpList_load_mid rfl 62 _ rfl (w.heap.size + 1) 0 rfl (l8 cc) _ r3 Try.underlying62 rfl (by kernel_rfl) ?_))
      obtain ⟨t8, h8⟩ := P2.out
      refine bodyPost_ret (v := .tuple #[v8 cc, .int .i64 0]) ?_ rfl ⟨by rw [HRES.out.1, HRES.out.2, ← HK.out], B9.out⟩
      exact results_arr rfl _ _ w.heap.size _ _ (0, 0) _ _ rfl rfl h8 Try.underlying62 rfl (by kernel_rfl)
set_option maxRecDepth 100000 in
set_option maxHeartbeats 4000000 in
theorem impl_WeightsIn (n : Int) (v : Value) (gs : List (List Int)) (hb : -9223372036854775808 ≤ n ∧ n ≤ 9223372036854775807) (hn : gs.length ≤ 1048576) (hm : ∀ i, i < gs.length → (gs.getD i []).length ≤ 1048576) (w : World) (h : WC w v gs) :
    Calls Try.prog 65 #[.int .i64 n, v] w fun e w' => e = .returned (.tuple #[v8 (wiV n gs), .int .i64 (wiC n gs)]) ∧ Below w.heap.size w w' := by
  have HWS := Lib.hid h.ws
  obtain ⟨A, c, us, rfl, hc, hu⟩ := HWS.out.open
  have HM := Lib.hid hm
  have HB := Lib.hid hb
  have HC := Lib.hid hc
  have HU := Lib.hid hu
  clear h hc hu hm hb
  go_enter Try.func65, Try.ntmps65
  go_wp2_with fail
  obtain ⟨a1, a2, hb1, s1⟩ := nw2 w (.cells #[.int .i64 0, .int .i64 0, .int .i64 0, .int .i64 0, .int .i64 0, .int .i64 0, .int .i64 0, .int .i64 0] 62) (.cells #[.int .i64 0, .int .i64 0, .int .i64 0, .int .i64 0, .int .i64 0, .int .i64 0, .int .i64 0, .int .i64 0] 62)
  generalize World.alloc (World.alloc w _) _ = w1 at a1 a2 hb1 s1 ⊢
  refine (openList_any n _ _ gs [] hn (by simp) (by simpa using HM.out) HB.out w1 (HWS.out.below hb1) (WS.nil w1 none 0)).mono ?_
  rintro e w2 ⟨rfl, hb⟩
  have HR0 : Hid (B8 w2 w.heap.size (fun _ => 0)) := Lib.hid (B8.belowB ⟨_, a1⟩ hb (by omega))
  have HC0 : Hid (B8 w2 (w.heap.size + 1) (wtTo gs 0)) := Lib.hid (B8.belowB ⟨_, a2⟩ hb (by omega))
  have HB0 := Lib.hid (bch2 hb1 hb hb1.size)
  clear hb hb1 a1 a2 s1
  by_cases h0 : lsC n gs [] = 0
  case neg =>
    obtain ⟨cd, hcd⟩ : ∃ cd, cd = lsC n gs [] := ⟨_, rfl⟩
    have hres : wiC n gs = cd ∧ wiV n gs = fun _ => 0 := ⟨by rw [hcd]; rfl, by unfold wiV; rw [if_neg h0]⟩
    rw [← hcd] at h0 ⊢
    have T1 : (cd != 0) = true := by rw [bne_iff_ne]; exact h0
    have HRES := Lib.hid hres
    have hq := HC0.out
    obtain ⟨zf, hzf⟩ : ∃ zf : Nat → Int, zf = wtTo gs 0 := ⟨_, rfl⟩
    rw [← hzf] at hq
    have HZF := Lib.hid hzf
    have r3 := hq.range
    have r2 := HR0.out.there
    have P2 := Lib.hid (HR0.out.puts zf)
    have B9 := Lib.hid (bsets (g := w.heap.size) (by omega) (c8 zf).toList 0 _ HB0.out)
    obtain ⟨w9, hw9⟩ : ∃ w9, w9 = w2.setCells w.heap.size 0 (c8 zf).toList := ⟨_, rfl⟩
    rw [← hw9] at P2 B9
    have HW9 := Lib.hid hw9
    clear hw9
    clear hq hcd h0 hres hzf
    go_wp2_with (first | (guard_target =~ wpList _ _ _ (⟨_, Op.store 62 _ _, _, _, _, _⟩ :: _) _ _; refine wpList_store_mid rfl 62 _ _ rfl w.heap.size 0 (c8 zf) rfl rfl r2 (by kernel_rfl) (eight_one _) ?_; rw [← HW9.out]) | (guard_target =~ wpList _ _ _ (⟨_, Op.load 62 _, _, _, _, _⟩ :: _) _ _; refine wpList_load_mid rfl 62 _ rfl (w.heap.size + 1) 0 rfl (l8 zf) _ r3 Try.underlying62 rfl (by kernel_rfl) ?_))
    obtain ⟨t8, h8⟩ := P2.out
    refine bodyPost_ret (v := .tuple #[v8 zf, .int .i64 cd]) ?_ rfl ⟨by rw [HRES.out.1, HRES.out.2, show zf = fun _ => 0 from HZF.out], B9.out⟩
    exact results_arr rfl _ _ w.heap.size _ _ (0, 0) _ _ rfl rfl h8 Try.underlying62 rfl (by kernel_rfl)
  obtain ⟨_, hws, h300⟩ := lsC_ok h0
  rw [List.append_nil] at hws
  have HW := Lib.hid hws
  have HRES := Lib.hid (show wiC n gs = 0 ∧ wiV n gs = wtTo gs gs.length from ⟨h0, by unfold wiV; rw [if_pos h0]⟩)
  rw [h0]
  clear h0 hws
  go_wp2_with fail
  go_loopw [23] (fun y wr => ∃ k : Nat, y = .int .i64 (k : Int) ∧ k ≤ gs.length ∧ Hid (Below w.heap.size w wr) ∧ Hid (B8 wr w.heap.size (fun _ => 0)) ∧ Hid (B8 wr (w.heap.size + 1) (wtTo gs k))) (fun y _ => gs.length - (intOf y).toNat)
  case atStart => exact ⟨0, rfl, Nat.zero_le _, HB0, HR0, HC0⟩
  case round =>
    obtain ⟨k, rfl, hk, HBR, HR, HCN⟩ := hrel
    clear HB0 HR0 HC0
    by_cases hlt : k < gs.length
    · obtain ⟨b, off, rfl, hlb, hcell⟩ := HC.out (by omega)
      have i1 : (k : Int) < (gs.length : Int) := by omega
      have q1 : wr.cell? ⟨b, off + k, none⟩ = some (us k) := (HBR.out.cell (p := ⟨b, off + k, none⟩) hlb).trans (hcell k hlt)
      have n1 := (HU.out k hlt).below HBR.out
      have hw7 := ws_len HW.out hlt
      have hwt := weight_any (us k) (gs.getD k []) (by omega) wr n1
      have hkn : wtN (gs.getD k []) < 8 := by have := wtN_le (gs.getD k []); omega
      obtain ⟨kn, hkn2⟩ : ∃ kn, kn = wtN (gs.getD k []) := ⟨_, rfl⟩
      rw [← hkn2] at hwt hkn
      obtain ⟨ux, hux⟩ : ∃ u, u = us k := ⟨_, rfl⟩
      rw [← hux] at q1 hwt
      have HWT := Lib.hid hwt
      have i2 : (kn : Int) < 8 := by omega
      have hc := HCN.out
      have hr := HR.out
      have q2 := hc.at kn hkn
      have q3 := hc.free kn
      have sm := wtTo_b gs k kn
      obtain ⟨v, hv⟩ : ∃ v, v = wtTo gs k kn := ⟨_, rfl⟩
      rw [← hv] at q2 sm
      have H4 := Lib.hid (show B8 (wr.setCell ⟨w.heap.size + 1, kn, none⟩ (.int .i64 (v + 1))) (w.heap.size + 1) (wtTo gs (k + 1)) from by
        have := hc.inc kn hkn (v + 1) (by rw [hv])
        rw [wtTo, ← hkn2]; exact this)
      have H5 := Lib.hid (hr.other (k := w.heap.size + 1) (o := kn) (by omega) (.int .i64 (v + 1)))
      have H6 := Lib.hid (HBR.out.setCell (p := ⟨w.heap.size + 1, kn, none⟩) (by show w.heap.size ≤ w.heap.size + 1; omega) (.int .i64 (v + 1)))
      have HCL := Lib.hid hcell
      clear hc hr hv HBR HR HCN n1 hw7 hkn2 hux hwt hcell
      go_wp2_with fail
      refine HWT.out.mono ?_
      rintro e w' ⟨rfl, rfl⟩
      go_wp2_with fail
      exact ⟨⟨k + 1, by go_num, by omega, H6, H5, H4⟩, by simp [intOf]; omega⟩
    · obtain rfl : k = gs.length := by omega
      have T1 : decide ((gs.length : Int) < (gs.length : Int)) = false := by simp
      have hc := HCN.out
      have hr := HR.out
      obtain ⟨cc, hcc⟩ : ∃ cc, cc = wtTo gs gs.length := ⟨_, rfl⟩
      rw [← hcc] at hc
      have r3 := hc.range
      have r2 := hr.there
      have P2 := Lib.hid (hr.puts cc)
      have B9 := Lib.hid (bsets (g := w.heap.size) (by omega) (c8 cc).toList 0 _ HBR.out)
      obtain ⟨w9, hw9⟩ : ∃ w9, w9 = wr.setCells w.heap.size 0 (c8 cc).toList := ⟨_, rfl⟩
      rw [← hw9] at P2 B9
      have HW9 := Lib.hid hw9
      clear hw9
      have HK := Lib.hid hcc
      clear hc hr hcc
      go_wp2_with (first | (guard_target =~ wpList _ _ _ (⟨_, Op.store 62 _ _, _, _, _, _⟩ :: _) _ _; refine wpList_store_mid rfl 62 _ _ rfl w.heap.size 0 (c8 cc) rfl rfl r2 (by kernel_rfl) (eight_one _) ?_; rw [← HW9.out]) | (guard_target =~ wpList _ _ _ (⟨_, Op.load 62 _, _, _, _, _⟩ :: _) _ _; refine wpList_load_mid rfl 62 _ rfl (w.heap.size + 1) 0 rfl (l8 cc) _ r3 Try.underlying62 rfl (by kernel_rfl) ?_))
      obtain ⟨t8, h8⟩ := P2.out
      refine bodyPost_ret (v := .tuple #[v8 cc, .int .i64 0]) ?_ rfl ⟨by rw [HRES.out.1, HRES.out.2, ← HK.out], B9.out⟩
      exact results_arr rfl _ _ w.heap.size _ _ (0, 0) _ _ rfl rfl h8 Try.underlying62 rfl (by kernel_rfl)
end Go.Proofs.Ythhjhfkcgokffaa
