/-
  A polynomial put into a polynomial: of the program (a range over a function) and of the model; PolyIn.
-/
import Derived.Test.YtnpadkkjaeblfaaPvE
import Derived.Test.YtnpadkkjaeblfaaPvL
namespace Go.Proofs.Ytnpadkkjaeblfaa
set_option linter.unusedVariables false
set_option linter.unusedSimpArgs false
open Go.ChangeShapes Go.WideShapes Go.ChangeAt Go.RowKit Go.Shelf
attribute [local go_sem] Oper.semAt_some

def inL (ys : List Int) (ps : List (Int × Int)) : List Int := ps.foldl (fun acc p => pPlus (pTimes acc ys) [p.2 % 65536]) []
theorem inL_snoc (ys : List Int) (ps : List (Int × Int)) (p : Int × Int) : inL ys (ps ++ [p]) = pPlus (pTimes (inL ys ps) ys) [p.2 % 65536] := by unfold inL; rw [List.foldl_append]; rfl
theorem one_in (z : Int) : inU [z % 65536] := by
  intro y hy
  rcases List.mem_singleton.1 hy with rfl
  omega
theorem inL_in {ys : List Int} (hy : inU ys) (ps : List (Int × Int)) : inU (inL ys ps) := by
  have main : ∀ (ps : List (Int × Int)) (a : List Int), inU a → inU (ps.foldl (fun acc p => pPlus (pTimes acc ys) [p.2 % 65536]) a) := by
    intro ps
    induction ps with
    | nil => exact fun a h => h
    | cons p ps ih => exact fun a h => ih _ (pPlus_in (pTimes_in h hy) (one_in p.2))
  exact main ps [] inU.nil
theorem mx_le (a b : List Int) : a.length ≤ mx a b ∧ b.length ≤ mx a b ∧ (mx a b = a.length ∨ mx a b = b.length) := by
  unfold mx
  split <;> omega
theorem inL_len (ys : List Int) (ps : List (Int × Int)) : (inL ys ps).length ≤ ps.length * (ys.length + 1) := by
  have main : ∀ (ps : List (Int × Int)) (a : List Int), (ps.foldl (fun acc p => pPlus (pTimes acc ys) [p.2 % 65536]) a).length ≤ a.length + ps.length * (ys.length + 1) := by
    intro ps
    induction ps with
    | nil => intro a; simp
    | cons p ps ih =>
      intro a
      have h1 := ih (pPlus (pTimes a ys) [p.2 % 65536])
      have h2 := pPlus_len (pTimes a ys) [p.2 % 65536]
      have h3 := pTimes_len a ys
      have h4 := mx_le (pTimes a ys) [p.2 % 65536]
      have h5 : ([p.2 % 65536] : List Int).length = 1 := rfl
      rw [h5] at h4
      simp only [List.foldl_cons, List.length_cons]
      rw [Nat.add_mul, Nat.one_mul]
      omega
  have := main ps []
  simpa [inL] using this
def inP (zs ys : List Int) : List Int := inL ys (backK zs zs.length)
theorem po_kept {w w' : World} {B : Nat} {v : Value} {zs : List Int} {row : Option Nat} (h : PO w B v zs) (hg : w.grownBy w' row) (hr : ∀ r, row = some r → r < B ∨ ∃ o : Obj, w.heap[r]? = some o ∧ o.isCells = false) : PO w' B v zs := by
  obtain ⟨A, c, rfl, h1, h2, hz, h3, h4⟩ := h
  refine ⟨A, c, rfl, h1, h2, hz, h3, fun hn => ?_⟩
  obtain ⟨g, k', rfl, ho⟩ := h4 hn
  refine ⟨g, k', rfl, ho.kept hg (.inr ?_)⟩
  rcases ho.2 with ⟨e, h0⟩ | ⟨g', cap, cur, e, hb, hg', _⟩
  · omega
  · cases e
    intro e
    have e2 : row = some g := by first | exact e | exact e.symm
    rcases hr g e2 with q | ⟨o, q1, q2⟩
    · omega
    · rw [hg'] at q1
      cases q1
      simp [Obj.isCells] at q2
theorem po_own {β : Type} (C B : Nat) (f : β → List Int) : Own (fun s W => ∃ r, Boxed W B 25 r ∧ PO W C r (f s)) := by
  intro s W W' row h hg hr
  obtain ⟨r, h1, h2⟩ := h
  exact ⟨r, boxed_own B 25 (fun _ : Unit => r) () W W' row h1 hg hr, po_kept h2 hg (fun r e => .inr (hr r e))⟩
set_option maxRecDepth 100000 in
set_option maxHeartbeats 4000000 in
theorem in_any (v u : Value) (zs ys : List Int) (hz : zs.length ≤ 21) (hy : ys.length ≤ 21) (w : World) (h : NS w v zs) (h' : NS w u ys) :
    Calls Try.prog 108 #[v, u] w fun e w' => ∃ r, e = .returned r ∧ PO w' w.heap.size r (inP zs ys) ∧ Below w.heap.size w w' := by
  have HN := Lib.hid h
  have HN' := Lib.hid h'
  have HU' := Lib.hid (inU_of h')
  obtain ⟨A, c, rfl, _, _⟩ := h
  obtain ⟨A', c', rfl, _, _⟩ := h'
  refine (callsIn_wide (n := 9)).1 ?_
  refine callsIn_of_wp_marks Try.func108 rfl trivial ?_ rfl
  simp only [Try.ntmps108, List.size_toArray, List.length_cons, List.length_nil, Nat.reduceAdd, Nat.reduceSub, Array.replicate_succ, Array.replicate_zero, List.push_toArray, List.append_toArray, List.nil_append, List.cons_append]
  gi_wp2
  refine ⟨trivial, ?_⟩
  refine (backward_in _ _ _ _ _).mono ?_
  rintro e w' ⟨rfl, rfl⟩
  gi_wp2
  obtain ⟨hh, hhe⟩ : ∃ hh, hh = w.heap.size := ⟨_, rfl⟩
  obtain ⟨w0, hw0⟩ : ∃ w0, w0 = (((w.alloc (.cells #[.slice A' ys.length c'] 25)).alloc (.cells #[.slice none 0 0] 25)).alloc (.cells #[.slice A zs.length c] 25)) := ⟨_, rfl⟩
  have hB0 : Below hh w w0 := by rw [hw0, hhe]; exact (((Below.refl _ w).alloc (Nat.le_refl _) _).alloc (by simp <;> omega) _).alloc (by simp <;> omega) _
  have hsz0 : w0.heap.size = hh + 3 := by rw [hw0, hhe]; simp
  have bX : Boxed w0 hh 25 (.slice A' ys.length c') := by rw [hw0, hhe]; exact ((Boxed.new w _ _).alloc _).alloc _
  have bV : Boxed w0 (hh + 1) 25 (.slice none 0 0) := by
    rw [hw0, hhe]
    have := (Boxed.new (w.alloc (.cells #[.slice A' ys.length c'] 25)) 25 (.slice none 0 0)).alloc (.cells #[.slice A zs.length c] 25)
    rwa [World.size_alloc] at this
  have bS : Boxed w0 (hh + 2) 25 (.slice A zs.length c) := by
    rw [hw0, hhe]
    have := Boxed.new ((w.alloc (.cells #[.slice A' ys.length c'] 25)).alloc (.cells #[.slice none 0 0] 25)) 25 (.slice A zs.length c)
    rwa [World.size_alloc, World.size_alloc] at this
  have hN0 : NS w0 (.slice A zs.length c) zs := HN.out.below (by rw [← hhe]; exact hB0)
  have hA : 0 < zs.length → ∀ b off, A = some ⟨b, off, none⟩ → b < hh := by
    intro h1 b off e
    obtain ⟨b', off', e', hlt, _⟩ := HN.out.spot.2 h1
    rw [e] at e'
    cases e'
    rw [hhe]; exact hlt
  rw [← hw0, ← hhe]
  have HHE := Lib.hid hhe
  clear hw0 hhe
  refine wpIn_rangeFunc_ownG rfl (by omega) (gf := 151) (lb := #[.pointer (some ⟨hh + 2, 0, none⟩)]) rfl trivial (enters_of Try.func151 (by kernel_rfl) rfl)
    (Kp := KpB hh (hh + 2)) (encs := fun p : Int × Int => #[.int .i64 p.1, .int .u16 (p.2 % 65536)]) (S := fun qs => qs = backK zs zs.length) (Sp := fun pre => pre <+: backK zs zs.length) (N := zs.length) (w0 := w0)
    (fun l J Jx W hW _ _ hY h0 => back1_in _ l (hh + 2) (by omega) A c zs (by omega) J Jx _ (KpB.keeps hA) hY W ((hW.cell (p := ⟨hh + 2, 0, none⟩) (by show hh + 2 < w0.heap.size; omega)).trans bS.cell) (hN0.below hW) h0)
    (fun h k => h.trans k) (fun W l o o' hl _ _ _ => KpB.put (by omega) W l o' (by omega)) (Below.refl _ _) (fun _ => rfl)
    (fun pre W => (Boxed W hh 25 (.slice A' ys.length c') ∧ ∃ r, Boxed W (hh + 1) 25 r ∧ PO W (hh + 3) r (inL ys pre)) ∧ (Below hh w W ∧ hh + 3 ≤ W.heap.size))
    (fun _ _ _ => False)
    (OwnFrom.and (OwnFrom.and (Own.from (boxed_own hh 25 (fun _ => .slice A' ys.length c')) _) (Own.from (po_own (hh + 3) (hh + 1) (fun pre => inL ys pre)) _)) (OwnFrom.and (ownFrom_below (Nat.le_of_eq HHE.out) (by omega)) (fun s A B row hs hg hr => Nat.le_trans hs hg.size)))
    (fun _ _ _ _ _ hs _ _ => hs)
    ⟨⟨bX, _, bV, PO.nil0 _ _⟩, hB0, by omega⟩
    (fun p => { tmps := #[.slice A zs.length c, .slice A' ys.length c', undef, .pointer (some ⟨hh, 0, none⟩), .slice none 0 0, .pointer (some ⟨hh + 1, 0, none⟩), undef, .int .u16 (p.2 % 65536), .slice A zs.length c, .func (.func 151) #[] #[.pointer (some ⟨hh + 2, 0, none⟩)], .int .i64 p.1, .int .u16 (p.2 % 65536), undef, undef, undef, undef, undef, undef, undef], defers := [] }) ?assign ?body ?done ?stop
  case assign =>
    intro l p W K hK
    gi_wp2
    exact hK
  case body =>
    rintro l pre p W ⟨⟨hx, r, hv, hp⟩, hB, hsz⟩ hlt
    have c1 := hx.cell
    have c2 := hv.cell
    have hlen := inL_len ys pre
    have hlen2 : pre.length * (ys.length + 1) ≤ 21 * 22 := Nat.mul_le_mul (by omega) (by omega)
    have hin := inL_in HU'.out pre
    obtain ⟨y, hy⟩ : ∃ y, y = p.2 % 65536 := ⟨_, rfl⟩
    have hs := inL_snoc ys pre p
    rw [← hy] at hs ⊢
    have hin2 : inU [y] := by rw [hy]; exact one_in p.2
    have hNu : NS W (.slice A' ys.length c') ys := HN'.out.below (by rw [← HHE.out]; exact hB)
    obtain ⟨A1, k1, rfl, _, _⟩ := hp.form
    have ht := ptimes_any _ _ (inL ys pre) ys (by omega) (by omega) W hp.ns hNu
    obtain ⟨L1, hL1⟩ : ∃ L1, L1 = pTimes (inL ys pre) ys := ⟨_, rfl⟩
    have hl1 : L1.length ≤ 1048576 := by rw [hL1]; have := pTimes_len (inL ys pre) ys; omega
    have hu1 : inU L1 := by rw [hL1]; exact pTimes_in hin HU'.out
    rw [← hL1] at ht hs
    have HT := Lib.hid ht
    have HS := Lib.hid hs
    have HX := Lib.hid hx
    have HV := Lib.hid hv
    have HB := Lib.hid hB
    clear ht hs hy hL1 hlen hlen2 hin hNu hp hx hv hB
    gi_wp2
    (try refine ⟨trivial, ?_⟩)
    refine (callsIn_wide.2 HT.out).mono ?_
    rintro e w1 ⟨r1, rfl, ho1, hb1⟩
    obtain ⟨wb, hwb⟩ : ∃ wb, wb = w1.alloc (.cells #[.int .u16 y] 41) := ⟨_, rfl⟩
    have hbb : Below w1.heap.size w1 wb := by rw [hwb]; exact (Below.refl _ _).alloc (Nat.le_refl _) _
    have hsb : wb.heap.size = w1.heap.size + 1 := by rw [hwb]; simp
    have hna : NS wb r1 L1 := (PO.of_own (own_below ho1 hbb) rfl hu1).ns
    have hnb : NS wb (.slice (some ⟨w1.heap.size, 0, none⟩) 1 1) [y] := by
      have h1 : RW wb w1.heap.size [y] := by rw [hwb]; exact heap_alloc_new w1 _
      exact RW.ns h1 hin2 1
    obtain ⟨A2, k2, rfl, _, _⟩ := own_form ho1
    have hpl := ppoly_any _ _ L1 [y] hl1 (by simp) wb hna hnb
    rw [← HS.out] at hpl
    obtain ⟨L2, hL2⟩ : ∃ L2, L2 = inL ys (pre ++ [p]) := ⟨_, rfl⟩
    rw [← hL2] at hpl
    have HPL := Lib.hid hpl
    have HL2 := Lib.hid hL2
    have HB1 := Lib.hid (bchain hb1 hbb)
    have HSB : Hid (W.heap.size ≤ wb.heap.size) := Lib.hid (by have := hb1.size; omega)
    clear hpl hL2 hna hnb hbb hb1 ho1 hu1 hl1 hin2 HS HT hsb
    gi_wp2
    rw [← hwb]
    clear hwb
    (try refine ⟨trivial, ?_⟩)
    refine (callsIn_wide.2 HPL.out).mono ?_
    rintro e w2 ⟨r2, rfl, hp2, hb2⟩
    have hb3 : Below W.heap.size W w2 := bchain HB1.out hb2
    have q3 : Boxed w2 (hh + 1) 25 (.slice A1 (inL ys pre).length k1) := (hb3.block (hh + 1) (by omega)).trans HV.out
    have q2 : Boxed w2 hh 25 (.slice A' ys.length c') := (hb3.block hh (by omega)).trans HX.out
    have q4 := q3.cell
    have q5 := q3.frozen
    obtain ⟨A3, k3, rfl, _, _⟩ := hp2.form
    have HP3 := Lib.hid (hp2.lower (show hh + 3 ≤ wb.heap.size by have := HSB.out; omega))
    have HB3 := Lib.hid hb3
    have HQ3 := Lib.hid q3
    have HQ2 := Lib.hid q2
    clear hp2 hb2 hb3 q3 q2
    gi_wp2
    refine ⟨(keeps_of_below HB3.out).trans ((KeepsOthers.setCell _ _ _).from _), ⟨fun k hk => (Below.heap_setCell _ _ _ _ (by simp; omega)).trans (HB3.out.block k (by omega)), (Below.heap_setCell _ _ _ _ (by simp)).trans (HB3.out.block (hh + 2) (by omega))⟩, ⟨HQ2.out.kept (grownBy_setCell' _ _ _) (by intro e; have := Option.some.inj e; omega), _, HQ3.out.set _, ?_⟩, (HB.out.trans (HB3.out.mono (by omega))).setCell (p := ⟨hh + 1, 0, none⟩) (by show hh ≤ hh + 1; omega) _, by have := HB3.out.size; simp [World.setCell]; omega⟩
    rw [← HL2.out]
    exact po_kept HP3.out (grownBy_setCell' _ _ _) (fun r e => .inl (by have := Option.some.inj e; omega))
  case done =>
    rintro D qs W hD rfl ⟨⟨hx, r, hv, hp⟩, hB, hsz⟩ hK
    have hc := hv.cell
    gi_wp2
    refine ⟨by simp, .inl ⟨_, _, rfl, run_takeDeferred hK, ?_⟩⟩
    exact ⟨_, results_tmp rfl _ _ _, r, rfl, (po_kept hp (grownBy_putObj' W D _) (fun r e => .inr ⟨.deferred (some []), by have e2 := Option.some.inj e; subst e2; exact hK, rfl⟩)).lower (by have := HHE.out; omega), by rw [← HHE.out]; exact hB.trans (belowK_b (w := w0) (by omega) W D _ _ hD hK rfl rfl)⟩
  case stop =>
    rintro D c pre W _ _ h _
    exact h.elim
theorem prod_b (a b : Int) (a0 : -1 ≤ a) (a1 : a ≤ 20) (b0 : -1 ≤ b) (b1 : b ≤ 20) : -20 ≤ a * b ∧ a * b ≤ 400 := by
  have main : ∀ x : Fin 22, ∀ y : Fin 22, -20 ≤ ((x.1 : Int) - 1) * ((y.1 : Int) - 1) ∧ ((x.1 : Int) - 1) * ((y.1 : Int) - 1) ≤ 400 := by decide
  have h := main ⟨(a + 1).toNat, by omega⟩ ⟨(b + 1).toNat, by omega⟩
  have e1 : (((a + 1).toNat : Nat) : Int) - 1 = a := by omega
  have e2 : (((b + 1).toNat : Nat) : Int) - 1 = b := by omega
  simp only [e1, e2] at h
  exact h
theorem slice_one (b off n c i : Nat) (h : i + 1 ≤ c) (w : World) :
    (Instr.slice 25 (.slice (some ⟨b, off, none⟩) n c) (some (.int .i64 (i : Int))) (some (.int .i64 ((i : Int) + 1))) none).run Try.prog w = .ok (.slice (some ⟨b, off + i, none⟩) 1 (c - i)) w := by
  have h1 : ((i : Int) + 1) ≤ (c : Int) := by omega
  have h2 : ((i : Int) + 1).toNat = i + 1 := by omega
  have h3 : (0 : Int) ≤ (i : Int) + 1 := by omega
  have h4 : ¬ c = i := by omega
  simp [Instr.slice, run_underlying Try.underlying25, Instr.sliceBounds, go_sem, h1, h2, h3, h4]
theorem wrap64i (x : Int) (h0 : -1000000 ≤ x) (h1 : x ≤ 1000000) : IntKind.wrap .i64 x = x := by
  simp only [IntKind.wrap, show IntKind.i64.bits = 64 from rfl, show IntKind.i64.signed = true from rfl]
  simp
  omega
theorem pPlus_trim1 (x : List Int) (z : Int) : pPlus x (pTrim [z]) = pPlus x [z] := by
  by_cases h : z = 0
  · subst h
    have e1 : pTrim [0] = [] := rfl
    rw [e1]
    have hf : ∀ i, pXor x [] i = pXor x [0] i := by
      intro i
      unfold pXor
      congr 1
      cases i <;> simp [List.getD]
    by_cases h0 : x.length = 0
    · have e2 : x = [] := List.length_eq_zero_iff.1 h0
      subst e2
      rfl
    · unfold pPlus
      have m1 : mx x [] = x.length := by unfold mx; simp
      have m2 : mx x [0] = x.length := by unfold mx; have : ([0] : List Int).length = 1 := rfl; rw [this]; split <;> omega
      rw [m1, m2]
      congr 1
      exact tab_ext fun i _ => hf i
  · rw [pTrim_id (Or.inr (by simpa using h))]
def inC (a b : List Int) : Int := if okP a && okP b then (if 0 < a.length ∧ 0 < b.length ∧ 20 < ((a.length : Int) - 1) * ((b.length : Int) - 1) then 3 else 0) else 1
def inA (a b : List Int) : List Int := if okP a && okP b then (if 0 < a.length ∧ 0 < b.length ∧ 20 < ((a.length : Int) - 1) * ((b.length : Int) - 1) then [] else inP a b) else []
theorem inC_no {a b : List Int} (h : (okP a && okP b) = false) : inC a b = 1 := by unfold inC; rw [if_neg (by rw [h]; decide)]
theorem inA_no {a b : List Int} (h : (okP a && okP b) = false) : inA a b = [] := by unfold inA; rw [if_neg (by rw [h]; decide)]
theorem in_long {a b : List Int} (h : (okP a && okP b) = true) (hl : 0 < a.length ∧ 0 < b.length ∧ 20 < ((a.length : Int) - 1) * ((b.length : Int) - 1)) : inC a b = 3 ∧ inA a b = [] := by
  unfold inC inA; rw [if_pos h, if_pos h, if_pos hl, if_pos hl]; exact ⟨rfl, rfl⟩
theorem in_yes {a b : List Int} (h : (okP a && okP b) = true) (hl : ¬ (0 < a.length ∧ 0 < b.length ∧ 20 < ((a.length : Int) - 1) * ((b.length : Int) - 1))) : inC a b = 0 ∧ inA a b = inP a b := by
  unfold inC inA; rw [if_pos h, if_pos h, if_neg hl, if_neg hl]; exact ⟨rfl, rfl⟩
theorem inP_len (a b : List Int) (ha : a.length ≤ 21) (hb : b.length ≤ 21) : (inP a b).length ≤ 462 := by
  have h := inL_len b (backK a a.length)
  rw [backK_len] at h
  have h2 : a.length * (b.length + 1) ≤ 21 * 22 := Nat.mul_le_mul ha (by omega)
  unfold inP
  omega
theorem inA_len (a b : List Int) : (inA a b).length ≤ 462 := by
  unfold inA
  split
  · rename_i h
    rw [Bool.and_eq_true] at h
    split
    · simp
    · exact inP_len a b (okP_len h.1) (okP_len h.2)
  · simp
theorem inP_in {a b : List Int} (hb : inU b) : inU (inP a b) := inL_in hb _
end Go.Proofs.Ytnpadkkjaeblfaa
