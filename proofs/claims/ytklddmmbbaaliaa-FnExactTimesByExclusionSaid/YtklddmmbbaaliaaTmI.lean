/-
  Products by exclusion: the program.
-/
import Derived.Test.YtklddmmbbaaliaaTm
import Derived.Maps.GroupsBeside
import Derived.Laws.BitsAllLaws
import Derived.Deep.AppendLies
import Derived.Deep.RegionHeld
namespace Go.Proofs.Ytklddmmbbaaliaa
set_option linter.unusedVariables false
set_option linter.unusedSimpArgs false
open Go.ChangeShapes Go.WideShapes Go.ChangeAt Go.RowKit
open Go.WideMaps Go.Maps
theorem takeH {P : Program} {ops : Array Oper} {Q : Exit → Act → World → Prop} {a : Act} {w : World} {md : Region.Mode} {S : World → Prop} {i : Nat} {oi : Oper} {d : Tmp} {v : Value} {fuel : Nat} {listed : Array Bool} (hi : ops[i]? = some oi) (hd : oi.dst = some d)
    (hs : Region.noSelect ops = true) (hf : Region.free md ops listed i = true) (hr : (Region.ready md ops listed).contains i = true)
    (hQ : ∀ c a w, Q (.panic c) (a.put (some d) v) w → Q (.panic c) a w) (hw : Region.wanted oi (yielded ops a.tmps) = true) (hy : ∀ w, S w → (execOp a.eval oi).run P w = .ok (.value v) w) (hS : S w)
    (h : wpAnyH P md ops Q S fuel (listed.setIfInBounds i true) (a.put (some d) v) w) : wpAnyH P md ops Q S (fuel + 1) listed a w :=
  wpAnyH_take hi hs hf hr (by rw [hd]; exact hQ) (.inl ⟨hw, hy⟩) hS (by rw [hd]; exact h)
theorem um : Try.prog.underlying 40 = some (.map 30 25) := by kernel_rfl
theorem un : Try.prog.underlying 30 = some (.int .u16) := by kernel_rfl
theorem ul : Try.prog.underlying 25 = some (.slice 30) := by kernel_rfl
theorem lawN : Keyed Try.prog 30 := Maps.int_keyed un
theorem zeroN (w : World) : (zeroValue 25).run Try.prog w = .ok (.slice none 0 0) w := by kernel_rfl
theorem grown_of {w w' : World} (h : Below w.heap.size w w') (r : Option Nat) : w.grownBy w' r := ⟨h.os, h.tape, h.output, h.size, fun i hi _ => h.block i hi⟩
abbrev OG (w : World) (B cnt : Nat) (D : DataW Unit) : Prop := w.ownsGroups Try.prog 30 (B + 1) 30 .u16 B cnt D
theorem OG.below {w w' : World} {B cnt : Nat} {D : DataW Unit} (h : OG w B cnt D) (hb : Below w.heap.size w w') : OG w' B cnt D :=
  World.ownsGroups.kept (row := none) h (grown_of hb none) (by simp) (fun es clock _ x _ => by
    cases e : x.val.ownBlock with
    | none => exact .inl rfl
    | some g => exact .inr (by simp))
theorem wfN (n : Nat) (h : n < 65536) : (Lit.int .u16 (n : Int)).wf = true := WalkArith.wf_u16 (by omega)
theorem keyN (n : Nat) (h : n < 65536) : keyOf Try.prog 30 (.int .u16 (n : Int)) = some (.int .u16 (n : Int)) := keyOf_int_mk un (wfN n h)
theorem look_row {w : World} {B : Nat} {D : DataW Unit} {f : Nat → Nat} (hD : MD D f) {x : Nat} {v : Value} {zs : List Int} (hat : D.atKey (.int .u16 (x : Int)) .nil = rowDatum .u16 v zs) (hoi : w.ownsInts (B + 1) 30 .u16 v zs) : zs = rowT x (f x) := DD_row hoi (by rw [← hD.2 x]; exact hat)
theorem rowT_b (i n : Nat) (h1 : i < 32) (h2 : n ≤ 32) : ∀ z ∈ rowT i n, 0 ≤ z ∧ z < 65536 := by
  intro z hz
  unfold rowT at hz
  obtain ⟨y, hy, rfl⟩ := List.mem_map.1 hz
  have := List.mem_range.1 hy
  have := TT_lt (i := i) (k := y) h1 (by omega)
  omega
theorem exL_b (i k n : Nat) (h1 : i < 32) (h2 : k < 32) (hn : n ≤ i * k) : ∀ z ∈ exL TT i k n, 0 ≤ z ∧ z < 65536 := by
  intro z hz
  unfold exL at hz
  obtain ⟨t, ht, rfl⟩ := List.mem_map.1 hz
  have ht := List.mem_range.1 ht
  have hk : 0 < k := by
    rcases Nat.eq_zero_or_pos k with e | e
    · rw [e] at hn; omega
    · exact e
  have g1 : t / k < i := Nat.div_lt_of_lt_mul (by rw [Nat.mul_comm]; omega)
  have g2 := Nat.mod_lt t hk
  have := exN_lt (i := i) (k := k) (x := t / k) (y := t % k) h1 h2 (by omega) (by omega)
  omega
theorem plus_q (p q s : Nat) (h : bits .xor .u16 (p : Int) (q : Int) = (s : Int)) (w : World) :
    Calls Try.prog 14 #[.int .u16 (p : Int), .int .u16 (q : Int)] w fun e w' => e = .returned (.int .u16 (s : Int)) ∧ w' = w := by
  go_enter Try.func14, Try.ntmps14
  go_wp2_with fail
  go_ret
  exact ⟨rfl, rfl⟩
theorem shuns_new {w : World} {B cnt : Nat} {D : DataW Unit} (h : OG w B cnt D) : w.Shuns B (fun g => w.heap.size ≤ g) :=
  World.Shuns.reno (No := fun _ => False) (fun _ _ _ _ _ _ _ => id) h (fun g hg => .inr hg)
theorem OG.lt {w : World} {B cnt : Nat} {D : DataW Unit} (h : OG w B cnt D) : B < w.heap.size := by
  obtain ⟨es, clock, hb, _⟩ := h
  exact (Array.getElem?_eq_some_iff.1 hb).1
theorem ns_back {w wr : World} {base : Nat} {v : Value} {zs : List Int} (hb : Below w.heap.size w wr) (hoi : wr.ownsInts base 30 .u16 v zs) (hz : ∀ z ∈ zs, 0 ≤ z ∧ z < 65536) (hsu : ∀ g, v.ownBlock = some g → ¬ w.heap.size ≤ g) : NS w v zs := by
  have h := hoi.1
  rcases h.2 with ⟨rfl, h0⟩ | ⟨g, cap, cur, rfl, hb', hg, _⟩
  · exact ⟨none, 0, by rw [h0], hz, fun hn => by omega⟩
  · have hlt : g < w.heap.size := Nat.lt_of_not_le (hsu g rfl)
    refine ⟨some ⟨g, 0, none⟩, cap, rfl, hz, fun hn => ⟨g, 0, rfl, hlt, fun i hi => ?_⟩⟩
    rw [← hb.cell (p := ⟨g, 0 + i, none⟩) hlt, Nat.zero_add, h.cellAt i (by omega)]
    simp [List.getD, hi]
set_option maxRecDepth 100000 in
set_option maxHeartbeats 4000000 in
theorem leastProduct_any (a b b1 B cnt : Nat) (D : DataW Unit) (ha : a < 32) (hb : b < b1) (hb1 : b1 ≤ 32) (w : World) (hown : OG w B cnt D) (hcnt : cnt < maxLen) (hD : MD D (fl b1 a b)) :
    Calls Try.prog 13 #[.map (some B), .int .u16 (a : Int), .int .u16 (b : Int)] w fun e w' => e = .returned (.int .u16 ((TT a b : Nat) : Int)) ∧ Below w.heap.size w w' := by
  have hab : a * b ≤ 31 * 31 := Nat.mul_le_mul (by omega) (by omega)
  have cv1 : IntKind.i64.wrap (a : Int) = (a : Int) := by rw [IntKind.wrap_i64]; omega
  have cv2 : IntKind.i64.wrap (b : Int) = (b : Int) := by rw [IntKind.wrap_i64]; omega
  have cv3 : wrap64 ((a : Int) * (b : Int)) = ((a * b : Nat) : Int) := by
    have e : (a : Int) * (b : Int) = ((a * b : Nat) : Int) := by simp
    rw [e]; unfold wrap64; omega
  have CV3 := Lib.hid cv3
  clear cv3
  obtain ⟨i0, hi, hz0, hz1, hz2⟩ := info_parts info25
  have HOWN := Lib.hid hown
  have HSH := Lib.hid (shuns_new hown)
  have HD := Lib.hid hD
  clear hD
  obtain ⟨H, hH⟩ : ∃ H, H = w.heap.size := ⟨_, rfl⟩
  have HH := Lib.hid hH
  have HBB : Hid (B < H) := Lib.hid (by rw [hH]; exact hown.lt)
  clear hown
  go_enter Try.func13, Try.ntmps13
  go_upto_region 2 with (first
    | (refine wpList_make_own _ rfl _ _ 25 rfl w.heap.size 30 i0 (.int .u16 0) 1 ul hi hz0 hz1 _ _ _ (a * b) rfl rfl ?m1 ?m2 ?m3 (Nat.le_refl _) ?_; (try case m1 => first | exact CV3.out | simp); (try case m2 => (rw [hz2]; omega)); (try case m3 => (unfold maxLen; omega))))
  intro w1 how1 hgr1
  have hb1' : Below w.heap.size w w1 := (Below.refl _ w).grown hgr1 (Nat.le_refl _) (fun k hk => by cases hk)
  rw [← hH] at how1 hb1' ⊢
  clear hgr1
  have hown1 := HOWN.out.below (w' := w1) (by rw [← hH]; exact hb1')
  have hsh1 := HSH.out.kept (row := none) (grown_of (show Below w.heap.size w w1 by rw [← hH]; exact hb1') none) (by rw [← hH]; exact HBB.out) (by simp)
  have HO := Lib.hid how1
  have HBL := Lib.hid hb1'
  clear how1 hb1'
  go_upto_region 3 with (first | (at_lookup; refine wpList_lookup_groups_shuns _ rfl _ _ 40 rfl 30 25 30 .u16 lawN um (zeroN _) (B + 1) B cnt D rfl hown1 hcnt _ _ rfl (keyN a (by omega)) ?_; intro v zs hat hoi hzl hback hsu))
  have hns := ns_back (w := w) (by have := HBL.out; rw [hH] at this; exact this) hoi (by obtain rfl := look_row HD.out hat hoi; exact rowT_b a _ ha (by rw [fl_at]; omega)) (hsu _ hsh1)
  obtain rfl := look_row HD.out hat hoi
  rw [fl_at] at hns
  clear hat hoi hzl hback hsu hsh1 hown1
  obtain ⟨A1, c1, rfl, _, hcl⟩ := hns
  rw [rowT_len] at hcl ⊢
  have HCL := Lib.hid hcl
  clear hcl hH
  go_wp2_with fail
  go_loopw [24, 7] (fun p l wr => ∃ x : Nat, p = .int .u16 x ∧ x ≤ a ∧ Hid (wr.ownsRow H 30 1 l (x * b) (u16s (exL TT a b (x * b)))) ∧ Hid (Below H w wr)) (fun p _ _ => a - (intOf p).toNat)
  case atStart => exact ⟨0, rfl, Nat.zero_le _, Lib.hid (by rw [Nat.zero_mul, ← HH.out]; exact HO.out), HBL⟩
  case round =>
    clear HO HBL
    obtain ⟨x, rfl, hx, HO, HBL⟩ := hrel
    by_cases hxa : x < a
    · have T1 : decide ((x : Int) < (a : Int)) = true := by simp; omega
      have hbw : Below w.heap.size w wr := by have := HBL.out; rw [HH.out] at this; exact this
      have hown1 := HOWN.out.below hbw
      have hsh1 := HSH.out.kept (row := none) (grown_of hbw none) (by rw [← HH.out]; exact HBB.out) (by simp)
      go_upto_region 7 with (first | (at_lookup; refine wpList_lookup_groups_shuns _ rfl _ _ 40 rfl 30 25 30 .u16 lawN um (zeroN _) (B + 1) B cnt D rfl hown1 hcnt _ _ rfl (keyN x (by omega)) ?_; intro v zs hat hoi hzl hback hsu))
      have hns := ns_back (w := w) hbw hoi (by obtain rfl := look_row HD.out hat hoi; exact rowT_b x _ (by omega) (by rw [fl_low hxa]; omega)) (hsu _ hsh1)
      obtain rfl := look_row HD.out hat hoi
      rw [fl_low hxa] at hns
      clear hat hoi hzl hback hsu hsh1 hown1 hbw
      obtain ⟨A2, c2, rfl, _, hcl⟩ := hns
      rw [rowT_len] at hcl ⊢
      have HCL2 := Lib.hid hcl
      clear hcl
      go_wp2_with fail
      go_loopw [31, 7] (fun p l wr => ∃ y : Nat, p = .int .u16 y ∧ y ≤ b ∧ Hid (wr.ownsRow H 30 1 l (x * b + y) (u16s (exL TT a b (x * b + y)))) ∧ Hid (Below H w wr)) (fun p _ _ => b - (intOf p).toNat)
      case atStart => exact ⟨0, rfl, Nat.zero_le _, HO, HBL⟩
      case round =>
        clear HO HBL
        obtain ⟨y, rfl, hy, HO, HBL⟩ := hrel
        by_cases hyb : y < b
        · have T2 : decide ((y : Int) < (b : Int)) = true := by simp; omega
          have hpos : x * b + y < a * b := by
            have : (x + 1) * b ≤ a * b := Nat.mul_le_mul_right b (by omega)
            rw [Nat.add_mul] at this; omega
          obtain ⟨g1, o1, rfl, hl1, hc1⟩ := HCL.out (by omega)
          obtain ⟨g2, o2, rfl, hl2, hc2⟩ := HCL2.out (by omega)
          have q1 : w.cell? ⟨g2, o2 + b, none⟩ = some (.int .u16 ((TT x b : Nat) : Int)) := by rw [hc2 b hb, rowT_at x b1 b hb]
          have q2 : w.cell? ⟨g1, o1 + y, none⟩ = some (.int .u16 ((TT a y : Nat) : Int)) := by rw [hc1 y hyb, rowT_at a b y hyb]
          have q3 : w.cell? ⟨g2, o2 + y, none⟩ = some (.int .u16 ((TT x y : Nat) : Int)) := by rw [hc2 y (by omega), rowT_at x b1 y (by omega)]
          have l1 : g1 < H := by rw [HH.out]; exact hl1
          have l2 : g2 < H := by rw [HH.out]; exact hl2
          have HC1 := Lib.hid hc1; have HC2 := Lib.hid hc2
          clear hc1 hc2
          have p1 := TT_lt (i := x) (k := b) (by omega) (by omega)
          have p2 := TT_lt (i := a) (k := y) (by omega) (by omega)
          have p3 := TT_lt (i := x) (k := y) (by omega) (by omega)
          have hu := exN_lt (i := a) (k := b) (x := x) (y := y) (by omega) (by omega) (by omega) (by omega)
          have hsn : exL TT a b (x * b + (y + 1)) = exL TT a b (x * b + y) ++ [((exN TT a b x y : Nat) : Int)] := by
            rw [← Nat.add_assoc, exL_snoc, (pos_div hyb).1, (pos_div hyb).2]
          have hge : TT x b ^^^ TT a y ^^^ TT x y = exN TT a b x y := rfl
          obtain ⟨p, hp⟩ : ∃ p, TT x b = p := ⟨_, rfl⟩
          obtain ⟨q, hq⟩ : ∃ q, TT a y = q := ⟨_, rfl⟩
          obtain ⟨r, hr⟩ : ∃ r, TT x y = r := ⟨_, rfl⟩
          obtain ⟨u, hu2⟩ : ∃ u, exN TT a b x y = u := ⟨_, rfl⟩
          rw [hp] at q1 p1; rw [hq] at q2 p2; rw [hr] at q3 p3
          rw [hu2] at hu hsn
          rw [hp, hq, hr, hu2] at hge
          obtain ⟨s, hs⟩ : ∃ s, p ^^^ q = s := ⟨_, rfl⟩
          have hs2 : s < 1024 := by rw [← hs]; exact Nat.xor_lt_two_pow (n := 10) p1 p2
          have e1 : bits .xor .u16 (p : Int) (q : Int) = (s : Int) := by rw [u16_xor_nat p q (by omega) (by omega), hs]
          rw [hs] at hge
          have e2 : bits .xor .u16 (s : Int) (r : Int) = (u : Int) := by rw [u16_xor_nat s r (by omega) (by omega), hge]
          have i1 : (y : Int) < (b : Int) := by omega
          have i2 : (b : Int) < (b1 : Int) := by omega
          have i3 : (y : Int) < (b1 : Int) := by omega
          have HSN := Lib.hid hsn
          have E1 := Lib.hid e1
          have E2 := Lib.hid e2
          clear hp hq hr hu2 hge hs e1 e2 hsn
          have Q1 := Lib.hid q1; have Q2 := Lib.hid q2; have Q3 := Lib.hid q3
          clear q1 q2 q3
          go_wp2_with fail
          refine wp_region_held_drew (S := fun v => Below H w v) (by kernel_rfl) ?hS0 (fun hS => ?_)
          case hS0 => exact HBL.out.drew
          have k1 : wr.drew.ownsRow H 30 1 _ (x * b + y) (u16s (exL TT a b (x * b + y))) := HO.out
          have k3 : H ≤ wr.drew.heap.size := by rw [HH.out]; exact hS.size
          clear HO HBL
          generalize wr.drew = wd at k1 k3 hS ⊢
          refine takeH (i := 0) (v := ?v0) rfl rfl (by kernel_rfl) (by kernel_rfl) (by kernel_rfl) (fun _ _ _ h => h) rfl ?hy0 hS ?rs0
          case hy0 => (intro wq hq; go_simp; try (with_reducible rfl))
          simp only [Act.put, List.setIfInBounds_toArray, List.set_cons_zero, List.set_cons_succ]
          refine takeH (i := 1) (v := ?v1) rfl rfl (by kernel_rfl) (by kernel_rfl) (by kernel_rfl) (fun _ _ _ h => h) rfl ?hy1 hS ?rs1
          case hy1 => (intro wq hq; go_simp; try (with_reducible rfl))
          simp only [Act.put, List.setIfInBounds_toArray, List.set_cons_zero, List.set_cons_succ]
          refine takeH (i := 2) (v := ?v2) rfl rfl (by kernel_rfl) (by kernel_rfl) (by kernel_rfl) (fun _ _ _ h => h) rfl ?hy2 hS ?rs2
          case hy2 => (intro wq hq; go_simp; try (with_reducible rfl))
          simp only [Act.put, List.setIfInBounds_toArray, List.set_cons_zero, List.set_cons_succ]
          refine takeH (i := 3) (v := ?v3) rfl rfl (by kernel_rfl) (by kernel_rfl) (by kernel_rfl) (fun _ _ _ h => h) rfl ?hy3 hS ?rs3
          case hy3 => (intro wq hq; go_simp; try (with_reducible rfl))
          simp only [Act.put, List.setIfInBounds_toArray, List.set_cons_zero, List.set_cons_succ]
          refine takeH (i := 4) (v := ?v4) rfl rfl (by kernel_rfl) (by kernel_rfl) (by kernel_rfl) (fun _ _ _ h => h) rfl ?hy4 hS ?rs4
          case hy4 => (intro wq hq; have z1 := (hq.cell (p := ⟨g2, o2 + b, none⟩) l2).trans Q1.out; have z2 := (hq.cell (p := ⟨g1, o1 + y, none⟩) l1).trans Q2.out; have z3 := (hq.cell (p := ⟨g2, o2 + y, none⟩) l2).trans Q3.out; go_simp; try (with_reducible rfl))
          simp only [Act.put, List.setIfInBounds_toArray, List.set_cons_zero, List.set_cons_succ]
          refine takeH (i := 5) (v := ?v5) rfl rfl (by kernel_rfl) (by kernel_rfl) (by kernel_rfl) (fun _ _ _ h => h) rfl ?hy5 hS ?rs5
          case hy5 => (intro wq hq; go_simp; try (with_reducible rfl))
          simp only [Act.put, List.setIfInBounds_toArray, List.set_cons_zero, List.set_cons_succ]
          refine takeH (i := 6) (v := ?v6) rfl rfl (by kernel_rfl) (by kernel_rfl) (by kernel_rfl) (fun _ _ _ h => h) rfl ?hy6 hS ?rs6
          case hy6 => (intro wq hq; go_simp; try (with_reducible rfl))
          simp only [Act.put, List.setIfInBounds_toArray, List.set_cons_zero, List.set_cons_succ]
          refine takeH (i := 7) (v := ?v7) rfl rfl (by kernel_rfl) (by kernel_rfl) (by kernel_rfl) (fun _ _ _ h => h) rfl ?hy7 hS ?rs7
          case hy7 => (intro wq hq; go_simp; try (with_reducible rfl))
          simp only [Act.put, List.setIfInBounds_toArray, List.set_cons_zero, List.set_cons_succ]
          refine takeH (i := 8) (v := ?v8) rfl rfl (by kernel_rfl) (by kernel_rfl) (by kernel_rfl) (fun _ _ _ h => h) rfl ?hy8 hS ?rs8
          case hy8 => (intro wq hq; have z1 := (hq.cell (p := ⟨g2, o2 + b, none⟩) l2).trans Q1.out; have z2 := (hq.cell (p := ⟨g1, o1 + y, none⟩) l1).trans Q2.out; have z3 := (hq.cell (p := ⟨g2, o2 + y, none⟩) l2).trans Q3.out; go_simp; try (with_reducible rfl))
          simp only [Act.put, List.setIfInBounds_toArray, List.set_cons_zero, List.set_cons_succ]
          refine takeH (i := 10) (v := ?v10) rfl rfl (by kernel_rfl) (by kernel_rfl) (by kernel_rfl) (fun _ _ _ h => h) rfl ?hy10 hS ?rs10
          case hy10 => (intro wq hq; go_simp; try (with_reducible rfl))
          simp only [Act.put, List.setIfInBounds_toArray, List.set_cons_zero, List.set_cons_succ]
          refine takeH (i := 11) (v := ?v11) rfl rfl (by kernel_rfl) (by kernel_rfl) (by kernel_rfl) (fun _ _ _ h => h) rfl ?hy11 hS ?rs11
          case hy11 => (intro wq hq; go_simp; try (with_reducible rfl))
          simp only [Act.put, List.setIfInBounds_toArray, List.set_cons_zero, List.set_cons_succ]
          refine takeH (i := 12) (v := ?v12) rfl rfl (by kernel_rfl) (by kernel_rfl) (by kernel_rfl) (fun _ _ _ h => h) rfl ?hy12 hS ?rs12
          case hy12 => (intro wq hq; go_simp; try (with_reducible rfl))
          simp only [Act.put, List.setIfInBounds_toArray, List.set_cons_zero, List.set_cons_succ]
          refine takeH (i := 13) (v := ?v13) rfl rfl (by kernel_rfl) (by kernel_rfl) (by kernel_rfl) (fun _ _ _ h => h) rfl ?hy13 hS ?rs13
          case hy13 => (intro wq hq; have z1 := (hq.cell (p := ⟨g2, o2 + b, none⟩) l2).trans Q1.out; have z2 := (hq.cell (p := ⟨g1, o1 + y, none⟩) l1).trans Q2.out; have z3 := (hq.cell (p := ⟨g2, o2 + y, none⟩) l2).trans Q3.out; go_simp; try (with_reducible rfl))
          simp only [Act.put, List.setIfInBounds_toArray, List.set_cons_zero, List.set_cons_succ]
          refine wpAnyH_ready (rs := [9]) (by kernel_rfl) (by simp) ?_
          refine AllReadyH.cons rfl (fun K hK => ?_) AllReadyH.nil
          go_simp
          refine (plus_q p q s E1.out _).mono ?_
          rintro e wn ⟨rfl, hwn⟩
          obtain rfl := hwn.symm
          refine hK.out _ _ hS (fun hS => ?_)
          clear hK
          try simp only [Act.put, List.setIfInBounds_toArray, List.set_cons_zero, List.set_cons_succ]
          refine wpAnyH_ready (rs := [14]) (by kernel_rfl) (by simp) ?_
          refine AllReadyH.cons rfl (fun K hK => ?_) AllReadyH.nil
          go_simp
          refine (plus_q s r u E2.out _).mono ?_
          rintro e wn ⟨rfl, hwn⟩
          obtain rfl := hwn.symm
          refine hK.out _ _ hS (fun hS => ?_)
          clear hK
          try simp only [Act.put, List.setIfInBounds_toArray, List.set_cons_zero, List.set_cons_succ]
          refine wpAnyH_ready (rs := [15]) (by kernel_rfl) (by simp) ?_
          refine AllReadyH.cons rfl (fun K hK => ?_) AllReadyH.nil
          go_simp
          refine hK.out _ _ (hS.alloc k3 _) (fun hS => ?_)
          clear hK
          try simp only [Act.put, List.setIfInBounds_toArray, List.set_cons_zero, List.set_cons_succ]
          refine wpAnyH_ready (rs := [16]) (by kernel_rfl) (by simp) ?_
          refine AllReadyH.cons rfl (fun K hK => ?_) AllReadyH.nil
          simp only [List.getElem_toArray, List.getElem_cons_zero, List.getElem_cons_succ]
          rw [if_pos (by rfl)]
          refine wp_append_lies _ _ _ 25 rfl H 30 i0 (.int .u16 0) 1 2 ul hi hz0 hz1 hz2 rfl (by decide) _ (x * b + y) _ rfl (k1.alloc _) ⟨wd.heap.size, 0, none⟩ 1 1 [.int .u16 u] rfl rfl ?c1 ?c2 (by decide) ?c3 ?c4 ?c5 _ rfl ?_
          try case c1 => exact cell_one_new _ _ _
          try case c2 => (first | (simp [Value.oneCell']) | omega | (rw [World.size_alloc]; omega))
          try case c3 => (first | (unfold maxLen; omega) | omega | (rw [World.size_alloc]; omega))
          try case c4 => (first | (omega) | omega | (rw [World.size_alloc]; omega))
          try case c5 => (first | (rw [World.size_alloc]; omega) | omega | (rw [World.size_alloc]; omega))
          intro g3 cap3 wz p4 hgr hat hl
          have p5 : wz.ownsRow H 30 1 (.slice (some ⟨g3, 0, none⟩) (x * b + y + 1) cap3) (x * b + (y + 1)) (u16s (exL TT a b (x * b + (y + 1)))) := by
            have e : u16s (exL TT a b (x * b + (y + 1))) = u16s (exL TT a b (x * b + y)) ++ [.int .u16 (u : Int)] := by rw [HSN.out]; simp [u16s]
            rw [e]; exact p4
          have p6 : Below H w wz := hS.grown hgr (by rw [World.size_alloc]; omega) (fun j hj => (k1.lt j hj).1)
          refine hK.out _ _ p6 (fun hS => ?_)
          clear hK
          try simp only [Act.put, List.setIfInBounds_toArray, List.set_cons_zero, List.set_cons_succ]
          have HO := Lib.hid p5
          have HBL := Lib.hid p6
          clear p4 p5 p6 hgr hat hl k1 k3
          refine takeH (i := 17) (v := ?v17) rfl rfl (by kernel_rfl) (by kernel_rfl) (by kernel_rfl) (fun _ _ _ h => h) rfl ?hy17 hS ?rs17
          case hy17 => (intro wq hq; go_simp; try (with_reducible rfl))
          simp only [Act.put, List.setIfInBounds_toArray, List.set_cons_zero, List.set_cons_succ]
          refine wpAnyH_done (by kernel_rfl) ?_ _
          go_wp2_with fail
          exact ⟨⟨y + 1, by go_num, by omega, HO, HBL⟩, by simp [intOf]; omega⟩
        · obtain rfl : y = b := by omega
          have T2 : decide ((y : Int) < (y : Int)) = false := by simp
          go_wp2_with fail
          exact ⟨⟨x + 1, by go_num, by omega, by rw [Nat.add_mul, Nat.one_mul]; exact HO, HBL⟩, by simp [intOf]; omega⟩
    · obtain rfl : x = a := by omega
      have T1 : decide ((x : Int) < (x : Int)) = false := by simp
      go_wp2_with fail
      refine (impl_ExcludedBy _ (exL TT x b (x * b)) (by rw [exL_len]; omega) _ (NS.of_own (by have := HO.out; rw [exL_len]; exact this) (exL_b x b _ ha (by omega) (Nat.le_refl _)))).mono ?_
      rintro e w5 ⟨hd, hb5⟩
      obtain ⟨m, rfl, hm⟩ : ∃ m : Nat, e = .returned (.tuple #[.int .i64 (m : Int), .int .i64 0]) ∧ mexP (exL TT x b (x * b)) m := by
        rcases hd with ⟨_, m, h1, h2⟩ | ⟨h1, _⟩
        · exact ⟨m, h1, h2⟩
        · rw [exL_len] at h1; omega
      obtain rfl := hm.one (TT_mex x b)
      have hmb := TT_lt (i := x) (k := b) ha (by omega)
      have cv4 : IntKind.u16.wrap ((TT x b : Nat) : Int) = ((TT x b : Nat) : Int) := by rw [IntKind.wrap_u16]; omega
      have HBE := Lib.hid (show Below w.heap.size w w5 by have := HBL.out.trans (hb5.mono (Nat.le_trans (Nat.le_of_eq HH.out) HBL.out.size)); rw [HH.out] at this; exact this)
      clear hm hd hb5
      go_wp2_with fail
      go_ret
      exact ⟨rfl, HBE.out⟩
end Go.Proofs.Ytklddmmbbaaliaa
