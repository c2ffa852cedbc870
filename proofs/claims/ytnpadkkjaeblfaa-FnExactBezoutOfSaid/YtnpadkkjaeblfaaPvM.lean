/-
  Products of polynomials: of the model and of the program.
-/
import Derived.Test.YtnpadkkjaeblfaaPvQ
import Derived.Deep.RegionWith
namespace Go.Proofs.Ytnpadkkjaeblfaa
set_option linter.unusedVariables false
set_option linter.unusedSimpArgs false
open Go.ChangeShapes Go.WideShapes Go.ChangeAt Go.RowKit

theorem takeH {P : Program} {ops : Array Oper} {Q : Exit → Act → World → Prop} {a : Act} {w : World} {md : Region.Mode} {S : World → Prop} {i : Nat} {oi : Oper} {d : Tmp} {v : Value} {fuel : Nat} {listed : Array Bool} (hi : ops[i]? = some oi) (hd : oi.dst = some d)
    (hs : Region.noSelect ops = true) (hf : Region.free md ops listed i = true) (hr : (Region.ready md ops listed).contains i = true)
    (hQ : ∀ c a w, Q (.panic c) (a.put (some d) v) w → Q (.panic c) a w) (hw : Region.wanted oi (yielded ops a.tmps) = true) (hy : ∀ w, S w → (execOp a.eval oi).run P w = .ok (.value v) w) (hS : S w)
    (h : wpAnyH P md ops Q S fuel (listed.setIfInBounds i true) (a.put (some d) v) w) : wpAnyH P md ops Q S (fuel + 1) listed a w :=
  wpAnyH_take hi hs hf hr (by rw [hd]; exact hQ) (.inl ⟨hw, hy⟩) hS (by rw [hd]; exact h)
theorem convJ_next {a b : List Int} {i k M : Nat} (F : Nat → Int) (h : i + k < M) :
    (tab M (convJ a b i k F)).set (i + k) (xorI ((tab M (convJ a b i k F)).getD (i + k) 0) (mulI (a.getD i 0) (b.getD k 0))) = tab M (convJ a b i (k + 1) F) := by
  rw [tab_at _ _ _ h, tab_set]
  rfl
theorem wrap64 (i k : Nat) (h : i + k < 4611686018427387904) : IntKind.wrap .i64 ((i : Int) + (k : Int)) = ((i + k : Nat) : Int) := by
  simp only [IntKind.wrap, show IntKind.i64.bits = 64 from rfl, show IntKind.i64.signed = true from rfl]
  simp
  omega
theorem convI_next (a b : List Int) (i : Nat) : convJ a b i b.length (convI a b i) = convI a b (i + 1) := rfl
theorem convJ_in {a b : List Int} (ha : inU a) (hb : inU b) (i k M : Nat) : inU (tab M (convJ a b i k (convI a b i))) := tab_in fun s _ => convJ_u ha hb i k _ (convI_u ha hb i) s
set_option maxHeartbeats 4000000 in
set_option maxRecDepth 100000 in
theorem ptimes_any (v u : Value) (xs ys : List Int) (hn : xs.length ≤ 1048576) (hn2 : ys.length ≤ 1048576) (w : World) (h : NS w v xs) (h' : NS w u ys) :
    Calls Try.prog 98 #[v, u] w fun e w' => ∃ r, e = .returned r ∧ w'.ownsRow w.heap.size 41 1 r (pTimes xs ys).length (u16s (pTimes xs ys)) ∧ Below w.heap.size w w' := by
  obtain ⟨i0, hi, hz0, hz1, hz2⟩ := info_parts info25
  have HU := Lib.hid (inU_of h)
  have HU' := Lib.hid (inU_of h')
  have HN := Lib.hid h
  have HN' := Lib.hid h'
  obtain ⟨A, c, rfl, hz, hc⟩ := h
  obtain ⟨A', c', rfl, hz', hc'⟩ := h'
  clear hz hz' hc hc'
  by_cases h1 : xs.length = 0
  · have hp0 := pTimes_zero (a := xs) (b := ys) (Or.inl h1)
    rw [hp0]
    rw [h1]
    clear HN HN' HU HU' hn hp0
    go_enter Try.func98, Try.ntmps98
    go_wp2_with fail
    refine (isZero_any A 0 c (by omega) _).mono ?_
    rintro e w' ⟨rfl, rfl⟩
    go_wp2_with fail
    go_ret
    exact ⟨_, rfl, World.ownsRow_nil _ _ _ _, Below.refl _ _⟩
  by_cases h2 : ys.length = 0
  · have hp0 := pTimes_zero (a := xs) (b := ys) (Or.inr h2)
    rw [hp0]
    have t1 : decide (xs.length = 0) = false := by simp; intro e; rw [e] at h1; simp at h1
    rw [h2]
    clear HN HN' HU HU' hn2 hp0
    go_enter Try.func98, Try.ntmps98
    go_wp2_with fail
    refine (isZero_any A xs.length c (by omega) _).mono ?_
    rintro e w' ⟨rfl, rfl⟩
    rw [t1]
    go_wp2_with fail
    refine (isZero_any A' 0 c' (by omega) _).mono ?_
    rintro e w' ⟨rfl, rfl⟩
    go_wp2_with fail
    go_ret
    exact ⟨_, rfl, World.ownsRow_nil _ _ _ _, Below.refl _ _⟩
  obtain ⟨M, hM⟩ : ∃ M, M = xs.length + ys.length - 1 := ⟨_, rfl⟩
  have hpt : pTimes xs ys = tab M (convI xs ys xs.length) := by rw [pTimes_some (by omega), ← hM]
  have HPT := Lib.hid hpt
  have hMi : (xs.length : Int) - 1 + ((ys.length : Int) - 1) + 1 = (M : Int) := by omega
  have hMj : (xs.length : Int) + (ys.length : Int) - 1 = (M : Int) := by omega
  have hM2 : M ≤ 2097152 := by omega
  have HM := Lib.hid hM
  clear hpt hM
  go_enter Try.func98, Try.ntmps98
  have t1 : decide (xs.length = 0) = false := by simp; intro e; rw [e] at h1; simp at h1
  have t2 : decide (ys.length = 0) = false := by simp; intro e; rw [e] at h2; simp at h2
  go_wp2_with fail
  refine (isZero_any A xs.length c hn _).mono ?_
  rintro e w' ⟨rfl, hw⟩
  obtain rfl := hw.symm
  rw [t1]
  go_wp2_with fail
  refine (isZero_any A' ys.length c' hn2 _).mono ?_
  rintro e w' ⟨rfl, hw⟩
  obtain rfl := hw.symm
  rw [t2]
  go_wp2_with fail
  refine (degree_any A xs.length c hn _).mono ?_
  rintro e w' ⟨rfl, hw⟩
  obtain rfl := hw.symm
  go_wp2_with fail
  refine (degree_any A' ys.length c' hn2 _).mono ?_
  rintro e w' ⟨rfl, hw⟩
  obtain rfl := hw.symm
  go_wp2_with (at_make; refine wpList_make_full _ rfl _ _ 25 rfl w.heap.size 41 i0 (.int .u16 0) 1 Try.underlying25 hi hz0 hz1 _ _ _ _ M rfl rfl (by omega) (by omega) (by rw [hz2]; omega) (by unfold maxLen; omega) (Nat.le_refl _) ?_)
  intro w1 hown hgrow
  have hb1 : Below w.heap.size w w1 := (Below.refl _ w).grown hgrow (Nat.le_refl _) (fun k hk => by cases hk)
  obtain ⟨g, hg⟩ : ∃ g, g = w.heap.size := ⟨_, rfl⟩
  rw [← hg] at hown hb1 ⊢
  rw [made_tab] at hown
  have HG := Lib.hid hg
  have HR0 : Hid (RW w1 g (tab M (convI xs ys 0))) := Lib.hid (RW.of_own hown)
  have HB0 := Lib.hid hb1
  clear hg hown hb1 hgrow
  go_wp2_with fail
  go_loopw [25] (fun y wr => ∃ i : Nat, y = .int .i64 (i : Int) ∧ i ≤ xs.length ∧ Hid (RW wr g (tab M (convI xs ys i))) ∧ Hid (Below g w wr)) (fun y _ => xs.length - (intOf y).toNat)
  case atStart => exact ⟨0, rfl, Nat.zero_le _, HR0, HB0⟩
  case round =>
    clear HR0 HB0
    obtain ⟨i, rfl, hil, HR, HB⟩ := hrel
    by_cases hlt : i < xs.length
    · have i1 : (i : Int) < (xs.length : Int) := by omega
      obtain ⟨b1, off1, rfl, hlb1, hcell1⟩ := HN.out.spot.2 (by omega)
      have HCL1 := Lib.hid hcell1
      obtain ⟨x, hx⟩ : ∃ x, x = xs.getD i 0 := ⟨_, rfl⟩
      have r1 := HU.out.at i
      rw [← hx] at r1
      obtain ⟨r10, r11⟩ := r1
      have q1 : wr.cell? ⟨b1, off1 + i, none⟩ = some (.int .u16 x) := by rw [hx]; exact (HB.out.cell (p := ⟨b1, off1 + i, none⟩) (by rw [HG.out]; exact hlb1)).trans (hcell1 i hlt)
      have HX := Lib.hid hx
      clear hx hcell1
      go_wp2_with fail
      go_loopw [32] (fun y wr => ∃ k : Nat, y = .int .i64 (k : Int) ∧ k ≤ ys.length ∧ Hid (RW wr g (tab M (convJ xs ys i k (convI xs ys i)))) ∧ Hid (Below g w wr)) (fun y _ => ys.length - (intOf y).toNat)
      case atStart => exact ⟨0, rfl, Nat.zero_le _, HR, HB⟩
      case round =>
        clear HR HB
        obtain ⟨k, rfl, hk, HR, HB⟩ := hrel
        by_cases hlt2 : k < ys.length
        · have i2 : (k : Int) < (ys.length : Int) := by omega
          have hik : i + k < M := by have := HM.out; omega
          obtain ⟨n, hnn⟩ : ∃ n, n = i + k := ⟨_, rfl⟩
          have i4 : (n : Int) < (M : Int) := by omega
          have hwn : IntKind.wrap .i64 ((i : Int) + (k : Int)) = (n : Int) := by rw [hnn]; exact wrap64 i k (by omega)
          obtain ⟨b2, off2, rfl, hlb2, hcell2⟩ := HN'.out.spot.2 (by omega)
          have HCL2 := Lib.hid hcell2
          obtain ⟨y, hy⟩ : ∃ y, y = ys.getD k 0 := ⟨_, rfl⟩
          have r2 := HU'.out.at k
          have q2 : wr.cell? ⟨b2, off2 + k, none⟩ = some (.int .u16 (ys.getD k 0)) := (HB.out.cell (p := ⟨b2, off2 + k, none⟩) (by rw [HG.out]; exact hlb2)).trans (hcell2 k hlt2)
          have q3 : wr.drew.cell? ⟨g, i + k, none⟩ = _ := HR.out.tabcell (i + k) hik
          have q4 : wr.drew.frozen? ⟨g, i + k, none⟩ = false := HR.out.free (i + k)
          have r3 := (convJ_in HU.out HU'.out i k M).at (i + k)
          have hset := (show RW wr.drew g _ from HR.out).set (i + k) (xorI ((tab M (convJ xs ys i k (convI xs ys i))).getD (i + k) 0) (mulI (xs.getD i 0) (ys.getD k 0)))
          rw [convJ_next _ hik] at hset
          obtain ⟨s, hs⟩ : ∃ s, s = (tab M (convJ xs ys i k (convI xs ys i))).getD (i + k) 0 := ⟨_, rfl⟩
          rw [← HX.out] at hset
          rw [← hs, ← hy] at hset
          rw [← hy] at q2 r2
          rw [← hs] at q3 r3
          obtain ⟨r20, r21⟩ := r2
          obtain ⟨r30, r31⟩ := r3
          have r4 := mulI_u x y r11 r21
          obtain ⟨r40, r41⟩ := r4
          obtain ⟨p, hp⟩ : ∃ p, p = mulI x y := ⟨_, rfl⟩
          have hc1 : ∀ u : World, Calls Try.prog 124 #[.int .u16 x, .int .u16 y] u fun e u' => e = .returned (.int .u16 p) ∧ u' = u := by rw [hp]; exact fun u => times_v x y r10 r11 r20 r21 u
          have HC1 := Lib.hid hc1
          rw [← hp] at hset r40 r41
          have hbx := bits_xor s p r30 r31 r40 r41
          obtain ⟨z, hz⟩ : ∃ z, z = xorI s p := ⟨_, rfl⟩
          have hc2 : ∀ u : World, Calls Try.prog 123 #[.int .u16 s, .int .u16 p] u fun e u' => e = .returned (.int .u16 z) ∧ u' = u := by rw [hz]; exact fun u => plus_v s p r30 r31 r40 r41 u
          have HC2 := Lib.hid hc2
          rw [← hz] at hset hbx
          rw [← hnn] at hset q3 q4
          have HSET := Lib.hid hset
          have HB3 := Lib.hid ((drew_b HB.out : Below g w wr.drew).setCell (p := ⟨g, n, none⟩) (Nat.le_refl _) (.int .u16 z))
          clear hset hs hy hcell2 HR hz hp hc1 hc2 hnn
          go_wp2_with fail
          refine wp_region_held_drew (S := fun _ => True) (by kernel_rfl) ?hS0 (fun hS => ?_)
          case hS0 => trivial
          generalize wr.drew = wd at q3 q4 HSET HB3 ⊢
          refine takeH (i := 0) (v := ?v0) rfl rfl (by kernel_rfl) (by kernel_rfl) (by kernel_rfl) (fun _ _ _ h => h) rfl ?hy0 hS ?rs0
          case hy0 => (intro wq hq; go_simp; try (with_reducible rfl))
          simp only [Act.put, List.setIfInBounds_toArray, List.set_cons_zero, List.set_cons_succ]
          refine takeH (i := 1) (v := ?v1) rfl rfl (by kernel_rfl) (by kernel_rfl) (by kernel_rfl) (fun _ _ _ h => h) rfl ?hy1 hS ?rs1
          case hy1 => (intro wq hq; go_simp; try (with_reducible rfl))
          simp only [Act.put, List.setIfInBounds_toArray, List.set_cons_zero, List.set_cons_succ]
          refine takeH (i := 2) (v := ?v2) rfl rfl (by kernel_rfl) (by kernel_rfl) (by kernel_rfl) (fun _ _ _ h => h) rfl ?hy2 hS ?rs2
          case hy2 => (intro wq hq; go_simp; try (with_reducible rfl))
          simp only [Act.put, List.setIfInBounds_toArray, List.set_cons_zero, List.set_cons_succ]
          refine takeH (i := 3) (v := ?v3) rfl rfl (by kernel_rfl) (by kernel_rfl) (by kernel_rfl) (fun _ _ _ h => h) rfl ?hy3 hS ?rs3
          case hy3 => (intro wq hq; go_simp; try (with_reducible rfl))
          simp only [Act.put, List.setIfInBounds_toArray, List.set_cons_zero, List.set_cons_succ]
          refine takeH (i := 4) (v := ?v4) rfl rfl (by kernel_rfl) (by kernel_rfl) (by kernel_rfl) (fun _ _ _ h => h) rfl ?hy4 hS ?rs4
          case hy4 => (intro wq hq; go_simp; try (with_reducible rfl))
          simp only [Act.put, List.setIfInBounds_toArray, List.set_cons_zero, List.set_cons_succ]
          refine takeH (i := 5) (v := ?v5) rfl rfl (by kernel_rfl) (by kernel_rfl) (by kernel_rfl) (fun _ _ _ h => h) rfl ?hy5 hS ?rs5
          case hy5 => (intro wq hq; go_simp; try (with_reducible rfl))
          simp only [Act.put, List.setIfInBounds_toArray, List.set_cons_zero, List.set_cons_succ]
          refine takeH (i := 6) (v := ?v6) rfl rfl (by kernel_rfl) (by kernel_rfl) (by kernel_rfl) (fun _ _ _ h => h) rfl ?hy6 hS ?rs6
          case hy6 => (intro wq hq; go_simp; try (with_reducible rfl))
          simp only [Act.put, List.setIfInBounds_toArray, List.set_cons_zero, List.set_cons_succ]
          refine takeH (i := 7) (v := ?v7) rfl rfl (by kernel_rfl) (by kernel_rfl) (by kernel_rfl) (fun _ _ _ h => h) rfl ?hy7 hS ?rs7
          case hy7 => (intro wq hq; go_simp; try (with_reducible rfl))
          simp only [Act.put, List.setIfInBounds_toArray, List.set_cons_zero, List.set_cons_succ]
          refine takeH (i := 8) (v := ?v8) rfl rfl (by kernel_rfl) (by kernel_rfl) (by kernel_rfl) (fun _ _ _ h => h) rfl ?hy8 hS ?rs8
          case hy8 => (intro wq hq; go_simp; try (with_reducible rfl))
          simp only [Act.put, List.setIfInBounds_toArray, List.set_cons_zero, List.set_cons_succ]
          refine takeH (i := 10) (v := ?v10) rfl rfl (by kernel_rfl) (by kernel_rfl) (by kernel_rfl) (fun _ _ _ h => h) rfl ?hy10 hS ?rs10
          case hy10 => (intro wq hq; go_simp; try (with_reducible rfl))
          simp only [Act.put, List.setIfInBounds_toArray, List.set_cons_zero, List.set_cons_succ]
          refine takeH (i := 11) (v := ?v11) rfl rfl (by kernel_rfl) (by kernel_rfl) (by kernel_rfl) (fun _ _ _ h => h) rfl ?hy11 hS ?rs11
          case hy11 => (intro wq hq; go_simp; try (with_reducible rfl))
          simp only [Act.put, List.setIfInBounds_toArray, List.set_cons_zero, List.set_cons_succ]
          refine wpAnyH_ready (rs := [9, 12]) (by kernel_rfl) (by simp) ?_
          refine AllReadyH.cons rfl (fun K hK => ?_) (AllReadyH.cons rfl (fun K hK => ?_) AllReadyH.nil)
          · skip
            go_simp
            refine hK.out _ _ trivial (fun hS => ?_)
            clear hK
            try simp only [Act.put, List.setIfInBounds_toArray, List.set_cons_zero, List.set_cons_succ]
            refine wpAnyH_ready (rs := [12]) (by kernel_rfl) (by simp) ?_
            refine AllReadyH.cons rfl (fun K hK => ?_) AllReadyH.nil
            go_simp
            refine (HC1.out _).mono ?_
            rintro e wn ⟨rfl, hw⟩
            obtain rfl := hw.symm
            refine hK.out _ _ trivial (fun hS => ?_)
            clear hK
            try simp only [Act.put, List.setIfInBounds_toArray, List.set_cons_zero, List.set_cons_succ]
            refine wpAnyH_ready (rs := [13]) (by kernel_rfl) (by simp) ?_
            refine AllReadyH.cons rfl (fun K hK => ?_) AllReadyH.nil
            go_simp
            refine (HC2.out _).mono ?_
            rintro e wn ⟨rfl, hw⟩
            obtain rfl := hw.symm
            refine hK.out _ _ trivial (fun hS => ?_)
            clear hK
            try simp only [Act.put, List.setIfInBounds_toArray, List.set_cons_zero, List.set_cons_succ]
            refine takeH (i := 14) (v := ?vA14) rfl rfl (by kernel_rfl) (by kernel_rfl) (by kernel_rfl) (fun _ _ _ h => h) rfl ?hyA14 hS ?rsA14
            case hyA14 => (intro wq hq; go_simp; try (with_reducible rfl))
            simp only [Act.put, List.setIfInBounds_toArray, List.set_cons_zero, List.set_cons_succ]
            refine wpAnyH_ready (rs := [15]) (by kernel_rfl) (by simp) ?_
            refine AllReadyH.cons rfl (fun K hK => ?_) AllReadyH.nil
            go_simp
            refine hK.out _ _ trivial (fun hS => ?_)
            clear hK
            refine wpAnyH_done (by kernel_rfl) ?_ _
            go_wp2_with fail
            go_roundw
            case rel => exact ⟨k + 1, by go_num, by omega, HSET, HB3⟩
            case measure => simp [intOf]; omega
          · skip
            go_simp
            refine (HC1.out _).mono ?_
            rintro e wn ⟨rfl, hw⟩
            obtain rfl := hw.symm
            refine hK.out _ _ trivial (fun hS => ?_)
            clear hK
            try simp only [Act.put, List.setIfInBounds_toArray, List.set_cons_zero, List.set_cons_succ]
            refine wpAnyH_ready (rs := [9]) (by kernel_rfl) (by simp) ?_
            refine AllReadyH.cons rfl (fun K hK => ?_) AllReadyH.nil
            go_simp
            refine hK.out _ _ trivial (fun hS => ?_)
            clear hK
            try simp only [Act.put, List.setIfInBounds_toArray, List.set_cons_zero, List.set_cons_succ]
            refine wpAnyH_ready (rs := [13]) (by kernel_rfl) (by simp) ?_
            refine AllReadyH.cons rfl (fun K hK => ?_) AllReadyH.nil
            go_simp
            refine (HC2.out _).mono ?_
            rintro e wn ⟨rfl, hw⟩
            obtain rfl := hw.symm
            refine hK.out _ _ trivial (fun hS => ?_)
            clear hK
            try simp only [Act.put, List.setIfInBounds_toArray, List.set_cons_zero, List.set_cons_succ]
            refine takeH (i := 14) (v := ?vB14) rfl rfl (by kernel_rfl) (by kernel_rfl) (by kernel_rfl) (fun _ _ _ h => h) rfl ?hyB14 hS ?rsB14
            case hyB14 => (intro wq hq; go_simp; try (with_reducible rfl))
            simp only [Act.put, List.setIfInBounds_toArray, List.set_cons_zero, List.set_cons_succ]
            refine wpAnyH_ready (rs := [15]) (by kernel_rfl) (by simp) ?_
            refine AllReadyH.cons rfl (fun K hK => ?_) AllReadyH.nil
            go_simp
            refine hK.out _ _ trivial (fun hS => ?_)
            clear hK
            refine wpAnyH_done (by kernel_rfl) ?_ _
            go_wp2_with fail
            go_roundw
            case rel => exact ⟨k + 1, by go_num, by omega, HSET, HB3⟩
            case measure => simp [intOf]; omega
        · obtain rfl : k = ys.length := by omega
          have HR2 : Hid (RW wr g (tab M (convI xs ys (i + 1)))) := Lib.hid HR.out
          clear HR
          go_wp2_with fail
          go_roundw
          case rel => exact ⟨i + 1, by go_num, by omega, HR2, HB⟩
          case measure => simp [intOf]; omega
    · obtain rfl : i = xs.length := by omega
      have HOWN := Lib.hid (HR.out.own (Nat.le_of_eq HG.out.symm) (by rw [tab_len]; unfold maxLen; omega))
      have HL := Lib.hid (tab_len M (convI xs ys xs.length))
      have HBW : Hid (Below w.heap.size w wr) := Lib.hid (by rw [← HG.out]; exact HB.out)
      clear HR HB
      go_wp2_with fail
      go_ret
      refine ⟨_, rfl, ?_, HBW.out⟩
      rw [HPT.out]
      have := HOWN.out
      rw [HL.out] at this
      rw [HL.out]
      exact this
set_option maxHeartbeats 4000000 in
set_option maxRecDepth 100000 in
theorem l05Times_any (v u : Value) (xs ys : List Int) (hn : xs.length ≤ 1048576) (hn2 : ys.length ≤ 1048576) (w : World) (h : NS w v xs) (h' : NS w u ys) :
    Calls Try.prog 97 #[v, u] w fun e w' => ∃ r, e = .returned r ∧ w'.ownsRow w.heap.size 41 1 r (pTimes xs ys).length (u16s (pTimes xs ys)) ∧ Below w.heap.size w w' := by
  obtain ⟨i0, hi, hz0, hz1, hz2⟩ := info_parts info25
  have HU := Lib.hid (inU_of h)
  have HU' := Lib.hid (inU_of h')
  have HN := Lib.hid h
  have HN' := Lib.hid h'
  obtain ⟨A, c, rfl, hz, hc⟩ := h
  obtain ⟨A', c', rfl, hz', hc'⟩ := h'
  clear hz hz' hc hc'
  by_cases h1 : xs.length = 0
  · have hp0 := pTimes_zero (a := xs) (b := ys) (Or.inl h1)
    rw [hp0]
    rw [h1]
    clear HN HN' HU HU' hn hp0
    go_enter Try.func97, Try.ntmps97
    go_wp2_with fail
    go_ret
    exact ⟨_, rfl, by simpa [u16s] using World.ownsRow_made w (e := 41) (size := 1) (base := w.heap.size) #[] 0 (Nat.le_refl _) (Nat.zero_le _) rfl, (Below.refl _ _).alloc (Nat.le_refl _) _⟩
  by_cases h2 : ys.length = 0
  · have hp0 := pTimes_zero (a := xs) (b := ys) (Or.inr h2)
    rw [hp0]
    have t1 : ((xs.length : Int) == 0) = false := by rw [beq_eq_false_iff_ne]; omega
    rw [h2]
    clear HN HN' HU HU' hn2 hp0
    go_enter Try.func97, Try.ntmps97
    go_wp2_with fail
    go_ret
    exact ⟨_, rfl, by simpa [u16s] using World.ownsRow_made w (e := 41) (size := 1) (base := w.heap.size) #[] 0 (Nat.le_refl _) (Nat.zero_le _) rfl, (Below.refl _ _).alloc (Nat.le_refl _) _⟩
  obtain ⟨M, hM⟩ : ∃ M, M = xs.length + ys.length - 1 := ⟨_, rfl⟩
  have hpt : pTimes xs ys = tab M (convI xs ys xs.length) := by rw [pTimes_some (by omega), ← hM]
  have HPT := Lib.hid hpt
  have hMi : (xs.length : Int) - 1 + ((ys.length : Int) - 1) + 1 = (M : Int) := by omega
  have hMj : (xs.length : Int) + (ys.length : Int) - 1 = (M : Int) := by omega
  have hM2 : M ≤ 2097152 := by omega
  have HM := Lib.hid hM
  clear hpt hM
  have t1 : ((xs.length : Int) == 0) = false := by rw [beq_eq_false_iff_ne]; omega
  have t2 : ((ys.length : Int) == 0) = false := by rw [beq_eq_false_iff_ne]; omega
  go_enter Try.func97, Try.ntmps97
  go_wp2_with (at_make; refine wpList_make_full _ rfl _ _ 25 rfl w.heap.size 41 i0 (.int .u16 0) 1 Try.underlying25 hi hz0 hz1 _ _ _ _ M rfl rfl (by omega) (by omega) (by rw [hz2]; omega) (by unfold maxLen; omega) (Nat.le_refl _) ?_)
  intro w1 hown hgrow
  have hb1 : Below w.heap.size w w1 := (Below.refl _ w).grown hgrow (Nat.le_refl _) (fun k hk => by cases hk)
  obtain ⟨g, hg⟩ : ∃ g, g = w.heap.size := ⟨_, rfl⟩
  rw [← hg] at hown hb1 ⊢
  rw [made_tab] at hown
  have HG := Lib.hid hg
  have HR0 : Hid (RW w1 g (tab M (convI xs ys 0))) := Lib.hid (RW.of_own hown)
  have HB0 := Lib.hid hb1
  clear hg hown hb1 hgrow
  go_wp2_with fail
  go_loopw [6] (fun y wr => ∃ i : Nat, y = .int .i64 (i : Int) ∧ i ≤ xs.length ∧ Hid (RW wr g (tab M (convI xs ys i))) ∧ Hid (Below g w wr)) (fun y _ => xs.length - (intOf y).toNat)
  case atStart => exact ⟨0, rfl, Nat.zero_le _, HR0, HB0⟩
  case round =>
    clear HR0 HB0
    obtain ⟨i, rfl, hil, HR, HB⟩ := hrel
    by_cases hlt : i < xs.length
    · have i1 : (i : Int) < (xs.length : Int) := by omega
      obtain ⟨b1, off1, rfl, hlb1, hcell1⟩ := HN.out.spot.2 (by omega)
      have HCL1 := Lib.hid hcell1
      obtain ⟨x, hx⟩ : ∃ x, x = xs.getD i 0 := ⟨_, rfl⟩
      have r1 := HU.out.at i
      rw [← hx] at r1
      obtain ⟨r10, r11⟩ := r1
      have HX := Lib.hid hx
      clear hx hcell1
      go_wp2_with fail
      go_loopw [7] (fun y wr => ∃ k : Nat, y = .int .i64 (k : Int) ∧ k ≤ ys.length ∧ Hid (RW wr g (tab M (convJ xs ys i k (convI xs ys i)))) ∧ Hid (Below g w wr)) (fun y _ => ys.length - (intOf y).toNat)
      case atStart => exact ⟨0, rfl, Nat.zero_le _, HR, HB⟩
      case round =>
        clear HR HB
        obtain ⟨k, rfl, hk, HR, HB⟩ := hrel
        by_cases hlt2 : k < ys.length
        · have i2 : (k : Int) < (ys.length : Int) := by omega
          have hik : i + k < M := by have := HM.out; omega
          obtain ⟨n, hnn⟩ : ∃ n, n = i + k := ⟨_, rfl⟩
          have i4 : (n : Int) < (M : Int) := by omega
          have hwn : IntKind.wrap .i64 ((i : Int) + (k : Int)) = (n : Int) := by rw [hnn]; exact wrap64 i k (by omega)
          obtain ⟨b2, off2, rfl, hlb2, hcell2⟩ := HN'.out.spot.2 (by omega)
          have HCL2 := Lib.hid hcell2
          obtain ⟨y, hy⟩ : ∃ y, y = ys.getD k 0 := ⟨_, rfl⟩
          have r2 := HU'.out.at k
          have q2 : wr.cell? ⟨b2, off2 + k, none⟩ = some (.int .u16 (ys.getD k 0)) := (HB.out.cell (p := ⟨b2, off2 + k, none⟩) (by rw [HG.out]; exact hlb2)).trans (hcell2 k hlt2)
          have q3 : wr.drew.cell? ⟨g, i + k, none⟩ = _ := HR.out.tabcell (i + k) hik
          have q4 : wr.drew.frozen? ⟨g, i + k, none⟩ = false := HR.out.free (i + k)
          have r3 := (convJ_in HU.out HU'.out i k M).at (i + k)
          have hset := (show RW wr.drew g _ from HR.out).set (i + k) (xorI ((tab M (convJ xs ys i k (convI xs ys i))).getD (i + k) 0) (mulI (xs.getD i 0) (ys.getD k 0)))
          rw [convJ_next _ hik] at hset
          obtain ⟨s, hs⟩ : ∃ s, s = (tab M (convJ xs ys i k (convI xs ys i))).getD (i + k) 0 := ⟨_, rfl⟩
          rw [← HX.out] at hset
          rw [← hs, ← hy] at hset
          rw [← hy] at q2 r2
          rw [← hs] at q3 r3
          obtain ⟨r20, r21⟩ := r2
          obtain ⟨r30, r31⟩ := r3
          have r4 := mulI_u x y r11 r21
          obtain ⟨r40, r41⟩ := r4
          obtain ⟨p, hp⟩ : ∃ p, p = mulI x y := ⟨_, rfl⟩
          have hc1 : ∀ u : World, Calls Try.prog 121 #[.int .u16 x, .int .u16 y] u fun e u' => e = .returned (.int .u16 p) ∧ u' = u := by rw [hp]; exact fun u => ltimes_v x y r10 r11 r20 r21 u
          have HC1 := Lib.hid hc1
          rw [← hp] at hset r40 r41
          have hbx := bits_xor s p r30 r31 r40 r41
          obtain ⟨z, hz⟩ : ∃ z, z = xorI s p := ⟨_, rfl⟩
          have hc2 : ∀ u : World, Calls Try.prog 123 #[.int .u16 s, .int .u16 p] u fun e u' => e = .returned (.int .u16 z) ∧ u' = u := by rw [hz]; exact fun u => plus_v s p r30 r31 r40 r41 u
          have HC2 := Lib.hid hc2
          rw [← hz] at hset hbx
          rw [← hnn] at hset q3 q4
          have HSET := Lib.hid hset
          have HB3 := Lib.hid ((drew_b HB.out : Below g w wr.drew).setCell (p := ⟨g, n, none⟩) (Nat.le_refl _) (.int .u16 z))
          have q1 : wr.drew.cell? ⟨b1, off1 + i, none⟩ = some (.int .u16 x) := by rw [HX.out]; exact (HB.out.cell (p := ⟨b1, off1 + i, none⟩) (by rw [HG.out]; exact hlb1)).trans (HCL1.out i hlt)
          replace q2 : wr.drew.cell? ⟨b2, off2 + k, none⟩ = some (.int .u16 y) := q2
          have hfar1 : ∀ (u : World) (v : Value), (u.setCell ⟨g, n, none⟩ v).cell? ⟨b1, off1 + i, none⟩ = u.cell? ⟨b1, off1 + i, none⟩ := fun u v => ((Below.refl g u).setCell (p := ⟨g, n, none⟩) (Nat.le_refl _) v).cell (p := ⟨b1, off1 + i, none⟩) (by rw [HG.out]; exact hlb1)
          have hfar2 : ∀ (u : World) (v : Value), (u.setCell ⟨g, n, none⟩ v).cell? ⟨b2, off2 + k, none⟩ = u.cell? ⟨b2, off2 + k, none⟩ := fun u v => ((Below.refl g u).setCell (p := ⟨g, n, none⟩) (Nat.le_refl _) v).cell (p := ⟨b2, off2 + k, none⟩) (by rw [HG.out]; exact hlb2)
          clear hset hs hy hcell2 HR hz hp hc1 hc2 hnn
          go_wp2_with fail
          refine wp_region_held_drew (S := fun u => u.cell? ⟨b1, off1 + i, none⟩ = some (.int .u16 x) ∧ u.cell? ⟨b2, off2 + k, none⟩ = some (.int .u16 y)) (by kernel_rfl) ?hS0 (fun hS => ?_)
          case hS0 => exact ⟨q1, q2⟩
          generalize wr.drew = wd at q1 q2 q3 q4 HSET HB3 hS ⊢
          refine takeH (i := 0) (v := ?v0) rfl rfl (by kernel_rfl) (by kernel_rfl) (by kernel_rfl) (fun _ _ _ h => h) rfl ?hy0 hS ?rs0
          case hy0 => (rintro wq ⟨hq1, hq2⟩; go_simp; try (with_reducible rfl))
          simp only [Act.put, List.setIfInBounds_toArray, List.set_cons_zero, List.set_cons_succ]
          refine takeH (i := 1) (v := ?v1) rfl rfl (by kernel_rfl) (by kernel_rfl) (by kernel_rfl) (fun _ _ _ h => h) rfl ?hy1 hS ?rs1
          case hy1 => (rintro wq ⟨hq1, hq2⟩; go_simp; try (with_reducible rfl))
          simp only [Act.put, List.setIfInBounds_toArray, List.set_cons_zero, List.set_cons_succ]
          refine takeH (i := 2) (v := ?v2) rfl rfl (by kernel_rfl) (by kernel_rfl) (by kernel_rfl) (fun _ _ _ h => h) rfl ?hy2 hS ?rs2
          case hy2 => (rintro wq ⟨hq1, hq2⟩; go_simp; try (with_reducible rfl))
          simp only [Act.put, List.setIfInBounds_toArray, List.set_cons_zero, List.set_cons_succ]
          refine takeH (i := 3) (v := ?v3) rfl rfl (by kernel_rfl) (by kernel_rfl) (by kernel_rfl) (fun _ _ _ h => h) rfl ?hy3 hS ?rs3
          case hy3 => (rintro wq ⟨hq1, hq2⟩; go_simp; try (with_reducible rfl))
          simp only [Act.put, List.setIfInBounds_toArray, List.set_cons_zero, List.set_cons_succ]
          refine takeH (i := 4) (v := ?v4) rfl rfl (by kernel_rfl) (by kernel_rfl) (by kernel_rfl) (fun _ _ _ h => h) rfl ?hy4 hS ?rs4
          case hy4 => (rintro wq ⟨hq1, hq2⟩; go_simp; try (with_reducible rfl))
          simp only [Act.put, List.setIfInBounds_toArray, List.set_cons_zero, List.set_cons_succ]
          refine takeH (i := 5) (v := ?v5) rfl rfl (by kernel_rfl) (by kernel_rfl) (by kernel_rfl) (fun _ _ _ h => h) rfl ?hy5 hS ?rs5
          case hy5 => (rintro wq ⟨hq1, hq2⟩; go_simp; try (with_reducible rfl))
          simp only [Act.put, List.setIfInBounds_toArray, List.set_cons_zero, List.set_cons_succ]
          refine takeH (i := 6) (v := ?v6) rfl rfl (by kernel_rfl) (by kernel_rfl) (by kernel_rfl) (fun _ _ _ h => h) rfl ?hy6 hS ?rs6
          case hy6 => (rintro wq ⟨hq1, hq2⟩; go_simp; try (with_reducible rfl))
          simp only [Act.put, List.setIfInBounds_toArray, List.set_cons_zero, List.set_cons_succ]
          refine takeH (i := 7) (v := ?v7) rfl rfl (by kernel_rfl) (by kernel_rfl) (by kernel_rfl) (fun _ _ _ h => h) rfl ?hy7 hS ?rs7
          case hy7 => (rintro wq ⟨hq1, hq2⟩; go_simp; try (with_reducible rfl))
          simp only [Act.put, List.setIfInBounds_toArray, List.set_cons_zero, List.set_cons_succ]
          refine takeH (i := 8) (v := ?v8) rfl rfl (by kernel_rfl) (by kernel_rfl) (by kernel_rfl) (fun _ _ _ h => h) rfl ?hy8 hS ?rs8
          case hy8 => (rintro wq ⟨hq1, hq2⟩; go_simp; try (with_reducible rfl))
          simp only [Act.put, List.setIfInBounds_toArray, List.set_cons_zero, List.set_cons_succ]
          refine takeH (i := 10) (v := ?v10) rfl rfl (by kernel_rfl) (by kernel_rfl) (by kernel_rfl) (fun _ _ _ h => h) rfl ?hy10 hS ?rs10
          case hy10 => (rintro wq ⟨hq1, hq2⟩; go_simp; try (with_reducible rfl))
          simp only [Act.put, List.setIfInBounds_toArray, List.set_cons_zero, List.set_cons_succ]
          refine takeH (i := 11) (v := ?v11) rfl rfl (by kernel_rfl) (by kernel_rfl) (by kernel_rfl) (fun _ _ _ h => h) rfl ?hy11 hS ?rs11
          case hy11 => (rintro wq ⟨hq1, hq2⟩; go_simp; try (with_reducible rfl))
          simp only [Act.put, List.setIfInBounds_toArray, List.set_cons_zero, List.set_cons_succ]
          refine takeH (i := 12) (v := ?v12) rfl rfl (by kernel_rfl) (by kernel_rfl) (by kernel_rfl) (fun _ _ _ h => h) rfl ?hy12 hS ?rs12
          case hy12 => (rintro wq ⟨hq1, hq2⟩; go_simp; try (with_reducible rfl))
          simp only [Act.put, List.setIfInBounds_toArray, List.set_cons_zero, List.set_cons_succ]
          refine takeH (i := 13) (v := ?v13) rfl rfl (by kernel_rfl) (by kernel_rfl) (by kernel_rfl) (fun _ _ _ h => h) rfl ?hy13 hS ?rs13
          case hy13 => (rintro wq ⟨hq1, hq2⟩; go_simp; try (with_reducible rfl))
          simp only [Act.put, List.setIfInBounds_toArray, List.set_cons_zero, List.set_cons_succ]
          refine takeH (i := 14) (v := ?v14) rfl rfl (by kernel_rfl) (by kernel_rfl) (by kernel_rfl) (fun _ _ _ h => h) rfl ?hy14 hS ?rs14
          case hy14 => (rintro wq ⟨hq1, hq2⟩; go_simp; try (with_reducible rfl))
          simp only [Act.put, List.setIfInBounds_toArray, List.set_cons_zero, List.set_cons_succ]
          refine takeH (i := 15) (v := ?v15) rfl rfl (by kernel_rfl) (by kernel_rfl) (by kernel_rfl) (fun _ _ _ h => h) rfl ?hy15 hS ?rs15
          case hy15 => (rintro wq ⟨hq1, hq2⟩; go_simp; try (with_reducible rfl))
          simp only [Act.put, List.setIfInBounds_toArray, List.set_cons_zero, List.set_cons_succ]
          refine takeH (i := 16) (v := ?v16) rfl rfl (by kernel_rfl) (by kernel_rfl) (by kernel_rfl) (fun _ _ _ h => h) rfl ?hy16 hS ?rs16
          case hy16 => (rintro wq ⟨hq1, hq2⟩; go_simp; try (with_reducible rfl))
          simp only [Act.put, List.setIfInBounds_toArray, List.set_cons_zero, List.set_cons_succ]
          refine takeH (i := 17) (v := ?v17) rfl rfl (by kernel_rfl) (by kernel_rfl) (by kernel_rfl) (fun _ _ _ h => h) rfl ?hy17 hS ?rs17
          case hy17 => (rintro wq ⟨hq1, hq2⟩; go_simp; try (with_reducible rfl))
          simp only [Act.put, List.setIfInBounds_toArray, List.set_cons_zero, List.set_cons_succ]
          refine wpAnyH_ready (rs := [9, 18]) (by kernel_rfl) (by simp) ?_
          refine AllReadyH.cons rfl (fun K hK => ?_) (AllReadyH.cons rfl (fun K hK => ?_) AllReadyH.nil)
          · skip
            go_simp
            refine hK.out _ _ hS (fun hS => ?_)
            clear hK
            try simp only [Act.put, List.setIfInBounds_toArray, List.set_cons_zero, List.set_cons_succ]
            refine wpAnyH_ready (rs := [18]) (by kernel_rfl) (by simp) ?_
            refine AllReadyH.cons rfl (fun K hK => ?_) AllReadyH.nil
            go_simp
            refine (HC1.out _).mono ?_
            rintro e wn ⟨rfl, hw⟩
            obtain rfl := hw.symm
            refine hK.out _ _ hS (fun hS => ?_)
            clear hK
            try simp only [Act.put, List.setIfInBounds_toArray, List.set_cons_zero, List.set_cons_succ]
            refine takeH (i := 19) (v := ?vA19) rfl rfl (by kernel_rfl) (by kernel_rfl) (by kernel_rfl) (fun _ _ _ h => h) rfl ?hyA19 hS ?rsA19
            case hyA19 => (rintro wq ⟨hq1, hq2⟩; go_simp; try (with_reducible rfl))
            simp only [Act.put, List.setIfInBounds_toArray, List.set_cons_zero, List.set_cons_succ]
            refine takeH (i := 20) (v := ?vA20) rfl rfl (by kernel_rfl) (by kernel_rfl) (by kernel_rfl) (fun _ _ _ h => h) rfl ?hyA20 hS ?rsA20
            case hyA20 => (rintro wq ⟨hq1, hq2⟩; go_simp; try (with_reducible rfl))
            simp only [Act.put, List.setIfInBounds_toArray, List.set_cons_zero, List.set_cons_succ]
            refine wpAnyH_ready (rs := [21]) (by kernel_rfl) (by simp) ?_
            refine AllReadyH.cons rfl (fun K hK => ?_) AllReadyH.nil
            go_simp
            refine hK.out _ _ ⟨(hfar1 _ _).trans hS.1, (hfar2 _ _).trans hS.2⟩ (fun hS => ?_)
            clear hK
            refine wpAnyH_done (by kernel_rfl) ?_ _
            go_wp2_with fail
            go_roundw
            case rel => exact ⟨k + 1, by go_num, by omega, HSET, HB3⟩
            case measure => simp [intOf]; omega
          · skip
            go_simp
            refine (HC1.out _).mono ?_
            rintro e wn ⟨rfl, hw⟩
            obtain rfl := hw.symm
            refine hK.out _ _ hS (fun hS => ?_)
            clear hK
            try simp only [Act.put, List.setIfInBounds_toArray, List.set_cons_zero, List.set_cons_succ]
            refine wpAnyH_ready (rs := [9]) (by kernel_rfl) (by simp) ?_
            refine AllReadyH.cons rfl (fun K hK => ?_) AllReadyH.nil
            go_simp
            refine hK.out _ _ hS (fun hS => ?_)
            clear hK
            try simp only [Act.put, List.setIfInBounds_toArray, List.set_cons_zero, List.set_cons_succ]
            refine takeH (i := 19) (v := ?vB19) rfl rfl (by kernel_rfl) (by kernel_rfl) (by kernel_rfl) (fun _ _ _ h => h) rfl ?hyB19 hS ?rsB19
            case hyB19 => (rintro wq ⟨hq1, hq2⟩; go_simp; try (with_reducible rfl))
            simp only [Act.put, List.setIfInBounds_toArray, List.set_cons_zero, List.set_cons_succ]
            refine takeH (i := 20) (v := ?vB20) rfl rfl (by kernel_rfl) (by kernel_rfl) (by kernel_rfl) (fun _ _ _ h => h) rfl ?hyB20 hS ?rsB20
            case hyB20 => (rintro wq ⟨hq1, hq2⟩; go_simp; try (with_reducible rfl))
            simp only [Act.put, List.setIfInBounds_toArray, List.set_cons_zero, List.set_cons_succ]
            refine wpAnyH_ready (rs := [21]) (by kernel_rfl) (by simp) ?_
            refine AllReadyH.cons rfl (fun K hK => ?_) AllReadyH.nil
            go_simp
            refine hK.out _ _ ⟨(hfar1 _ _).trans hS.1, (hfar2 _ _).trans hS.2⟩ (fun hS => ?_)
            clear hK
            refine wpAnyH_done (by kernel_rfl) ?_ _
            go_wp2_with fail
            go_roundw
            case rel => exact ⟨k + 1, by go_num, by omega, HSET, HB3⟩
            case measure => simp [intOf]; omega
        · obtain rfl : k = ys.length := by omega
          have HR2 : Hid (RW wr g (tab M (convI xs ys (i + 1)))) := Lib.hid HR.out
          clear HR
          go_wp2_with fail
          go_roundw
          case rel => exact ⟨i + 1, by go_num, by omega, HR2, HB⟩
          case measure => simp [intOf]; omega
    · obtain rfl : i = xs.length := by omega
      have HOWN := Lib.hid (HR.out.own (Nat.le_of_eq HG.out.symm) (by rw [tab_len]; unfold maxLen; omega))
      have HL := Lib.hid (tab_len M (convI xs ys xs.length))
      have HBW : Hid (Below w.heap.size w wr) := Lib.hid (by rw [← HG.out]; exact HB.out)
      clear HR HB
      go_wp2_with fail
      go_ret
      refine ⟨_, rfl, ?_, HBW.out⟩
      rw [HPT.out]
      have := HOWN.out
      rw [HL.out] at this
      rw [HL.out]
      exact this
end Go.Proofs.Ytnpadkkjaeblfaa
