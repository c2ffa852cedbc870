/-
  HeapGame, of the program.
-/
import Derived.Test.YtkeliojgldfkkaaHeap
namespace Go.Proofs.Ytkeliojgldfkkaa
set_option linter.unusedVariables false
set_option linter.unusedSimpArgs false
open Go.ChangeShapes Go.WideShapes Go.ChangeAt Go.RowKit Go.Deep

/-- a row is appended to, and stored -/
theorem OGU.replace {U : Nat → Value} {B M g N c k : Nat} {w w1 : World} {u : Value} {gs gs' : List (List Int)} {zs : List Int} (h : OGU U B w (.slice (some ⟨g, 0, none⟩) N c) gs) (hN : gs.length = N) (hk : k < gs.length)
    (hg : w.grownBy w1 (U k).ownBlock) (hu : w1.ownsRow M 45 1 u zs.length (i8s zs)) (hB : B ≤ M) (hs : ∀ z ∈ zs, -128 ≤ z ∧ z < 128) (hM : ∀ i, i < gs.length → i ≠ k → ∀ b, (U i).ownBlock = some b → b < M)
    (hl : gs'.length = gs.length) (hz : gs'.getD k [] = zs) (hsame : ∀ i, i < gs.length → i ≠ k → gs'.getD i [] = gs.getD i []) :
    OGU (fun i => if i = k then u else U i) B (w1.setCell ⟨g, k, none⟩ u) (.slice (some ⟨g, 0, none⟩) N c) gs' ∧ (w1.setCell ⟨g, k, none⟩ u).ownsRow M 45 1 u zs.length (i8s zs) ∧
      w1.cell? ⟨g, k, none⟩ = some (U k) ∧ w1.frozen? ⟨g, k, none⟩ = false := by
  subst hN
  have hout : w1.ownsRow B 43 1 (.slice (some ⟨g, 0, none⟩) gs.length c) gs.length ((List.range gs.length).map U) := h.outer.kept hg (by
    rcases own_ne h.outer (h.rows k hk) (by decide) with q | q
    · exact .inl q
    · exact .inr q)
  have hput := grown_put w1 g k u
  have hu2 : (w1.setCell ⟨g, k, none⟩ u).ownsRow M 45 1 u zs.length (i8s zs) := hu.kept hput (own_ne hu hout (by decide))
  have hlow : (w1.setCell ⟨g, k, none⟩ u).ownsRow B 45 1 u zs.length (i8s zs) := by
    refine ⟨hu2.1, ?_⟩
    rcases hu2.2 with q | ⟨g, c, cur, q1, q2, q3⟩
    · exact .inl q
    · exact .inr ⟨g, c, cur, q1, Nat.le_trans hB q2, q3⟩
  refine ⟨⟨?_, fun i hi => ?_, fun i hi => ?_, fun i j hij hj => ?_⟩, hu2, ?_, hout.frozenAt k⟩
  · rw [hl]
    have e : ((List.range gs.length).map U).set k u = (List.range gs.length).map (fun i => if i = k then u else U i) := by
      refine List.ext_getElem (by simp) fun i h1 h2 => ?_
      simp only [List.getElem_set, List.getElem_map, List.getElem_range]
      by_cases e : k = i
      · simp [e]
      · simp [e, show ¬ i = k from fun x => e x.symm]
    rw [← e]
    exact (hout.stored k u).1
  · by_cases e : i = k
    · subst e
      rw [hz]
      simp only [if_true]
      exact hlow
    · rw [hsame i (by omega) e, show (if i = k then u else U i) = U i from if_neg e]
      have r1 := (h.rows i (by omega)).kept hg (h.apart2 i k (by omega) hk e)
      exact r1.kept hput (own_ne r1 hout (by decide))
  · by_cases e : i = k
    · subst e; rw [hz]; exact hs
    · rw [hsame i (by omega) e]; exact h.small i (by omega)
  · rw [hl] at hj
    by_cases e1 : i = k
    · subst e1
      rw [show (if j = i then u else U j) = U j from if_neg (by omega)]
      simp only [if_true]
      cases hq : u.ownBlock with
      | none => exact .inl rfl
      | some b =>
        refine .inr (fun q => ?_)
        have := (hu.lt b hq).1
        have := hM j hj (by omega) b q.symm
        omega
    · rw [show (if i = k then u else U i) = U i from if_neg e1]
      by_cases e2 : j = k
      · subst e2
        simp only [if_true]
        cases hq : (U i).ownBlock with
        | none => exact .inl rfl
        | some b =>
          refine .inr (fun q => ?_)
          have := (hu.lt b q.symm).1
          have := hM i (by omega) e1 b hq
          omega
      · rw [show (if j = k then u else U j) = U j from if_neg e2]
        exact h.apart i j hij hj
  · rw [hout.cellAt k (by omega)]
    simp [hk]
def heapP (n k q : Nat) : List (List Int) := (List.range (n + 1)).map fun i => if i < k then heapRow i else if i = k then heapRow q else []
theorem heapP_len (n k q : Nat) : (heapP n k q).length = n + 1 := by simp [heapP]
theorem heapP_at (n k q i : Nat) (hi : i < n + 1) : (heapP n k q).getD i [] = if i < k then heapRow i else if i = k then heapRow q else [] := by
  unfold heapP; exact rangeMap_getD _ _ _ hi
theorem heapRow_zero : heapRow 0 = [] := rfl
theorem heapP_next (n k : Nat) : heapP n k k = heapP n (k + 1) 0 := by
  unfold heapP
  refine List.map_congr_left fun i _ => ?_
  by_cases e : i < k
  · rw [if_pos e, if_pos (by omega)]
  · by_cases e2 : i = k
    · subst e2; rw [if_neg e, if_pos rfl, if_pos (by omega)]
    · rw [if_neg e, if_neg e2, if_neg (by omega), heapRow_zero]; split <;> rfl
theorem heapP_end (n : Nat) : heapP n (n + 1) 0 = heapL (n + 1) := by
  unfold heapP heapL
  refine List.map_congr_left fun i hi => ?_
  rw [if_pos (List.mem_range.1 hi)]
theorem heapP_start (n : Nat) (B : Nat) (w : World) (v : Value) (h : w.ownsRow B 43 1 v (n + 1) (List.replicate (n + 1) (.slice none 0 0))) : OGU (fun _ => .slice none 0 0) B w v (heapP n 0 0) := by
  have z : ∀ i, i < n + 1 → (heapP n 0 0).getD i [] = [] := fun i hi => by
    rw [heapP_at n 0 0 i hi, if_neg (by omega)]
    split
    · rfl
    · rfl
  refine ⟨?_, fun i hi => ?_, fun i hi => ?_, fun i j _ _ => .inl rfl⟩
  · rw [heapP_len]
    have e : (List.range (n + 1)).map (fun _ => Value.slice none 0 0) = List.replicate (n + 1) (.slice none 0 0) := by
      rw [List.map_const', List.length_range]
    rw [e]; exact h
  · rw [heapP_len] at hi
    rw [z i hi]
    exact World.ownsRow_nil _ _ _ _
  · rw [heapP_len] at hi
    rw [z i hi]
    intro x hx; cases hx
set_option maxRecDepth 100000 in
set_option maxHeartbeats 2000000 in
theorem impl_HeapGame (h : Int) (hlo : -9223372036854775808 ≤ h) (hhi : h ≤ 9223372036854775807) (w : World) :
    Calls Try.prog 16 #[.int .i64 h] w fun e w' => ∃ v U, e = .returned (.tuple #[v, .int .i64 (heapC h)]) ∧ OGU U w.heap.size w' v (heapG h) ∧ Below w.heap.size w w' := by
  obtain ⟨i8, h8, h80, h81, h82⟩ := info_parts info8
  obtain ⟨ir, hr, hr0, hr1, hr2⟩ := info_parts infoRow8
  by_cases hb : badH h
  · have hC : heapC h = 2 := by unfold heapC; rw [if_pos hb]
    have hG : heapG h = [] := by unfold heapG; rw [if_pos hb]
    rw [hC, hG]
    clear hC hG
    unfold badH at hb
    by_cases h1 : h < 0
    · have T1 : decide (h < 0) = true := by simpa using h1
      go_enter Try.func16, Try.ntmps16
      go_wp2_with fail
      go_ret2
      first | exact ⟨_, _, rfl, OGU.nil (World.ownsRow_nil _ _ _ _), Below.refl _ _⟩ | exact ⟨_, rfl, ⟨_, OGU.nil (World.ownsRow_nil _ _ _ _)⟩, Below.refl _ _⟩
    · have T1 : decide (h < 0) = false := by simp; omega
      have T2 : decide (60 ≤ h) = true := by simp; omega
      go_enter Try.func16, Try.ntmps16
      go_wp2_with fail
      go_ret2
      first | exact ⟨_, _, rfl, OGU.nil (World.ownsRow_nil _ _ _ _), Below.refl _ _⟩ | exact ⟨_, rfl, ⟨_, OGU.nil (World.ownsRow_nil _ _ _ _)⟩, Below.refl _ _⟩
  · have hC : heapC h = 0 := by unfold heapC; rw [if_neg hb]
    have hG : heapG h = heapL (h.toNat + 1) := by unfold heapG; rw [if_neg hb]
    unfold badH at hb
    obtain ⟨n, rfl⟩ : ∃ n : Nat, h = n := ⟨h.toNat, by omega⟩
    rw [Int.toNat_natCast] at hG
    rw [hC, hG]
    have T1 : decide ((n : Int) < 0) = false := by simp
    have T2 : decide (60 ≤ (n : Int)) = false := by simp; omega
    have hn : n ≤ 59 := by omega
    clear hC hG hb hlo hhi
    go_enter Try.func16, Try.ntmps16
    go_wp2_with (at_make; refine wpList_make_full _ rfl _ _ 25 rfl w.heap.size 43 ir (.slice none 0 0) 1 Try.underlying25 hr hr0 hr1 _ _ _ _ (n + 1) rfl rfl rfl rfl (by rw [hr2]; omega) (by unfold maxLen; omega) (Nat.le_refl _) ?_)
    intro w1 hown hgrow
    have hb1 : Below w.heap.size w w1 := (Below.refl _ w).grown hgrow (Nat.le_refl _) (fun k hk => by cases hk)
    obtain ⟨g, hg⟩ : ∃ g, g = w.heap.size := ⟨_, rfl⟩
    rw [← hg] at hown hb1 ⊢
    have hsz : g ≤ w1.heap.size := Nat.le_of_lt (hown.lt g rfl).2
    have HG := Lib.hid hg; clear hg
    have hown1 : w1.ownsRow g 43 1 (.slice (some ⟨g, 0, none⟩) (n + 1) (n + 1)) (n + 1) (List.replicate (n + 1) (.slice none 0 0)) := by
      have e : (madeCells #[Value.slice none 0 0] (n + 1)).toList = List.replicate (n + 1) (.slice none 0 0) := by
        rw [toList_madeCells_one]
      rw [← e]; exact hown
    have hst := heapP_start n g w1 _ hown1
    clear hown hgrow hown1 T1 T2
    go_wp2_with fail
    go_loopw [18] (fun y wr => ∃ k : Nat, y = .int .i64 k ∧ k ≤ n + 1 ∧ Hid (∃ U, OGU U g wr (.slice (some ⟨g, 0, none⟩) (n + 1) (n + 1)) (heapP n k 0) ∧ ∀ i, k ≤ i → U i = .slice none 0 0) ∧ Hid (Below g w wr) ∧ Hid (g ≤ wr.heap.size)) (fun y _ => n + 1 - (intOf y).toNat)
    case atStart => exact ⟨0, rfl, by omega, Lib.hid ⟨_, hst, fun _ _ => rfl⟩, Lib.hid hb1, Lib.hid hsz⟩
    case round =>
      clear hst hb1 hsz
      obtain ⟨k, rfl, hk, HO, HBW, HS⟩ := hrel
      by_cases hlt : k < n + 1
      · have T2 : decide ((k : Int) < (n : Int) + 1) = true := by simp; omega
        have T2' : decide ((k : Int) < ((n + 1 : Nat) : Int)) = true := by simp; omega
        go_wp2_with fail
        obtain ⟨M, hM⟩ : ∃ M, M = wr.heap.size := ⟨_, rfl⟩
        obtain ⟨U, hU, hnil⟩ := HO.out
        have hlow : ∀ i, i < n + 1 → i ≠ k → ∀ b, (U i).ownBlock = some b → b < M := fun i hi _ b hb => by rw [hM]; exact hU.lows i (by rw [heapP_len]; exact hi) b hb
        have hBM : g ≤ M := by rw [hM]; exact HS.out
        have HBW0 := HBW
        have HM := Lib.hid hM
        have HBM := Lib.hid hBM
        go_loopw [22] (fun y wz => ∃ q : Nat, y = .int .i64 q ∧ q ≤ k ∧ Hid (∃ U, OGU U g wz (.slice (some ⟨g, 0, none⟩) (n + 1) (n + 1)) (heapP n k q) ∧ wz.ownsRow M 45 1 (U k) q (i8s (heapRow q)) ∧ (∀ i, i < n + 1 → i ≠ k → ∀ b, (U i).ownBlock = some b → b < M) ∧ ∀ i, k < i → U i = .slice none 0 0) ∧ Hid (Below g w wz) ∧ Hid (M ≤ wz.heap.size)) (fun y _ => k - (intOf y).toNat)
        case atStart => exact ⟨0, rfl, by omega, Lib.hid ⟨U, hU, by rw [hnil k (Nat.le_refl _)]; exact World.ownsRow_nil _ _ _ _, hlow, fun i hi => hnil i (by omega)⟩, HBW, Lib.hid (by omega)⟩
        case round =>
          clear hU hnil hlow hM hBM HBW0 HBW HO HS U HM
          obtain ⟨q, rfl, hq, HQ, HQB, HQS⟩ := hrel
          by_cases hlq : q < k
          · have T3 : decide ((q : Int) < (k : Int)) = true := by simp; omega
            have cv := conv8 q (by omega)
            obtain ⟨U, hU, hrow, hlow, hnil⟩ := HQ.out
            obtain ⟨A2, c2, hUk, _, _⟩ := own_form hrow
            have hcell : wr.cell? ⟨g, k, none⟩ = some (U k) := by
              have := hU.outer
              rw [heapP_len] at this
              rw [this.cellAt k (by omega)]
              simp [hlt]
            have hkn : (k : Int) < (n : Int) + 1 := by omega
            have hkn' : (k : Int) < ((n + 1 : Nat) : Int) := by omega
            rw [hUk] at hcell hrow
            have HU := Lib.hid hU
            have HROW := Lib.hid hrow
            have HLOW := Lib.hid hlow
            have HNIL := Lib.hid hnil
            have HUK := Lib.hid hUk
            clear hU hrow hlow hnil hUk HQ
            go_wp2_with (at_builtin; refine wpList_append_own _ rfl _ _ 43 rfl (M) 45 i8 (.int .i8 0) 1 1 Try.underlying43 h8 h80 h81 h82 rfl (by decide) _ (q) _ rfl (HROW.out.alloc _) ⟨wr.heap.size, 0, none⟩ 1 1 [.int .i8 (q : Int)] rfl rfl ?c1 ?c2 ?c3 ?c4 ?c5 ?_)
            case c1 => exact one_cell2 _ _ _
            case c2 => simp [Value.oneCell']
            case c3 => unfold maxLen; omega
            case c4 => omega
            case c5 => rw [World.size_alloc]; have := HQS.out; omega
            intro s' wy hown hgrow _
            rw [heapRow_snoc] at hown
            obtain ⟨A3, c3, rfl, _, _⟩ := own_form hown
            have hal : Below wr.heap.size wr (wr.alloc (.cells #[.int .i8 (q : Int)] 45)) := (Below.refl _ _).alloc (Nat.le_refl _) _
            have hb2 := ((HQB.out.alloc (Nat.le_trans HBM.out HQS.out) (.cells #[.int .i8 (q : Int)] 45)).grown hgrow (by rw [World.size_alloc]; have := HQS.out; have := HBM.out; omega) (fun x hx => Nat.le_trans HBM.out (HROW.out.lt x hx).1))
            have hs2 := (Nat.le_trans (show M ≤ (wr.alloc (.cells #[.int .i8 (q : Int)] 45)).heap.size by rw [World.size_alloc]; have := HQS.out; omega) hgrow.size)
            obtain ⟨r1, r2, r3, r4⟩ := (HU.out.below hal).replace (gs' := heapP n k (q + 1)) (zs := heapRow (q + 1)) (k := k) (heapP_len n k q) (by rw [heapP_len]; omega) (by rw [HUK.out]; exact hgrow) (by rw [heapRow_len]; exact hown) HBM.out (heapRow_small _ (by omega))
              (fun i hi hne b hb => HLOW.out i (by rw [heapP_len] at hi; exact hi) hne b hb) (by rw [heapP_len, heapP_len]) (by rw [heapP_at n k (q + 1) k hlt, if_neg (Nat.lt_irrefl k), if_pos rfl])
              (fun i hi hne => by rw [heapP_len] at hi; rw [heapP_at n k (q + 1) i hi, heapP_at n k q i hi]; by_cases e : i < k <;> simp [e, hne])
            rw [heapRow_len] at r2
            rw [HUK.out] at r3
            have hb3 := hb2.setCell (p := ⟨g, k, none⟩) (Nat.le_refl _) (.slice A3 (q + 1) c3)
            have hs3 : M ≤ (wy.setCell ⟨g, k, none⟩ (.slice A3 (q + 1) c3)).heap.size := by simpa [World.setCell] using hs2
            have HREL := Lib.hid (show ∃ U, OGU U g (wy.setCell ⟨g, k, none⟩ (.slice A3 (q + 1) c3)) (.slice (some ⟨g, 0, none⟩) (n + 1) (n + 1)) (heapP n k (q + 1)) ∧ (wy.setCell ⟨g, k, none⟩ (.slice A3 (q + 1) c3)).ownsRow M 45 1 (U k) (q + 1) (i8s (heapRow (q + 1))) ∧ (∀ i, i < n + 1 → i ≠ k → ∀ b, (U i).ownBlock = some b → b < M) ∧ ∀ i, k < i → U i = .slice none 0 0 from
              ⟨_, r1, by simp only [if_true]; exact r2, fun i hi hne b hb => HLOW.out i hi hne b (by simpa [hne] using hb), fun i hi => by simp only [show i ≠ k from by omega, if_false]; exact HNIL.out i hi⟩)
            have HB3 := Lib.hid hb3
            have HS3 := Lib.hid hs3
            obtain ⟨n3, hn3⟩ : ∃ n3, n3 = q + 1 := ⟨_, rfl⟩
            rw [← hn3] at HREL HB3 HS3 ⊢
            have HN3 := Lib.hid hn3
            clear hown hgrow hal hb2 hs2 r1 r2 hb3 hs3 HU HROW HLOW HNIL HUK HQB HQS hn3
            go_wp2_with fail
            go_roundw
            case rel => exact ⟨q + 1, by go_num, by omega, by rw [← HN3.out]; exact HREL, HB3, HS3⟩
            case measure => simp [intOf]; omega
          · obtain rfl : q = k := by omega
            have T3 : decide ((q : Int) < (q : Int)) = false := by simp
            obtain ⟨U, hU, hrow, hlow, hnil⟩ := HQ.out
            rw [heapP_next] at hU
            have HO2 := Lib.hid (show ∃ U, OGU U g wr (.slice (some ⟨g, 0, none⟩) (n + 1) (n + 1)) (heapP n (q + 1) 0) ∧ ∀ i, q + 1 ≤ i → U i = .slice none 0 0 from ⟨U, hU, fun i hi => hnil i (by omega)⟩)
            have HS2 := Lib.hid (Nat.le_trans HBM.out HQS.out)
            clear hU hrow hlow hnil HQ HQS
            go_wp2_with fail
            exact ⟨⟨q + 1, by go_num, by omega, HO2, HQB, HS2⟩, by simp [intOf]; omega⟩
      · obtain rfl : k = n + 1 := by omega
        have T2 : decide (((n + 1 : Nat) : Int) < (n : Int) + 1) = false := by simp
        have T2' : decide (((n + 1 : Nat) : Int) < ((n + 1 : Nat) : Int)) = false := by simp
        obtain ⟨U, hU, _⟩ := HO.out
        rw [heapP_end] at hU
        go_wp2_with fail
        go_ret2
        obtain rfl := HG.out
        exact ⟨_, U, rfl, hU, HBW.out⟩
def toP (gs : List (List Int)) (k : Nat) : List (List Int) := (List.range gs.length).map fun i => if i < k then gs.getD i [] else []
theorem toP_len (gs : List (List Int)) (k : Nat) : (toP gs k).length = gs.length := by simp [toP]
theorem toP_at (gs : List (List Int)) (k i : Nat) (hi : i < gs.length) : (toP gs k).getD i [] = if i < k then gs.getD i [] else [] := by unfold toP; exact rangeMap_getD _ _ _ hi
theorem toP_end (gs : List (List Int)) : toP gs gs.length = gs := by
  refine List.ext_getElem (toP_len _ _) fun i h1 h2 => ?_
  simp [toP, List.getD, h2]
theorem toP_start (gs : List (List Int)) (B : Nat) (w : World) (v : Value) (h : w.ownsRow B 43 1 v gs.length (List.replicate gs.length (.slice none 0 0))) : OGU (fun _ => .slice none 0 0) B w v (toP gs 0) := by
  have z : ∀ i, i < gs.length → (toP gs 0).getD i [] = [] := fun i hi => by rw [toP_at gs 0 i hi, if_neg (by omega)]
  refine ⟨?_, fun i hi => ?_, fun i hi => ?_, fun i j _ _ => .inl rfl⟩
  · rw [toP_len, List.map_const', List.length_range]; exact h
  · rw [toP_len] at hi
    rw [z i hi]
    exact World.ownsRow_nil _ _ _ _
  · rw [toP_len] at hi
    rw [z i hi]
    intro x hx; cases hx
set_option maxHeartbeats 1000000 in
theorem toGame_own (v : Value) (gs : List (List Int)) (hn : total gs ≤ 1048576) (w : World) (h : GS 0 w v gs) :
    Calls Try.prog 10 #[v] w fun e w' => ∃ u U, e = .returned u ∧ Below w.heap.size w w' ∧ OGU U w.heap.size w' u gs := by
  obtain ⟨A, c, rfl, hm, hm2, hc⟩ := h
  obtain ⟨i0, hi, hz0, hz1, hz2⟩ := info_parts infoRow8
  have HC := Lib.hid hc; clear hc
  have HT := Lib.hid (fun i => total_row gs i)
  have hlen : gs.length ≤ 1048576 := Nat.le_trans (total_len gs) hn
  go_enter Try.func10, Try.ntmps10
  go_wp2_with (at_make; refine wpList_make_full _ rfl _ _ 25 rfl w.heap.size 43 i0 (.slice none 0 0) 1 Try.underlying25 hi hz0 hz1 _ _ _ _ gs.length rfl rfl rfl rfl (by rw [hz2]; omega) (by unfold maxLen; omega) (Nat.le_refl _) ?_)
  intro w1 hown hgrow
  have hb1 : Below w.heap.size w w1 := (Below.refl _ w).grown hgrow (Nat.le_refl _) (fun k hk => by cases hk)
  obtain ⟨g, hg⟩ : ∃ g, g = w.heap.size := ⟨_, rfl⟩
  rw [← hg] at hown hb1 ⊢
  have hsz : g ≤ w1.heap.size := Nat.le_of_lt (hown.lt g rfl).2
  have HG := Lib.hid hg; clear hg
  have hown1 : w1.ownsRow g 43 1 (.slice (some ⟨g, 0, none⟩) gs.length gs.length) gs.length (List.replicate gs.length (.slice none 0 0)) := by
    have e : (madeCells #[Value.slice none 0 0] gs.length).toList = List.replicate gs.length (.slice none 0 0) := by rw [toList_madeCells_one]
    rw [← e]; exact hown
  have hst := toP_start gs g w1 _ hown1
  clear hown hgrow hown1
  go_wp2_with fail
  go_loopw [4] (fun y wz => ∃ k : Nat, y = .int .i64 k ∧ k ≤ gs.length ∧ Hid (∃ U, OGU U g wz (.slice (some ⟨g, 0, none⟩) gs.length gs.length) (toP gs k) ∧ ∀ i, k ≤ i → U i = .slice none 0 0) ∧ Hid (Below g w wz) ∧ Hid (g ≤ wz.heap.size)) (fun y _ => gs.length - (intOf y).toNat)
  case atStart => exact ⟨0, rfl, Nat.zero_le _, Lib.hid ⟨_, hst, fun _ _ => rfl⟩, Lib.hid hb1, Lib.hid hsz⟩
  case round =>
    clear hst hb1 hsz
    obtain ⟨k, rfl, hk, HO, HB, HS⟩ := hrel
    by_cases hlt : k < gs.length
    · obtain ⟨b, off, rfl, _, hlb, hcell⟩ := HC.out (by omega)
      obtain ⟨u, h1, h2⟩ := hcell k hlt
      have h1 : wr.cell? ⟨b, off + k, none⟩ = some u := (HB.out.cell (p := ⟨b, off + k, none⟩) (by rw [HG.out]; exact hlb)).trans h1
      have hbw : Below w.heap.size w wr := by rw [← HG.out]; exact HB.out
      have h2 := Lib.hid (h2.below hbw)
      have hlt' : (k : Int) < (gs.length : Int) := by omega
      have HCL := Lib.hid hcell
      clear hcell hbw
      go_wp2_with fail
      refine (toInt8S_any u (gs.getD k []) (Nat.le_trans (HT.out k hlt) hn) _ h2.out).mono ?_
      rintro e w2 ⟨x, rfl, hb2, ho2⟩
      obtain ⟨U, hU, hnil⟩ := HO.out
      obtain ⟨A2, c2, rfl, _, _⟩ := own_form ho2
      have hgr : wr.grownBy w2 (U k).ownBlock := by
        rw [hnil k (Nat.le_refl _)]
        exact ⟨hb2.os, hb2.tape, hb2.output, hb2.size, fun y hy _ => hb2.block y hy⟩
      obtain ⟨r1, r2, r3, r4⟩ := hU.replace (gs' := toP gs (k + 1)) (zs := gs.getD k []) (k := k) (toP_len gs k) (by rw [toP_len]; exact hlt) hgr ho2 HS.out h2.out.all
        (fun i hi hne b hb => hU.lows i hi b hb) (by rw [toP_len, toP_len]) (by rw [toP_at gs (k + 1) k hlt, if_pos (Nat.lt_succ_self k)])
        (fun i hi hne => by
          rw [toP_len] at hi
          rw [toP_at gs (k + 1) i hi, toP_at gs k i hi]
          by_cases e : i < k
          · rw [if_pos e, if_pos (by omega)]
          · rw [if_neg e, if_neg (by omega)])
      rw [hnil k (Nat.le_refl _)] at r3
      obtain ⟨n2, hL⟩ : ∃ n2, n2 = (gs.getD k []).length := ⟨_, rfl⟩
      have hb3 : Below g w w2 := HB.out.trans (hb2.mono HS.out)
      have hs2 : g ≤ w2.heap.size := Nat.le_trans HS.out hb2.size
      have hb4 := Lib.hid (hb3.setCell (p := ⟨g, k, none⟩) (Nat.le_refl _) (.slice A2 (gs.getD k []).length c2))
      have hs4 := Lib.hid (show g ≤ (w2.setCell ⟨g, k, none⟩ (.slice A2 (gs.getD k []).length c2)).heap.size by simpa [World.setCell] using hs2)
      have HREL := Lib.hid (show ∃ U, OGU U g (w2.setCell ⟨g, k, none⟩ (.slice A2 (gs.getD k []).length c2)) (.slice (some ⟨g, 0, none⟩) gs.length gs.length) (toP gs (k + 1)) ∧ ∀ i, k + 1 ≤ i → U i = .slice none 0 0 from
        ⟨_, r1, fun i hi => by simp only [show i ≠ k from by omega, if_false]; exact hnil i (by omega)⟩)
      rw [← hL] at hb4 hs4 HREL ⊢
      clear h1 HO HB HS hb2 ho2 hU hnil hgr r1 r2 hb3 hs2 hL
      go_wp2_with fail
      go_roundw
      case rel => exact ⟨k + 1, by go_num, by omega, HREL, hb4, hs4⟩
      case measure => simp [intOf]; omega
    · obtain rfl : k = gs.length := by omega
      have hlt' : decide ((gs.length : Int) < (gs.length : Int)) = false := by simp
      obtain ⟨U, hU, _⟩ := HO.out
      rw [toP_end] at hU
      go_wp2_with fail
      go_ret
      obtain rfl := HG.out
      exact ⟨_, U, rfl, HB.out, hU⟩
theorem lens_sum (gs : List (List Int)) : ∀ t, lensTo gs t = gs.length + sumTo gs t
  | 0 => rfl
  | t + 1 => by
    have ih := lens_sum gs t
    show lensTo gs t + _ = gs.length + (sumTo gs t + _)
    omega
theorem sum_of_total {gs : List (List Int)} (h : total gs ≤ 1048576) : sumTo gs gs.length ≤ 1048576 := by
  have := lens_sum gs gs.length
  unfold total at h
  omega
theorem heapG_total (h : Int) : total (heapG h) ≤ 1048576 := by
  unfold heapG
  by_cases hb : badH h
  · rw [if_pos hb]; decide
  · rw [if_neg hb]
    unfold badH at hb
    have h1 := lens_sum (heapL (h.toNat + 1)) (heapL (h.toNat + 1)).length
    rw [heapL_len] at h1
    have h2 := sum_heapL (h.toNat + 1) (by omega) (h.toNat + 1) (Nat.le_refl _)
    unfold total
    rw [heapL_len, h1]
    omega
end Go.Proofs.Ytkeliojgldfkkaa
