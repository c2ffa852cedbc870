/-
  HeapGame: both sides.
-/
import Derived.Test.YtkeliojgldfkkaaOwnG
namespace Go.Proofs.Ytkeliojgldfkkaa
set_option linter.unusedVariables false
set_option linter.unusedSimpArgs false
open Go.ChangeShapes Go.WideShapes Go.ChangeAt Go.RowKit Go.Deep

theorem one_cell2 (w : World) (v : Value) (t : TypeId) (j : Nat) (u : Value) (h : [v][j]? = some u) : (w.alloc (.cells #[v] t)).cell? ((⟨w.heap.size, 0, none⟩ : Addr).add j) = some u := by
  cases j with
  | zero =>
    simp only [List.getElem?_cons_zero, Option.some.injEq] at h
    subst h
    exact cell_of_row _ _ _ _ _ _ (heap_alloc_new w _)
  | succ j => simp at h
theorem OGU.nil {B : Nat} {w : World} {v : Value} (h : w.ownsRow B 43 1 v 0 []) : OGU (fun _ => .slice none 0 0) B w v [] :=
  ⟨h, fun i hi => absurd hi (by simp), fun i hi => absurd hi (by simp), fun i j _ hj => absurd hj (by simp)⟩
def heapRow (i : Nat) : List Int := (List.range i).map fun (k : Nat) => (k : Int)
theorem heapRow_len (i : Nat) : (heapRow i).length = i := by simp [heapRow]
theorem heapRow_snoc (i : Nat) : i8s (heapRow i) ++ [Value.int .i8 (i : Int)] = i8s (heapRow (i + 1)) := by
  unfold heapRow; rw [List.range_succ, List.map_append]; simp [i8s]
theorem heapRow_small (i : Nat) (hi : i ≤ 60) : ∀ z ∈ heapRow i, -128 ≤ z ∧ z < 128 := by
  intro z hz
  unfold heapRow at hz
  obtain ⟨k, hk, rfl⟩ := List.mem_map.1 hz
  have := List.mem_range.1 hk
  omega
def heapL (n : Nat) : List (List Int) := (List.range n).map heapRow
theorem heapL_len (n : Nat) : (heapL n).length = n := by simp [heapL]
theorem heapL_snoc (n : Nat) : heapL n ++ [heapRow n] = heapL (n + 1) := by unfold heapL; rw [List.range_succ, List.map_append]; rfl
theorem heapL_at (n i : Nat) (hi : i < n) : (heapL n).getD i [] = heapRow i := rangeMap_getD _ _ _ hi
theorem sum_heapL (n : Nat) (hn : n ≤ 60) : ∀ t, t ≤ n → sumTo (heapL n) t ≤ t * 60
  | 0, _ => by simp [sumTo]
  | t + 1, h => by
    have ih := sum_heapL n hn t (by omega)
    have : sumTo (heapL n) (t + 1) = sumTo (heapL n) t + ((heapL n).getD t []).length := rfl
    rw [this, heapL_at n t (by omega), heapRow_len]
    omega
theorem conv8 (k : Nat) (h : k < 128) : IntKind.wrap .i8 (k : Int) = (k : Int) := by
  simp only [IntKind.wrap, show IntKind.i8.bits = 8 from rfl, show IntKind.i8.signed = true from rfl]
  simp; omega
def badH (h : Int) : Prop := h < 0 ∨ 59 < h
instance (h : Int) : Decidable (badH h) := by unfold badH; infer_instance
def heapC (h : Int) : Int := if badH h then 2 else 0
def heapG (h : Int) : List (List Int) := if badH h then [] else heapL (h.toNat + 1)
set_option maxRecDepth 100000 in
set_option maxHeartbeats 2000000 in
theorem spec_HeapGame (h : Int) (hlo : -9223372036854775808 ≤ h) (hhi : h ≤ 9223372036854775807) (w : World) :
    Calls Try.prog 15 #[.int .i64 h] w fun e w' => ∃ v U, e = .returned (.tuple #[v, .int .i64 (heapC h)]) ∧ OGU U w.heap.size w' v (heapG h) ∧ Below w.heap.size w w' := by
  obtain ⟨i8, h8, h80, h81, h82⟩ := info_parts info8
  obtain ⟨ir, hr, hr0, hr1, hr2⟩ := info_parts infoRow8
  by_cases hb : badH h
  · have hC : heapC h = 2 := by unfold heapC; rw [if_pos hb]
    have hG : heapG h = [] := by unfold heapG; rw [if_pos hb]
    rw [hC, hG]
    have T1 : decide ((0 : Int) ≤ h ∧ h ≤ 59) = false := by unfold badH at hb; simp; omega
    clear hC hG hb
    go_enter Try.func15, Try.ntmps15
    go_wp2_with fail
    refine (in_any _ _ _ _).mono ?_
    rintro e w' ⟨rfl, rfl⟩
    rw [T1]
    go_wp2_with fail
    go_ret2
    exact ⟨_, _, rfl, OGU.nil (World.ownsRow_made _ #[] 0 (Nat.le_refl _) (Nat.zero_le _) rfl), (Below.refl _ _).alloc (Nat.le_refl _) _⟩
  · have hC : heapC h = 0 := by unfold heapC; rw [if_neg hb]
    have hG : heapG h = heapL (h.toNat + 1) := by unfold heapG; rw [if_neg hb]
    unfold badH at hb
    obtain ⟨n, rfl⟩ : ∃ n : Nat, h = n := ⟨h.toNat, by omega⟩
    rw [Int.toNat_natCast] at hG
    rw [hC, hG]
    have T1 : decide ((0 : Int) ≤ (n : Int) ∧ (n : Int) ≤ 59) = true := by simp; omega
    have hn : n ≤ 59 := by omega
    clear hC hG hb hlo hhi
    go_enter Try.func15, Try.ntmps15
    go_wp2_with fail
    refine (in_any _ _ _ _).mono ?_
    rintro e w' ⟨rfl, rfl⟩
    rw [T1]
    clear T1
    go_wp2_with fail
    obtain ⟨B, hB⟩ : ∃ B, B = w'.heap.size := ⟨_, rfl⟩
    have m1 : (w'.alloc (.cells #[] 43)).ownsRow B 43 1 (.slice (some ⟨w'.heap.size, 0, none⟩) 0 0) 0 [] := World.ownsRow_made _ #[] 0 (by omega) (Nat.zero_le _) rfl
    have m2 : Below B w' (w'.alloc (.cells #[] 43)) := (Below.refl _ _).alloc (by omega) _
    have m3 : B ≤ (w'.alloc (.cells #[] 43)).heap.size := by rw [World.size_alloc]; omega
    rw [← hB] at m1 ⊢
    have HBB := Lib.hid hB
    clear hB
    generalize w'.alloc (.cells #[] 43) = wa at m1 m2 m3 ⊢
    go_loopw [5, 4] (fun y o wr => ∃ k : Nat, y = .int .i64 k ∧ k ≤ n + 1 ∧ Hid (∃ U, OGU U B wr o (heapL k)) ∧ Hid (Below B w' wr) ∧ Hid (B ≤ wr.heap.size)) (fun y _ _ => n + 1 - (intOf y).toNat)
    case atStart => exact ⟨0, rfl, by omega, Lib.hid ⟨_, OGU.nil m1⟩, Lib.hid m2, Lib.hid m3⟩
    case round =>
      clear m1 m2 m3
      obtain ⟨k, rfl, hk, HO, HBW, HS⟩ := hrel
      by_cases hlt : k ≤ n
      · have T2 : decide ((k : Int) ≤ (n : Int)) = true := by simp; omega
        go_wp2_with fail
        obtain ⟨M, hM⟩ : ∃ M, M = wr.heap.size := ⟨_, rfl⟩
        have m1 : (wr.alloc (.cells #[] 45)).ownsRow M 45 1 (.slice (some ⟨wr.heap.size, 0, none⟩) 0 0) 0 [] := World.ownsRow_made _ #[] 0 (by omega) (Nat.zero_le _) rfl
        have m2 : Below M wr (wr.alloc (.cells #[] 45)) := (Below.refl _ _).alloc (by omega) _
        have m3 : M ≤ (wr.alloc (.cells #[] 45)).heap.size := by rw [World.size_alloc]; omega
        rw [← hM] at m1 ⊢
        have HM := Lib.hid hM
        clear hM
        generalize wr.alloc (.cells #[] 45) = wb at m1 m2 m3 ⊢
        go_loopw [7, 6] (fun y mv wz => ∃ q : Nat, y = .int .i64 q ∧ q ≤ k ∧ Hid (wz.ownsRow M 45 1 mv q (i8s (heapRow q))) ∧ Hid (Below M wr wz) ∧ Hid (M ≤ wz.heap.size)) (fun y _ _ => k - (intOf y).toNat)
        case atStart => exact ⟨0, rfl, by omega, Lib.hid m1, Lib.hid m2, Lib.hid m3⟩
        case round =>
          clear m1 m2 m3
          obtain ⟨q, rfl, hq, HQ, HQB, HQS⟩ := hrel
          by_cases hlq : q < k
          · have T3 : decide ((q : Int) < (k : Int)) = true := by simp; omega
            have cv := conv8 q (by omega)
            go_wp2_with (at_builtin; refine wpList_append_own _ rfl _ _ 43 rfl (M) 45 i8 (.int .i8 0) 1 1 Try.underlying43 h8 h80 h81 h82 rfl (by decide) _ (q) _ rfl (HQ.out.alloc _) ⟨wr.heap.size, 0, none⟩ 1 1 [.int .i8 (q : Int)] rfl rfl ?c1 ?c2 ?c3 ?c4 ?c5 ?_)
            case c1 => exact one_cell2 _ _ _
            case c2 => simp [Value.oneCell']
            case c3 => unfold maxLen; omega
            case c4 => omega
            case c5 => rw [World.size_alloc]; have := HQS.out; omega
            intro s' wy hown hgrow _
            rw [heapRow_snoc] at hown
            have HB2 := Lib.hid ((HQB.out.alloc HQS.out _).grown hgrow (by rw [World.size_alloc]; have := HQS.out; omega) (fun x hx => (HQ.out.lt x hx).1))
            have HS2 := Lib.hid (Nat.le_trans (show M ≤ (wr.alloc (.cells #[.int .i8 (q : Int)] 45)).heap.size by rw [World.size_alloc]; have := HQS.out; omega) hgrow.size)
            have HQ2 := Lib.hid hown
            clear hown hgrow HQ HQB HQS
            go_wp2_with fail
            exact ⟨⟨q + 1, by go_num, by omega, HQ2, HB2, HS2⟩, by simp [intOf]; omega⟩
          · obtain rfl : q = k := by omega
            have T3 : decide ((q : Int) < (q : Int)) = false := by simp
            obtain ⟨A2, c2, rfl, _, _⟩ := own_form HQ.out
            obtain ⟨U, hU⟩ := HO.out
            have hU2 := hU.below (by rw [← HM.out]; exact HQB.out)
            obtain ⟨A3, c3, rfl, _, _⟩ := own_form hU.outer
            rw [heapL_len] at *
            have HU := Lib.hid hU
            have HU2 := Lib.hid hU2
            have hout := hU2.outer
            rw [heapL_len] at hout
            have HOUT := Lib.hid hout
            clear hU hU2 hout
            go_wp2_with (at_builtin; refine wpList_append_own _ rfl _ _ 25 rfl (B) 43 ir (.slice none 0 0) 1 24 Try.underlying25 hr hr0 hr1 hr2 rfl (by decide) _ (q) _ rfl (HOUT.out.alloc _) ⟨wr.heap.size, 0, none⟩ 1 1 [.slice A2 q c2] rfl rfl ?c1 ?c2 ?c3 ?c4 ?c5 ?_)
            case c1 => exact one_cell2 _ _ _
            case c2 => simp [Value.oneCell']
            case c3 => unfold maxLen; omega
            case c4 => omega
            case c5 => rw [World.size_alloc]; have := HQS.out; have := HS.out; have := HM.out; omega
            intro s' wy hown hgrow _
            have hal : Below wr.heap.size wr (wr.alloc (.cells #[.slice A2 q c2] 43)) := (Below.refl _ _).alloc (Nat.le_refl _) _
            have hq2 : wr.ownsRow M 45 1 (.slice A2 q c2) (heapRow q).length (i8s (heapRow q)) := by rw [heapRow_len]; exact HQ.out
            have hnew := (HU2.out.below hal).snoc hgrow (by rw [heapL_len]; exact hown) (own_below hq2 hal) (by have := HS.out; have := HM.out; omega) (heapRow_small q (by omega)) (by
              intro i hi b hb
              rw [HM.out]
              exact HU.out.lows i hi b hb)
            rw [heapL_snoc] at hnew
            have hb0 : Below B w' wr := HBW.out.trans (HQB.out.mono (by have := HS.out; have := HM.out; omega))
            have hbs : B ≤ wr.heap.size := by have := HS.out; have := HM.out; have := HQS.out; omega
            have HB2 := Lib.hid ((hb0.alloc hbs (.cells #[.slice A2 q c2] 43)).grown hgrow (by rw [World.size_alloc]; omega) (fun x hx => (HOUT.out.lt x hx).1))
            have HS2 := Lib.hid (Nat.le_trans (show B ≤ (wr.alloc (.cells #[.slice A2 q c2] 43)).heap.size by rw [World.size_alloc]; omega) hgrow.size)
            have HO2 := Lib.hid (show ∃ U, OGU U B wy s' (heapL (q + 1)) from ⟨_, hnew⟩)
            clear hown hgrow HQ HQB HQS HO HBW HS hq2 hnew hb0 hbs HU HU2 HOUT hal
            go_wp2_with fail
            exact ⟨⟨q + 1, by go_num, by omega, HO2, HB2, HS2⟩, by simp [intOf]; omega⟩
      · obtain rfl : k = n + 1 := by omega
        have T2 : decide (((n + 1 : Nat) : Int) ≤ (n : Int)) = false := by simp; omega
        obtain ⟨U, hU⟩ := HO.out
        go_wp2_with fail
        go_ret2
        obtain rfl := HBB.out
        exact ⟨_, U, rfl, hU, HBW.out⟩
end Go.Proofs.Ytkeliojgldfkkaa
