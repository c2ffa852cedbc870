/-
  LogOf, of the model.
-/
import Derived.Test.YthnloaddmkpmkaaLog2
namespace Go.Proofs.Ythnloaddmkpmkaa
set_option linter.unusedVariables false
set_option linter.unusedSimpArgs false
open Go.ChangeShapes Go.WideShapes Go.ChangeAt Go.RowKit

def plist (x : Int) (k : Nat) : List Int := (List.range k).map (pj x)
theorem plist_len (x : Int) (k : Nat) : (plist x k).length = k := by simp [plist]
theorem plist_snoc (x : Int) (k : Nat) : u16s (plist x k) ++ [.int .u16 (pj x k)] = u16s (plist x (k + 1)) := by
  simp [plist, u16s, List.range_succ]
theorem plist_at (x : Int) (k j : Nat) (h : j < k) : (u16s (plist x k))[j]? = some (.int .u16 (pj x j)) := by
  simp [plist, u16s, h]

theorem idx_up {x a : Int} {k j : Nat} (h : idx x a k = some j) (m : Nat) : idx x a (k + m) = some j := by
  induction m with
  | zero => exact h
  | succ m ih => exact idx_some_keep ih
theorem idx_to {x a : Int} {k : Nat} (h : idx x a k = none) (e : pj x k = a) (hk : k < 256) : idx x a 256 = some k := by
  have := idx_up (idx_none_hit h e) (256 - (k + 1))
  rw [show k + 1 + (256 - (k + 1)) = 256 from by omega] at this
  exact this
theorem idx_hit {x a : Int} {k : Nat} (hall : ∀ j, j < k → ¬ pj x j = a) (e : pj x k = a) (hk : k < 256) : idx x a 256 = some k :=
  firstAt_some (isAt x a) k (by unfold isAt; exact decide_eq_true e) 256 0 (Nat.zero_le _) (by omega) (fun j _ hj => decide_eq_false (hall j hj))
theorem idx_miss_all {x a : Int} {n : Nat} (hall : ∀ j, j < n → ¬ pj x j = a) : idx x a n = none :=
  firstAt_none (isAt x a) n 0 (fun j _ hj => decide_eq_false (hall j (by omega)))
theorem mulI_ne {x y : Int} (x0 : 0 ≤ x) (x1 : x < 65536) (y0 : 0 ≤ y) (y1 : y < 65536) (hx : ¬ x = 0) (hy : ¬ y = 0) : ¬ mulI x y = 0 := by
  intro h
  have h2 : Nim.mul x.toNat y.toNat = 0 := by unfold mulI at h; omega
  rcases Nim.mul_eq_zero (by omega) (by omega) h2 with h3 | h3 <;> omega
theorem pj_ne {x : Int} (x0 : 0 ≤ x) (x1 : x < 65536) (hx : ¬ x = 0) (j : Nat) : ¬ pj x j = 0 := by
  induction j with
  | zero => intro h; exact absurd (show (1 : Int) = 0 from h) (by decide)
  | succ j ih => exact mulI_ne (pj_b x x1 j).1 (pj_b x x1 j).2 x0 x1 ih hx
theorem an_zero (b : Int) (n : Nat) : an 0 b n = 0 := by
  induction n with
  | zero => rfl
  | succ n ih =>
    show mulI (an 0 b n) b = 0
    rw [ih]; unfold mulI
    rw [show (0 : Int).toNat = 0 from rfl, Nim.mul_zero_left]; rfl
theorem logV_zero {x : Int} (x0 : 0 ≤ x) (x1 : x < 65536) (hx : ¬ x = 0) : logV x 0 = .tuple #[.int .i64 0, .int .i64 6] := by
  refine logV_none (fun n _ => ?_)
  unfold hitN
  rw [an_zero, idx_miss_all (fun j _ => pj_ne x0 x1 hx j)]; rfl
theorem one_cell (w : World) (v : Value) (t : TypeId) (j : Nat) (u : Value) (h : [v][j]? = some u) : (w.alloc (.cells #[v] t)).cell? ((⟨w.heap.size, 0, none⟩ : Addr).add j) = some u := by
  cases j with
  | zero =>
    simp only [List.getElem?_cons_zero, Option.some.injEq] at h
    subst h
    exact cell_of_row _ _ _ _ _ _ (heap_alloc_new w _)
  | succ j => simp at h
theorem all_ne_step {x a : Int} {k : Nat} (h : ∀ j, j < k → ¬ pj x j = a) (e : ¬ pj x k = a) : ∀ j, j < k + 1 → ¬ pj x j = a := by
  intro j hj
  by_cases h1 : j < k
  · exact h j h1
  · rw [show j = k from by omega]; exact e

set_option maxRecDepth 100000 in
set_option maxHeartbeats 2000000 in
theorem spec_LogOf_walk (x a : Int) (x0 : 0 ≤ x) (x1 : x < 65536) (a0 : 0 ≤ a) (a1 : a < 65536) (hx : ¬ x = 0) (w : World) :
    Calls Try.prog 48 #[.int .u16 x, .int .u16 a] w fun e w' => e = .returned (logV x a) ∧ Below w.heap.size w w' := by
  obtain ⟨i0, hi, hz0, hz1, hz2⟩ := info_parts info25
  have hx0 := beq0_no hx
  have HX := Lib.hid hx
  clear hx
  go_enter Try.func48, Try.ntmps48
  go_wp2_with fail
  go_loopw [7, 8, 6] (fun p k s wr => ∃ (y : Int) (n : Nat), p = .int .u16 y ∧ k = .int .i64 n ∧ n ≤ 256 ∧ 0 ≤ y ∧ y < 65536 ∧ Hid (y = pj x n) ∧ wr.ownsRow w.heap.size 25 1 s n (u16s (plist x n)) ∧ Hid (idx x a n = none) ∧ Below w.heap.size w wr) (fun _ k _ _ => 256 - (intOf k).toNat)
  case atStart => exact ⟨1, 0, rfl, rfl, by omega, by omega, by omega, Lib.hid rfl, ⟨rfl, .inr ⟨w.heap.size, 0, #[], rfl, Nat.le_refl _, heap_alloc_new w _, Nat.le_refl _, by unfold maxLen; omega, rfl, rfl⟩⟩, Lib.hid rfl, (Below.refl _ _).alloc (Nat.le_refl _) _⟩
  case round =>
    obtain ⟨y, n, rfl, rfl, hn, y0, y1, hy, hown, hnone, hb⟩ := hrel
    have hbs := hb.size
    have HB := Lib.hid hb; clear hb
    by_cases hlt : n < 256
    · by_cases hya : y = a
      · have ht : (y == a) = true := beq_iff_eq.2 hya
        have HV := Lib.hid (logV_some (x := x) (a := a) (n := 0) (j := n) (by decide) (fun i hi => absurd hi (by omega)) (idx_to hnone.out (hy.out.symm.trans hya) hlt))
        clear hya
        go_wp2_with fail
        go_ret2
        exact ⟨by rw [HV.out]; simp, HB.out⟩
      · have ht : (y == a) = false := beq_eq_false_iff_ne.2 hya
        have HN := Lib.hid (idx_none_miss hnone.out (fun e => hya (hy.out.trans e)))
        clear hya
        go_wp2_with (at_builtin; refine wpList_append_own _ rfl _ _ 42 rfl w.heap.size 25 i0 (.int .u16 0) 1 2 Try.underlying42 hi hz0 hz1 hz2 rfl (by decide) _ n _ rfl (hown.alloc _) ⟨wr.heap.size, 0, none⟩ 1 1 [.int .u16 y] rfl rfl ?c1 ?c2 ?c3 ?c4 ?c5 ?_)
        case c1 => exact one_cell wr _ _
        case c2 => simp [Value.oneCell']
        case c3 => unfold maxLen; omega
        case c4 => omega
        case c5 => rw [World.size_alloc]; omega
        intro s' w2 hown2 hgrow2 _
        have HB2 := Lib.hid ((HB.out.alloc hbs _).grown hgrow2 (by rw [World.size_alloc]; omega) (fun k hk => (hown.lt k hk).1))
        have HO := hown2
        rw [hy.out, plist_snoc] at HO
        replace HO := Lib.hid HO
        have hbs2 := HB2.out.size
        clear hown2 hgrow2 hown
        go_wp2_with fail
        refine (ltimes_any _ _ y0 y1 x0 x1 _).mono ?_
        rintro e w' ⟨⟨y', rfl, hy', y0', y1'⟩, rfl⟩
        go_wp2_with fail
        go_roundw
        case rel => exact ⟨y', n + 1, rfl, by go_num, by omega, y0', y1', Lib.hid (by rw [hy'.out, hy.out]; rfl), HO.out, HN, HB2.out⟩
        case measure => simp [intOf]; omega
    · have hn6 : n = 256 := by omega
      subst hn6
      rcases hown.2 with ⟨_, h0⟩ | ⟨g, cap, cur, rfl, _⟩
      · omega
      by_cases ha : a = 0
      · have hz := beq0_yes ha
        have HV := Lib.hid (show logV x a = .tuple #[.int .i64 0, .int .i64 6] from by rw [ha]; exact logV_zero x0 x1 HX.out)
        clear ha
        have HO := Lib.hid hown; clear hown
        go_wp2_with fail
        go_ret2
        exact ⟨by rw [HV.out]; rfl, HB.out⟩
      · have hz := beq0_no ha
        clear ha
        have HO := Lib.hid hown; clear hown
        go_wp2_with fail
        refine (linverse_any _ y0 y1 _).mono ?_
        rintro e w' ⟨⟨b, rfl, hbk, b0, b1⟩, rfl⟩
        have HBK : Hid (b = bk x) := Lib.hid (by rw [hbk.out, hy.out]; rfl)
        clear hbk
        go_wp2_with fail
        go_loop [10, 11] (fun l f => ∃ (z f' : Int) (n : Nat), l = .int .u16 z ∧ f = .int .i64 f' ∧ 0 ≤ z ∧ z < 65536 ∧ 256 ≤ f' ∧ f' ≤ 65536 ∧ Hid (f' = 256 * ((n : Int) + 1) ∧ z = an a (bk x) n) ∧ Hid (∀ j, j < n + 1 → hitN x a j = false)) (fun _ f => (65536 - intOf f).toNat)
        case atStart => exact ⟨a, 256, 0, rfl, rfl, a0, a1, by omega, by omega, Lib.hid ⟨rfl, rfl⟩, Lib.hid (hits_step (fun j hj => absurd hj (by omega)) (by unfold hitN; rw [show an a (bk x) 0 = a from rfl, hnone.out]; rfl))⟩
        case round =>
          obtain ⟨z, f, n, rfl, rfl, z0, z1, f0, f1, hzf, hall⟩ := hrel
          by_cases hf : f < 65536
          · have hd : decide (f < 65536) = true := decide_eq_true hf
            have hn255 : n + 1 < 256 := by have := hzf.out.1; omega
            have hf2 : f ≤ 65280 := by have := hzf.out.1; omega
            go_wp2_with fail
            refine (ltimes_any _ _ z0 z1 b0 b1 _).mono ?_
            rintro e w' ⟨⟨z', rfl, hz', z0', z1'⟩, rfl⟩
            have HZ : Hid (z' = an a (bk x) (n + 1)) := Lib.hid (by rw [hz'.out, hzf.out.2, HBK.out]; rfl)
            clear hz'
            go_wp2_with fail
            go_loop [12] (fun i => ∃ k : Nat, i = .int .i64 k ∧ k ≤ 256 ∧ Hid (∀ j, j < k → ¬ pj x j = z')) (fun i => 256 - (intOf i).toNat)
            case atStart => exact ⟨0, rfl, by omega, Lib.hid (fun j hj => absurd hj (by omega))⟩
            case round =>
              obtain ⟨k, rfl, hk, hne⟩ := hrel
              by_cases hlk : k < 256
              · have hc := HO.out.cellAt k (by omega)
                rw [plist_at x 256 k hlk] at hc
                obtain ⟨q, hq⟩ : ∃ q, q = pj x k := ⟨_, rfl⟩
                rw [← hq] at hc
                by_cases hqz : q = z'
                · have ht : (q == z') = true := beq_iff_eq.2 hqz
                  have HV := Lib.hid (logV_some hn255 hall.out (by rw [← HZ.out]; exact idx_hit hne.out (hq.symm.trans hqz) hlk))
                  have HF := Lib.hid hzf.out.1
                  clear hqz hq
                  go_wp2_with fail
                  go_ret2
                  refine ⟨?_, HB.out⟩
                  rw [HV.out, show ((n + 1 : Nat) : Int) * 256 + (k : Int) = f + (k : Int) from by have := HF.out; omega]
                  rfl
                · have ht : (q == z') = false := beq_eq_false_iff_ne.2 hqz
                  have HV := Lib.hid (all_ne_step hne.out (fun e => hqz (hq.trans e)))
                  clear hqz hq
                  go_wp2_with fail
                  go_round
                  case rel => exact ⟨k + 1, by go_num, by omega, HV⟩
                  case measure => simp [intOf]; omega
              · have hk6 : k = 256 := by omega
                have HV := Lib.hid (hits_step hall.out (show hitN x a (n + 1) = false from by unfold hitN; rw [← HZ.out, ← hk6, idx_miss_all hne.out]; rfl))
                have HF := Lib.hid hzf.out.1
                clear hk6
                go_wp2_with fail
                exact ⟨⟨z', f + 256, n + 1, rfl, rfl, z0', z1', by omega, by omega, Lib.hid ⟨by have := HF.out; omega, HZ.out⟩, HV⟩, by simp [intOf]; omega⟩
          · have hd : decide (f < 65536) = false := decide_eq_false hf
            have HV := Lib.hid (logV_none (fun j hj => hall.out j (by have := hzf.out.1; omega)))
            go_wp2_with fail
            go_ret2
            exact ⟨by rw [HV.out]; rfl, HB.out⟩
/-- what both answer, where the base is 0 -/
def logV0 (x a : Int) : Value :=
  match idx x a 256 with
  | some k => .tuple #[.int .i64 k, .int .i64 0]
  | none => .tuple #[.int .i64 0, .int .i64 6]
theorem logV0_some {x a : Int} {k : Nat} (h : idx x a 256 = some k) : logV0 x a = .tuple #[.int .i64 k, .int .i64 0] := by unfold logV0; rw [h]
theorem logV0_none {x a : Int} (h : idx x a 256 = none) : logV0 x a = .tuple #[.int .i64 0, .int .i64 6] := by unfold logV0; rw [h]
theorem pj0 (j : Nat) : pj 0 (j + 1) = 0 := by
  show mulI (pj 0 j) 0 = 0
  unfold mulI
  rw [show (0 : Int).toNat = 0 from rfl, Nim.mul_zero_right]; rfl
theorem idx0_1 : idx 0 1 256 = some 0 := idx_hit (fun j hj => absurd hj (by omega)) rfl (by decide)
theorem idx0_0 : idx 0 0 256 = some 1 := idx_hit (fun j hj => by rw [show j = 0 from by omega]; exact fun e => absurd (show (1 : Int) = 0 from e) (by decide)) (pj0 0) (by decide)
theorem idx0_no (a : Int) (h : 1 < a) : idx 0 a 256 = none := idx_miss_all (fun j _ e => by
  cases j with
  | zero => have : (1 : Int) = a := e; omega
  | succ j => rw [pj0] at e; omega)
set_option maxHeartbeats 400000 in
theorem impl_LogOf_base0 (a : Int) (a0 : 0 ≤ a) (a1 : a < 65536) (w : World) :
    Calls Try.prog 49 #[.int .u16 0, .int .u16 a] w fun e w' => e = .returned (logV0 0 a) ∧ w = w' := by
  by_cases h : 1 < a
  · have hd : decide (1 < a) = true := decide_eq_true h
    have HV := Lib.hid (logV0_none (idx0_no a h))
    clear h
    go_enter Try.func49, Try.ntmps49
    go_wp2_with fail
    go_ret2
    exact ⟨by rw [HV.out]; rfl, rfl⟩
  · have hc : a = 0 ∨ a = 1 := by omega
    clear h
    rcases hc with rfl | rfl
    · have HV := Lib.hid (logV0_some idx0_0)
      go_enter Try.func49, Try.ntmps49
      go_wp2_with fail
      go_ret2
      exact ⟨by rw [HV.out]; rfl, rfl⟩
    · have HV := Lib.hid (logV0_some idx0_1)
      go_enter Try.func49, Try.ntmps49
      go_wp2_with fail
      go_ret2
      exact ⟨by rw [HV.out]; rfl, rfl⟩

set_option maxRecDepth 100000 in
set_option maxHeartbeats 2000000 in
theorem spec_LogOf_base0 (x a : Int) (x0 : 0 ≤ x) (x1 : x < 65536) (a0 : 0 ≤ a) (a1 : a < 65536) (hx : x = 0) (w : World) :
    Calls Try.prog 48 #[.int .u16 x, .int .u16 a] w fun e w' => e = .returned (logV0 x a) ∧ Below w.heap.size w w' := by
  obtain ⟨i0, hi, hz0, hz1, hz2⟩ := info_parts info25
  have hx0 := beq0_yes hx
  have HX := Lib.hid hx
  clear hx
  go_enter Try.func48, Try.ntmps48
  go_wp2_with fail
  go_loopw [7, 8, 6] (fun p k s wr => ∃ (y : Int) (n : Nat), p = .int .u16 y ∧ k = .int .i64 n ∧ n ≤ 256 ∧ 0 ≤ y ∧ y < 65536 ∧ Hid (y = pj x n) ∧ wr.ownsRow w.heap.size 25 1 s n (u16s (plist x n)) ∧ Hid (idx x a n = none) ∧ Below w.heap.size w wr) (fun _ k _ _ => 256 - (intOf k).toNat)
  case atStart => exact ⟨1, 0, rfl, rfl, by omega, by omega, by omega, Lib.hid rfl, ⟨rfl, .inr ⟨w.heap.size, 0, #[], rfl, Nat.le_refl _, heap_alloc_new w _, Nat.le_refl _, by unfold maxLen; omega, rfl, rfl⟩⟩, Lib.hid rfl, (Below.refl _ _).alloc (Nat.le_refl _) _⟩
  case round =>
    obtain ⟨y, n, rfl, rfl, hn, y0, y1, hy, hown, hnone, hb⟩ := hrel
    have hbs := hb.size
    have HB := Lib.hid hb; clear hb
    by_cases hlt : n < 256
    · by_cases hya : y = a
      · have ht : (y == a) = true := beq_iff_eq.2 hya
        have HV := Lib.hid (logV0_some (idx_to hnone.out (hy.out.symm.trans hya) hlt))
        clear hya
        go_wp2_with fail
        go_ret2
        exact ⟨by rw [HV.out]; rfl, HB.out⟩
      · have ht : (y == a) = false := beq_eq_false_iff_ne.2 hya
        have HN := Lib.hid (idx_none_miss hnone.out (fun e => hya (hy.out.trans e)))
        clear hya
        go_wp2_with (at_builtin; refine wpList_append_own _ rfl _ _ 42 rfl w.heap.size 25 i0 (.int .u16 0) 1 2 Try.underlying42 hi hz0 hz1 hz2 rfl (by decide) _ n _ rfl (hown.alloc _) ⟨wr.heap.size, 0, none⟩ 1 1 [.int .u16 y] rfl rfl ?c1 ?c2 ?c3 ?c4 ?c5 ?_)
        case c1 => exact one_cell wr _ _
        case c2 => simp [Value.oneCell']
        case c3 => unfold maxLen; omega
        case c4 => omega
        case c5 => rw [World.size_alloc]; omega
        intro s' w2 hown2 hgrow2 _
        have HB2 := Lib.hid ((HB.out.alloc hbs _).grown hgrow2 (by rw [World.size_alloc]; omega) (fun k hk => (hown.lt k hk).1))
        have HO := hown2
        rw [hy.out, plist_snoc] at HO
        replace HO := Lib.hid HO
        have hbs2 := HB2.out.size
        clear hown2 hgrow2 hown
        go_wp2_with fail
        refine (ltimes_any _ _ y0 y1 x0 x1 _).mono ?_
        rintro e w' ⟨⟨y', rfl, hy', y0', y1'⟩, rfl⟩
        go_wp2_with fail
        go_roundw
        case rel => exact ⟨y', n + 1, rfl, by go_num, by omega, y0', y1', Lib.hid (by rw [hy'.out, hy.out]; rfl), HO.out, HN, HB2.out⟩
        case measure => simp [intOf]; omega
    · have hn6 : n = 256 := by omega
      subst hn6
      have HV := Lib.hid (logV0_none hnone.out)
      have HO := Lib.hid hown; clear hown
      go_wp2_with fail
      go_ret2
      exact ⟨by rw [HV.out]; rfl, HB.out⟩
end Go.Proofs.Ythnloaddmkpmkaa
