/-
  Words compared; the words of a list collected out of an iterator.
-/
import Derived.Test.YthhjhfkcgokffaaYb
import Derived.Stop.RegionWithIn
import Derived.RangeFuncCalls
import Derived.RangeFuncBox
import Derived.OwnWalkIn
import Derived.RangeFuncLeaves
import Derived.Shelf.Abstract
import Derived.TacticsInMore
import Derived.LoopNIn
import Derived.LoopIn
import Derived.Maps.AppendAt
namespace Go.Proofs.Ythhjhfkcgokffaa
set_option linter.unusedVariables false
set_option linter.unusedSimpArgs false
open Go.ChangeShapes Go.WideShapes Go.ChangeAt Go.RowKit Go.Shelf
attribute [local go_sem] Oper.semAt_some

/-- words compared from their first nimbers on -/
def cmpL : List Int → List Int → Int
  | [], [] => 0
  | [], _ :: _ => -1
  | _ :: _, [] => 1
  | x :: xs, y :: ys => if x < y then -1 else if y < x then 1 else cmpL xs ys
theorem cmpL_refl : ∀ xs, cmpL xs xs = 0
  | [] => rfl
  | x :: xs => by rw [cmpL, if_neg (by omega), if_neg (by omega), cmpL_refl xs]
theorem cmpL_eq : ∀ xs ys, cmpL xs ys = 0 → xs = ys
  | [], [], _ => rfl
  | [], _ :: _, h => by simp [cmpL] at h
  | _ :: _, [], h => by simp [cmpL] at h
  | x :: xs, y :: ys, h => by
    rw [cmpL] at h
    split at h
    · omega
    · split at h
      · omega
      · rw [cmpL_eq xs ys h, show x = y from by omega]
theorem cmpL_b : ∀ xs ys, cmpL xs ys = 0 ∨ cmpL xs ys = 1 ∨ cmpL xs ys = -1
  | [], [] => .inl rfl
  | [], _ :: _ => .inr (.inr rfl)
  | _ :: _, [] => .inr (.inl rfl)
  | x :: xs, y :: ys => by
    rw [cmpL]
    split
    · exact .inr (.inr rfl)
    · split
      · exact .inr (.inl rfl)
      · exact cmpL_b xs ys
theorem cmpL_anti : ∀ xs ys, cmpL xs ys = - cmpL ys xs
  | [], [] => rfl
  | [], _ :: _ => rfl
  | _ :: _, [] => rfl
  | x :: xs, y :: ys => by
    rw [cmpL, cmpL]
    by_cases h1 : x < y
    · rw [if_pos h1, if_neg (by omega), if_pos h1]
    · by_cases h2 : y < x
      · rw [if_neg h1, if_pos h2, if_pos h2]; rfl
      · rw [if_neg h1, if_neg h2, if_neg h2, if_neg h1]; exact cmpL_anti xs ys
theorem cmpL_trans : ∀ xs ys zs, cmpL xs ys < 0 → cmpL ys zs < 0 → cmpL xs zs < 0
  | [], [], _, h, _ => by simp [cmpL] at h
  | [], _ :: _, [], _, h => by simp [cmpL] at h
  | [], _ :: _, _ :: _, _, _ => by simp [cmpL]
  | _ :: _, [], _, h, _ => by simp [cmpL] at h
  | _ :: _, _ :: _, [], _, h => by simp [cmpL] at h
  | x :: xs, y :: ys, z :: zs, h1, h2 => by
    rw [cmpL] at h1 h2 ⊢
    by_cases a : x < y
    · by_cases b : y < z
      · rw [if_pos (by omega)]; omega
      · rw [if_neg b] at h2
        by_cases c : z < y
        · rw [if_pos c] at h2; omega
        · rw [if_pos (by omega)]; omega
    · rw [if_neg a] at h1
      by_cases d : y < x
      · rw [if_pos d] at h1; omega
      · rw [if_neg d] at h1
        by_cases b : y < z
        · rw [if_pos (by omega)]; omega
        · rw [if_neg b] at h2
          by_cases c : z < y
          · rw [if_pos c] at h2; omega
          · rw [if_neg c] at h2
            rw [if_neg (by omega), if_neg (by omega)]
            exact cmpL_trans xs ys zs h1 h2
theorem cmpL_drop {xs ys : List Int} {k : Nat} (h1 : k < xs.length) (h2 : k < ys.length) : cmpL (xs.drop k) (ys.drop k) = if xs.getD k 0 < ys.getD k 0 then -1 else if ys.getD k 0 < xs.getD k 0 then 1 else cmpL (xs.drop (k + 1)) (ys.drop (k + 1)) := by
  rw [List.drop_eq_getElem_cons h1, List.drop_eq_getElem_cons h2, cmpL]
  simp [List.getD, h1, h2]
theorem cmp1_any (x y : Int) (w : World) :
    Calls Try.prog 172 #[.int .u16 x, .int .u16 y] w fun e w' => e = .returned (.int .i64 (if x < y then -1 else if y < x then 1 else 0)) ∧ w = w' := by
  have hnan : ∀ (z : Int) (w : World), Calls Try.prog 185 #[.int .u16 z] w fun e w' => e = .returned (.bool false) ∧ w = w' := fun z w => by
    have T1 : (z != z) = false := by simp
    go_enter Try.func185, Try.ntmps185
    go_wp2_with fail
    go_ret
    exact ⟨rfl, rfl⟩
  have HNAN := Lib.hid hnan
  clear hnan
  by_cases h1 : x < y
  · have T1 : decide (x < y) = true := decide_eq_true h1
    rw [if_pos h1]
    go_enter Try.func172, Try.ntmps172
    go_wp2_with fail
    refine (HNAN.out _ _).mono ?_
    rintro e w' ⟨rfl, rfl⟩
    go_wp2_with fail
    refine (HNAN.out _ _).mono ?_
    rintro e w' ⟨rfl, rfl⟩
    go_wp2_with fail
    go_ret
    exact ⟨rfl, rfl⟩
  · have T1 : decide (x < y) = false := decide_eq_false h1
    rw [if_neg h1]
    by_cases h2 : y < x
    · have T2 : decide (y < x) = true := decide_eq_true h2
      rw [if_pos h2]
      go_enter Try.func172, Try.ntmps172
      go_wp2_with fail
      refine (HNAN.out _ _).mono ?_
      rintro e w' ⟨rfl, rfl⟩
      go_wp2_with fail
      refine (HNAN.out _ _).mono ?_
      rintro e w' ⟨rfl, rfl⟩
      go_wp2_with fail
      go_ret
      exact ⟨rfl, rfl⟩
    · have T2 : decide (y < x) = false := decide_eq_false h2
      rw [if_neg h2]
      go_enter Try.func172, Try.ntmps172
      go_wp2_with fail
      refine (HNAN.out _ _).mono ?_
      rintro e w' ⟨rfl, rfl⟩
      go_wp2_with fail
      refine (HNAN.out _ _).mono ?_
      rintro e w' ⟨rfl, rfl⟩
      go_wp2_with fail
      go_ret
      exact ⟨rfl, rfl⟩
set_option maxHeartbeats 2000000 in
theorem compareS_any (v u : Value) (xs ys : List Int) (hn : xs.length ≤ 1048576) (hn2 : ys.length ≤ 1048576) (w : World) (h : NS w v xs) (h' : NS w u ys) :
    Calls Try.prog 163 #[v, u] w fun e w' => e = .returned (.int .i64 (cmpL xs ys)) ∧ w = w' := by
  obtain ⟨A, c, rfl, _, hc⟩ := h
  obtain ⟨A', c', rfl, _, hc'⟩ := h'
  have HC := Lib.hid hc
  have HC' := Lib.hid hc'
  obtain ⟨r, hr⟩ : ∃ r, r = cmpL xs ys := ⟨_, rfl⟩
  rw [← hr]
  have HR := Lib.hid hr
  clear hc hc' hr
  go_enter Try.func163, Try.ntmps163
  go_wp2_with fail
  go_loop [11] (fun y => ∃ k : Nat, y = .int .i64 (k : Int) ∧ k ≤ xs.length ∧ k ≤ ys.length ∧ Hid (r = cmpL (xs.drop k) (ys.drop k))) (fun y => xs.length - (intOf y).toNat)
  case atStart => exact ⟨0, rfl, Nat.zero_le _, Nat.zero_le _, Lib.hid (by simpa using HR.out)⟩
  case round =>
    clear HR
    obtain ⟨k, rfl, hk, hk2, HK⟩ := hrel
    by_cases hlt : k < xs.length
    · obtain ⟨b, off, rfl, hlb, hcell⟩ := HC.out (by omega)
      have i1 : (k : Int) < (xs.length : Int) := by omega
      have q1 := hcell k hlt
      have HCL := Lib.hid hcell
      clear hcell
      by_cases hlt2 : k < ys.length
      · obtain ⟨b', off', rfl, hlb', hcell'⟩ := HC'.out (by omega)
        have i2 : (k : Int) < (ys.length : Int) := by omega
        have T1 : decide ((ys.length : Int) ≤ (k : Int)) = false := by rw [decide_eq_false_iff_not]; omega
        have q2 := hcell' k hlt2
        have hd := cmpL_drop hlt hlt2
        rw [← HK.out] at hd
        have hcm := cmp1_any (xs.getD k 0) (ys.getD k 0) w
        obtain ⟨x, hx⟩ : ∃ x, x = xs.getD k 0 := ⟨_, rfl⟩
        obtain ⟨y, hy⟩ : ∃ y, y = ys.getD k 0 := ⟨_, rfl⟩
        rw [← hx] at q1 hd hcm
        rw [← hy] at q2 hd hcm
        have HCM := Lib.hid hcm
        have HCL' := Lib.hid hcell'
        clear hcell' hcm hx hy
        by_cases h1 : x < y
        · rw [if_pos h1] at HCM hd
          have HD := Lib.hid hd
          clear hd
          go_wp2_with fail
          refine HCM.out.mono ?_
          rintro e w' ⟨rfl, rfl⟩
          go_wp2_with fail
          go_ret
          exact ⟨by rw [HD.out]; rfl, rfl⟩
        · by_cases h2 : y < x
          · rw [if_neg h1, if_pos h2] at HCM hd
            have HD := Lib.hid hd
            clear hd
            go_wp2_with fail
            refine HCM.out.mono ?_
            rintro e w' ⟨rfl, rfl⟩
            go_wp2_with fail
            go_ret
            exact ⟨by rw [HD.out]; rfl, rfl⟩
          · rw [if_neg h1, if_neg h2] at HCM hd
            have HD := Lib.hid hd
            clear hd
            go_wp2_with fail
            refine HCM.out.mono ?_
            rintro e w' ⟨rfl, rfl⟩
            go_wp2_with fail
            exact ⟨⟨k + 1, by go_num, by omega, by omega, HD⟩, by simp [intOf]; omega⟩
      · have T1 : decide ((ys.length : Int) ≤ (k : Int)) = true := by rw [decide_eq_true_iff]; omega
        have HD : Hid (r = 1) := Lib.hid (by
          rw [HK.out, List.drop_eq_getElem_cons hlt, show List.drop k ys = [] from List.drop_eq_nil_of_le (by omega)]
          rfl)
        go_wp2_with fail
        go_ret
        exact ⟨by rw [HD.out]; rfl, rfl⟩
    · obtain rfl : k = xs.length := by omega
      have T1 : decide ((xs.length : Int) < (xs.length : Int)) = false := by simp
      by_cases hlt2 : xs.length < ys.length
      · have T2 : decide ((xs.length : Int) < (ys.length : Int)) = true := by rw [decide_eq_true_iff]; omega
        have HD : Hid (r = -1) := Lib.hid (by
          rw [HK.out, show List.drop xs.length xs = [] from List.drop_eq_nil_of_le (Nat.le_refl _), List.drop_eq_getElem_cons hlt2]
          rfl)
        go_wp2_with fail
        go_ret
        exact ⟨by rw [HD.out]; rfl, rfl⟩
      · have T2 : decide ((xs.length : Int) < (ys.length : Int)) = false := by rw [decide_eq_false_iff_not]; omega
        have HD : Hid (r = 0) := Lib.hid (by
          rw [HK.out, show List.drop xs.length xs = [] from List.drop_eq_nil_of_le (Nat.le_refl _), show List.drop xs.length ys = [] from List.drop_eq_nil_of_le (by omega)]
          rfl)
        go_wp2_with fail
        go_ret
        exact ⟨by rw [HD.out]; rfl, rfl⟩
theorem compare_any (v u : Value) (xs ys : List Int) (hn : xs.length ≤ 1048576) (hn2 : ys.length ≤ 1048576) (w : World) (h : NS w v xs) (h' : NS w u ys) :
    Calls Try.prog 142 #[v, u] w fun e w' => e = .returned (.int .i64 (cmpL xs ys)) ∧ w = w' := by
  obtain ⟨r, hr⟩ : ∃ r, r = cmpL xs ys := ⟨_, rfl⟩
  rw [← hr]
  have HR := Lib.hid hr
  clear hr
  go_enter Try.func142, Try.ntmps142
  go_wp2_with fail
  refine (compareS_any v u xs ys hn hn2 _ h h').mono ?_
  rintro e w' ⟨rfl, rfl⟩
  rw [← HR.out]
  go_wp2_with fail
  go_ret
  exact ⟨rfl, rfl⟩
/-! the iterator over a list of words -/
theorem cell_sameW {W W' : World} {b o : Nat} (h : W'.heap[b]? = W.heap[b]?) : W'.cell? ⟨b, o, none⟩ = W.cell? ⟨b, o, none⟩ := by
  unfold World.cell?
  rw [h]
/-- a row of values stands in memory -/
def RV (W : World) (A : Option Addr) (us : Nat → Value) (n : Nat) : Prop := 0 < n → ∃ b off, A = some ⟨b, off, none⟩ ∧ b < W.heap.size ∧ ∀ i, i < n → W.cell? ⟨b, off + i, none⟩ = some (us i)
/-- what the body keeps: all below h, and the box of the list -/
def KpW (h Bn : Nat) (W W' : World) : Prop := (∀ k, k < h → W'.heap[k]? = W.heap[k]?) ∧ W'.heap[Bn]? = W.heap[Bn]?
theorem KpW.keeps {h Bn n c : Nat} {A : Option Addr} {us : Nat → Value} (hA : 0 < n → ∀ b off, A = some ⟨b, off, none⟩ → b < h) (W W' : World) (hk : KpW h Bn W W')
    (hf : W.cell? ⟨Bn, 0, none⟩ = some (.slice A n c) ∧ RV W A us n) : W'.cell? ⟨Bn, 0, none⟩ = some (.slice A n c) ∧ RV W' A us n := by
  refine ⟨(cell_sameW hk.2).trans hf.1, fun hn => ?_⟩
  obtain ⟨b, off, rfl, hlt, hcell⟩ := hf.2 hn
  have hb := hA hn b off rfl
  have e2 := hk.1 b hb
  refine ⟨b, off, rfl, ?_, fun i hi => (cell_sameW e2).trans (hcell i hi)⟩
  rcases Nat.lt_or_ge b W'.heap.size with q | q
  · exact q
  · rw [Array.getElem?_eq_none q, Array.getElem?_eq_getElem hlt] at e2
    cases e2
set_option maxRecDepth 100000 in
set_option maxHeartbeats 2000000 in
theorem valuesW1_in (n l Bn : Nat) (hn : 1 ≤ n) (A : Option Addr) (c N : Nat) (us : Nat → Value) (hz : N ≤ 1048576) (J Jx : List Nat → World → Prop) (Kp : World → World → Prop)
    (hKp : ∀ W W', Kp W W' → (W.cell? ⟨Bn, 0, none⟩ = some (.slice A N c) ∧ RV W A us N) → (W'.cell? ⟨Bn, 0, none⟩ = some (.slice A N c) ∧ RV W' A us N))
    (hY : ∀ pre x W, J pre W → pre.length < N → YieldAt Fence.wide (n - 1) Try.prog l #[us x] W fun e W' =>
      (e = .returned (.bool true) ∧ J (pre ++ [x]) W' ∧ Kp W W') ∨ (e = .returned (.bool false) ∧ Jx (pre ++ [x]) W'))
    (W : World) (hBn : W.cell? ⟨Bn, 0, none⟩ = some (.slice A N c)) (hNS : RV W A us N) (h0 : J [] W) :
    CallsIn Fence.wide n Try.prog 162 #[.func (.yield l) #[] #[], .pointer (some ⟨Bn, 0, none⟩)] W fun e W' => (∃ v, e = .returned v) ∧
      ((∃ ys, ys = List.range N ∧ J ys W') ∨ (∃ pre, pre <+: List.range N ∧ Jx pre W')) := by
  have HK := Lib.hid hKp
  have HY := Lib.hid hY
  clear hKp hY
  refine callsIn_of_wp Try.func162 rfl trivial ?_ rfl
  simp only [Try.ntmps162, List.size_toArray, List.length_cons, List.length_nil, Nat.reduceAdd, Nat.reduceSub, Array.replicate_succ, Array.replicate_zero, List.push_toArray, List.append_toArray, List.nil_append, List.cons_append]
  gi_wp2
  gi_loopw [7] (fun y wr => ∃ k : Nat, y = .int .i64 (k : Int) ∧ k ≤ N ∧ J (List.range k) wr ∧ wr.cell? ⟨Bn, 0, none⟩ = some (.slice A N c) ∧ Hid (RV wr A us N))
    (fun y wr => N - (intOf y).toNat)
  case atStart => exact ⟨0, rfl, Nat.zero_le _, by simpa using h0, hBn, Lib.hid hNS⟩
  case round =>
    clear h0 hBn hNS
    obtain ⟨k, rfl, hk, hJ, hc, HN⟩ := hrel
    by_cases hlt : k < N
    · obtain ⟨b, off, rfl, hlb, hcell⟩ := HN.out (by omega)
      have q1 := hcell k (by omega)
      have i1 : (k : Int) < (N : Int) := by omega
      obtain ⟨fn, tmps, assign, body, hy, hR⟩ := HY.out (List.range k) k wr hJ (by rw [List.length_range]; omega)
      have hsn : List.range k ++ [k] = List.range (k + 1) := List.range_succ.symm
      have HSN := Lib.hid hsn
      obtain ⟨x, hx⟩ : ∃ x, x = us k := ⟨_, rfl⟩
      rw [← hx] at q1 hy
      clear hsn hcell hx
      gi_wp2
      refine hR.mono ?_
      rintro e W3 (⟨rfl, hJ3, hk3⟩ | ⟨rfl, hJx3⟩)
      · obtain ⟨hc3, hn3⟩ := HK.out wr W3 hk3 ⟨hc, HN.out⟩
        have hJ4 : J (List.range (k + 1)) W3 := by rw [← HSN.out]; exact hJ3
        clear hJ hJ3 hk3 hy hR hc HN q1
        gi_wp2
        go_roundw
        case rel => exact ⟨k + 1, by go_num, by omega, hJ4, hc3, Lib.hid hn3⟩
        case measure => first | (simp [intOf]; done) | (simp [intOf]; omega)
      · have hJx4 : Jx (List.range (k + 1)) W3 := by rw [← HSN.out]; exact hJx3
        gi_wp2
        first | go_end0 | refine bodyPost_ret (results_none rfl _ _ _) rfl ?_
        exact ⟨⟨_, rfl⟩, .inr ⟨_, by
          have e : List.range (k + 1) = (List.range N).take (k + 1) := by rw [List.take_range, Nat.min_eq_left (by omega)]
          rw [e]; exact List.take_prefix _ _, hJx4⟩⟩
    · obtain rfl : k = N := by omega
      have hJ2 : J (List.range k) wr := hJ
      gi_wp2
      first | go_end0 | refine bodyPost_ret (results_none rfl _ _ _) rfl ?_
      exact ⟨⟨_, rfl⟩, .inl ⟨_, rfl, hJ2⟩⟩
theorem valuesWs_any (A : Option Addr) (k c : Nat) (w : World) :
    Calls Try.prog 141 #[.slice A k c] w fun e w' => e = .returned (.func (.func 162) #[] #[.pointer (some ⟨w.heap.size, 0, none⟩)]) ∧ w' = w.alloc (.cells #[.slice A k c] 44) := by
  have hmf : ∀ (fn : Fn) (first cap : Array Value) (w : World), (Instr.makeFunc fn first cap).run Try.prog w = .ok (.func fn first cap) w := fun _ _ _ _ => rfl
  go_enter Try.func141, Try.ntmps141
  go_wp2_with fail
  go_ret
  exact ⟨rfl, rfl⟩
theorem enters_V1w : ∀ args w, (callFunc 162 args).run Try.prog w = .ok (.enter 162 args) w := enters_of Try.func162 (by kernel_rfl) rfl
theorem keeps_of_belowW {B : Nat} {W W' : World} (hb : Below W.heap.size W W') : KeepsFrom B W W' :=
  ⟨hb.size, fun k o _ hk _ => (hb.block k (Array.getElem?_eq_some_iff.1 hk).1).trans hk⟩
theorem own_lowW {w : World} {B B' : Nat} {e : TypeId} {s n : Nat} {v : Value} {xs : List Value} (h : w.ownsRow B e s v n xs) (hB : B' ≤ B) : w.ownsRow B' e s v n xs := by
  refine ⟨h.1, ?_⟩
  rcases h.2 with q | ⟨g, c, cur, q1, q2, q3⟩
  · exact .inl q
  · exact .inr ⟨g, c, cur, q1, Nat.le_trans hB q2, q3⟩
theorem own_tyA {w : World} {B n : Nat} {s : Value} {vs : List Value} (h : w.ownsRow B 25 1 s n vs) (k : Nat) (hk : s.ownBlock = some k) : ∃ cur, w.heap[k]? = some (.cells cur 25 (0, 0)) := by
  rcases h.2 with ⟨e, _⟩ | ⟨g, _, cur, e, _, hg, _⟩
  · rw [e] at hk; simp [Value.ownBlock] at hk
  · rw [e] at hk
    have : g = k := by simpa [Value.ownBlock] using hk
    subst this
    exact ⟨cur, hg⟩
def KpH (h : Nat) (W W' : World) : Prop := ∀ k, k < h → W'.heap[k]? = W.heap[k]?
set_option maxRecDepth 100000 in
set_option maxHeartbeats 4000000 in
theorem appendSeqW_any (gf : Nat) (lb : Array Value) (hg : ∀ args w, (callFunc gf args).run Try.prog w = .ok (.enter gf args) w) (N : Nat) (hN : N ≤ 1048576) (us : Nat → Value) (h1 : ∀ i, ∃ A n c, us i = .slice A n c) (w : World)
    (hstop : SeqStopsK Fence.wide 8 Try.prog gf lb (fun x : Nat => #[us x]) (KpH w.heap.size) (fun ys => ys = List.range N) (fun pre => pre <+: List.range N) N w) :
    Calls Try.prog 169 #[.slice none 0 0, .func (.func gf) #[] lb] w fun e w' => ∃ r, e = .returned r ∧ w'.ownsRow w.heap.size 25 1 r N ((List.range N).map us) ∧ Below w.heap.size w w' := by
  obtain ⟨i0, hi, hz0, hz1, hz2⟩ := info_parts infoWord
  have HST := Lib.hid hstop
  have H1 := Lib.hid h1
  clear hstop h1
  refine (callsIn_wide (n := 9)).1 ?_
  refine callsIn_of_wp_marks Try.func169 rfl trivial ?_ rfl
  simp only [Try.ntmps169, List.size_toArray, List.length_cons, List.length_nil, Nat.reduceAdd, Nat.reduceSub, Array.replicate_succ, Array.replicate_zero, List.push_toArray, List.append_toArray, List.nil_append, List.cons_append]
  gi_wp2
  obtain ⟨hh, hhe⟩ : ∃ hh, hh = w.heap.size := ⟨_, rfl⟩
  obtain ⟨w0, hw0⟩ : ∃ w0, w0 = w.alloc (.cells #[.slice none 0 0] 44) := ⟨_, rfl⟩
  have hB0 : Below hh w w0 := by rw [hw0, hhe]; exact (Below.refl _ w).alloc (Nat.le_refl _) _
  have hsz0 : w0.heap.size = hh + 1 := by rw [hw0, hhe]; simp
  have bV : Boxed w0 hh 44 (.slice none 0 0) := by
    rw [hw0, hhe]
    exact Boxed.new w 44 (.slice none 0 0)
  have hO0 : w0.ownsRow hh 25 1 (.slice none 0 0) ([] : List Nat).length (([] : List Nat).map us) := World.ownsRow_nil w0 hh 25 1
  rw [← hw0, ← hhe]
  have HHE := Lib.hid hhe
  rw [← hhe] at HST
  have HW : Below w.heap.size w w0 := by rw [← hhe]; exact hB0
  clear hw0 hhe
  refine wpIn_rangeFunc_ownG rfl (by omega) (gf := gf) (lb := lb) rfl trivial hg
    (Kp := KpH hh) (w0 := w) HST.out
    (fun h k x hx => (k x hx).trans (h x hx)) (fun W l o o' hl _ _ _ => fun k hk => World.putObj_heap_other (by omega)) HW (fun _ => rfl)
    (fun pre W => (∃ v, Boxed W hh 44 v ∧ W.ownsRow hh 25 1 v pre.length (pre.map us) ∧ True) ∧ (Below hh w W ∧ hh + 1 ≤ W.heap.size))
    (fun _ _ _ => False)
    (OwnFrom.and (Own.from (holdsRow_own hh hh 44 25 1 (fun (pre : List Nat) => pre.length) (fun (pre : List Nat) => pre.map us) (fun pre v => True)) _) (OwnFrom.and (ownFrom_below (Nat.le_of_eq HHE.out) (by omega)) (fun s A B row hs hg hr => Nat.le_trans hs hg.size)))
    (fun _ _ _ _ _ hs _ _ => hs)
    ⟨⟨_, bV, hO0, trivial⟩, hB0, by omega⟩
    (fun x => { tmps := #[.slice none 0 0, .func (.func gf) #[] lb, .pointer (some ⟨hh, 0, none⟩), undef, .slice none 0 0, us x, .func (.func gf) #[] lb, us x, undef, undef, undef, undef, undef], defers := [] }) ?assign ?body ?done ?stop
  case assign =>
    intro l p W K hK
    gi_wp2
    exact hK
  case body =>
    rintro l pre p W ⟨⟨v, hv, hrow, _⟩, hB, hsz⟩ hlt
    obtain ⟨A1, c1, rfl, hm1, hA1⟩ := own_form hrow
    obtain ⟨Ap, np, cp, ep⟩ := H1.out p
    have q1 : W.cell? ⟨hh, 0, none⟩ = some (.slice A1 pre.length c1) := hv.cell
    have hsnoc : pre.map us ++ [us p] = (pre ++ [p]).map us := by simp
    have HSN := Lib.hid hsnoc
    obtain ⟨x, hx⟩ : ∃ x, x = us p := ⟨_, rfl⟩
    rw [← hx] at HSN ep ⊢
    subst ep
    have hra : (W.alloc (.cells #[.slice Ap np cp] 25)).ownsRow hh 25 1 (.slice A1 pre.length c1) pre.length (pre.map us) := own_below hrow ((Below.refl _ W).alloc (Nat.le_refl _) _)
    have HRA := Lib.hid hra
    have HV := Lib.hid hv
    have hsp : ∀ k, (Value.slice A1 pre.length c1).ownBlock = some k → hh ≤ k ∧ k < W.heap.size ∧ k ≠ hh := fun k hk => by
      rcases hrow.2 with ⟨e, _⟩ | ⟨g, cap, cur, e, hb, hg, _⟩
      · rw [e] at hk; simp [Value.ownBlock] at hk
      · rw [e] at hk
        have e2 : g = k := by simpa [Value.ownBlock] using hk
        subst e2
        refine ⟨hb, (Array.getElem?_eq_some_iff.1 hg).1, fun e3 => ?_⟩
        have hbx : W.heap[hh]? = some (.cells #[.slice A1 pre.length c1] 44 (0, 0)) := hv
        rw [e3, hbx] at hg
        exact absurd hg (by intro e; injection e with e; injection e with e1 e2; exact absurd e2 (by decide))
    have HSP := Lib.hid hsp
    clear hra hrow hx hsnoc hsp hA1
    gi_wp2_with (gi_at_builtin; refine wpListIn_append_own _ rfl _ _ 44 rfl hh 25 i0 (.slice none 0 0) 1 24 Try.underlying44 hi hz0 hz1 hz2 rfl (by decide) _ pre.length (pre.map us) rfl HRA.out ⟨W.heap.size, 0, none⟩ 1 1 [.slice Ap np cp] rfl rfl ?c1 ?c2 ?c3 ?c4 ?c5 ?_)
    case c1 => exact one_cellC2 W _ _
    case c2 => exact fun u hu => by rw [List.mem_singleton] at hu; rw [hu]; rfl
    case c3 => unfold maxLen; omega
    case c4 => omega
    case c5 => simp; omega
    intro s' w3 hown hgrow _
    obtain ⟨A2, c2, rfl, _, _⟩ := own_form hown
    have hv3 : Boxed w3 hh 44 (.slice A1 pre.length c1) := (hgrow.block hh (by simp; omega) (fun e => (HSP.out hh e.symm).2.2 rfl)).trans ((((Below.refl _ W).alloc (Nat.le_refl _) _).block hh (by omega)).trans HV.out)
    have hgr : ∀ k, k < W.heap.size → some k ≠ (Value.slice A1 pre.length c1).ownBlock → w3.heap[k]? = W.heap[k]? := fun k hk hne => (hgrow.block k (by simp; omega) hne).trans (((Below.refl _ W).alloc (Nat.le_refl _) _).block k hk)
    have q3 : w3.cell? ⟨hh, 0, none⟩ = some (.slice A1 pre.length c1) := hv3.cell
    have HO3 := Lib.hid hown
    have HG3 := Lib.hid hgrow
    have HV3 := Lib.hid hv3
    have HGR := Lib.hid hgr
    have hfz : w3.frozen? ⟨hh, 0, none⟩ = false := by
      have : w3.heap[hh]? = some (.cells #[.slice A1 pre.length c1] 44 (0, 0)) := hv3
      unfold World.frozen?; rw [this]; simp
    have HFR := Lib.hid (show ∀ (k : Nat) (o : Obj), W.heap[k]? = some o → o.isCells = false → w3.heap[k]? = some o from fun k o hk ho => (HGR.out k (Array.getElem?_eq_some_iff.1 hk).1 (fun e => by
      obtain ⟨cur, hcur⟩ := own_tyA HRA.out k e.symm
      rw [((Below.refl _ W).alloc (Nat.le_refl _) _).block k (Array.getElem?_eq_some_iff.1 hk).1, hk] at hcur
      cases hcur
      cases ho)).trans hk)
    clear hown hgrow hv3 hgr q1
    gi_wp2
    have hw3 : Below hh w w3 := (hB.alloc (by omega) _).grown HG3.out (by simp; omega) (fun k e => (HSP.out k e.symm.symm).1)
    have ho4 := HO3.out
    refine ⟨(⟨Nat.le_trans (by simp) HG3.out.size, fun k o _ hk ho => HFR.out k o hk ho⟩ : KeepsFrom _ W w3).trans ((KeepsOthers.setCell _ _ _).from _), fun k hk => (Below.heap_setCell _ _ _ _ (by simp; omega)).trans (HGR.out k (by omega) (fun e => by have := (HSP.out k e.symm).1; omega)), ⟨_, HV3.out.set _, ?_, trivial⟩, hw3.setCell (p := ⟨hh, 0, none⟩) (Nat.le_refl _) _, by have := HG3.out.size; simp at this; simp [World.setCell]; omega⟩
    rw [← HSN.out, List.length_append]
    refine ho4.kept (grownBy_setCell' w3 hh _) (.inr ?_)
    exact (HV3.out.not_row (by decide) ho4).symm
  case done =>
    rintro D ys W hD rfl ⟨⟨v, hv, hrow, _⟩, hB, _⟩ hK
    have hc := hv.cell
    gi_wp2
    refine ⟨by simp, .inl ⟨_, _, rfl, run_takeDeferred hK, ?_⟩⟩
    have hrow2 : W.ownsRow hh 25 1 v N ((List.range N).map us) := by simpa using hrow
    exact ⟨_, results_tmp rfl _ _ _, v, rfl, own_lowW (ownsRow_putObj hrow2 _ hK rfl) (Nat.le_of_eq HHE.out.symm), by rw [← HHE.out]; exact hB.trans (belowK_b (w := w0) (by omega) W D _ _ hD hK rfl rfl)⟩
  case stop =>
    rintro D c pre W _ _ h _
    exact h.elim
set_option maxHeartbeats 1000000 in
theorem collectW_any (A : Option Addr) (N c : Nat) (hN : N ≤ 1048576) (us : Nat → Value) (h1 : ∀ i, ∃ A n c, us i = .slice A n c) (w : World) (hc : RV w A us N) :
    ∀ wa, wa = w.alloc (.cells #[.slice A N c] 44) → Calls Try.prog 160 #[.func (.func 162) #[] #[.pointer (some ⟨w.heap.size, 0, none⟩)]] wa fun e w' => ∃ r, e = .returned r ∧ w'.ownsRow wa.heap.size 25 1 r N ((List.range N).map us) ∧ Below wa.heap.size wa w' := by
  intro wa hwa
  have hsz : wa.heap.size = w.heap.size + 1 := by rw [hwa]; simp
  have hba : Below w.heap.size w wa := by rw [hwa]; exact (Below.refl _ _).alloc (Nat.le_refl _) _
  have hbx : wa.cell? ⟨w.heap.size, 0, none⟩ = some (.slice A N c) := by rw [hwa]; exact (cell_of_row _ _ _ _ _ _ (heap_alloc_new w _)).trans rfl
  have hca : RV wa A us N := fun h0 => by
    obtain ⟨b, off, e, hlt, hcell⟩ := hc h0
    exact ⟨b, off, e, Nat.lt_of_lt_of_le hlt hba.size, fun i hi => (hba.cell (p := ⟨b, off + i, none⟩) hlt).trans (hcell i hi)⟩
  have hA : 0 < N → ∀ b off, A = some ⟨b, off, none⟩ → b < wa.heap.size := fun h0 b off e => by
    obtain ⟨b', off', e', hlt, _⟩ := hca h0
    rw [e] at e'
    cases e'
    exact hlt
  have hp := appendSeqW_any 162 #[.pointer (some ⟨w.heap.size, 0, none⟩)] enters_V1w N hN us h1 wa
    (fun l J Jx W hW _ _ hY h0 => valuesW1_in 8 l w.heap.size (by omega) A c N us hN J Jx _ (fun W W' hk => KpW.keeps (h := wa.heap.size) (Bn := w.heap.size) hA W W' ⟨hk, hk _ (by omega)⟩) hY W ((hW.cell (p := ⟨w.heap.size, 0, none⟩) (by show w.heap.size < wa.heap.size; omega)).trans hbx)
      (fun h0 => by
        obtain ⟨b, off, e, hlt, hcell⟩ := hca h0
        exact ⟨b, off, e, Nat.lt_of_lt_of_le hlt hW.size, fun i hi => (hW.cell (p := ⟨b, off + i, none⟩) hlt).trans (hcell i hi)⟩) h0)
  have HP := Lib.hid hp
  clear hp hA hca hbx hba hsz hwa
  go_enter Try.func160, Try.ntmps160
  go_wp2_with fail
  refine HP.out.mono ?_
  rintro e wn ⟨r, rfl, ho, hb⟩
  obtain ⟨A2, c2, rfl, _, _⟩ := own_form ho
  have HO := Lib.hid ho
  have HB := Lib.hid hb
  clear ho hb
  go_wp2_with fail
  go_ret
  exact ⟨_, rfl, HO.out, HB.out⟩
end Go.Proofs.Ythhjhfkcgokffaa
