/-
  A wrong nimber put right by check sums: of the model and of the program; RepairBySums.
-/
import Derived.Test.YthhjhfkcgokffaaWi
import Derived.Test.YthhjhfkcgokffaaWh
import Derived.ChangeKeysEq
import Derived.Laws.StructEq
namespace Go.Proofs.Ythhjhfkcgokffaa
set_option linter.unusedVariables false
set_option linter.unusedSimpArgs false
open Go.ChangeShapes Go.WideShapes Go.ChangeAt Go.RowKit

set_option maxHeartbeats 1000000 in
theorem cloneW_any (A : Option Addr) (c : Nat) (zs : List Int) (hn : zs.length ≤ 4194304) (w : World) (h : NS w (.slice A zs.length c) zs) :
    Calls Try.prog 117 #[.slice A zs.length c] w fun e w' => ∃ r, e = .returned r ∧ w'.ownsRow w.heap.size 39 1 r zs.length (u16s zs) ∧ Below w.heap.size w w' := by
  obtain ⟨i0, hi, hz0, hz1, hz2⟩ := info_parts info25
  have E0 := Lib.hid (World.ownsRow_made w (e := 39) (size := 1) (base := w.heap.size) #[] 0 (Nat.le_refl _) (Nat.zero_le _) rfl)
  have HS := Lib.hid (h.below ((Below.refl _ w).alloc (Nat.le_refl _) (.cells #[] 39)))
  have q : ∀ (w : World) (a : Option Addr) (n c n' c' : Nat), (binOp .eql 25 (.slice a n c) (.slice none n' c')).run Try.prog w = .ok (.bool a.isNone) w := fun w a n c n' c' => Lib.run_eql_slice_nil w _ _ a n c n' c' Try.underlying25
  cases A with
  | none =>
    have hl0 : zs.length = 0 := by
      rcases Nat.eq_zero_or_pos zs.length with e | e
      · exact e
      · obtain ⟨b, off, e2, _⟩ := h.spot.2 e
        cases e2
    have e0 : zs = [] := List.length_eq_zero_iff.1 hl0
    subst e0
    clear h hl0 HS
    show Calls Try.prog _ #[.slice none 0 c] w fun e w' => ∃ r, e = .returned r ∧ w'.ownsRow w.heap.size 39 1 r 0 (u16s []) ∧ Below w.heap.size w w'
    go_enter Try.func117, Try.ntmps117
    go_wp2_with fail
    go_ret
    exact ⟨_, rfl, by simpa [u16s] using World.ownsRow_nil w w.heap.size 39 1, Below.refl _ _⟩
  | some ad =>
    clear h
    go_enter Try.func117, Try.ntmps117
    go_wp2_with (at_builtin; refine wpList_append_ns rfl _ _ 25 25 rfl w.heap.size 39 i0 (.int .u16 0) Try.underlying25 Try.underlying25 hi hz0 hz1 hz2 rfl _ 0 _ rfl E0.out _ zs rfl HS.out (by omega) (by simp) ?_)
    intro s' wy hown hgrow _
    go_wp2_with fail
    go_ret
    refine ⟨_, rfl, by simpa using hown, ((Below.refl _ w).alloc (Nat.le_refl _) _).grown hgrow (by simp) (by intro k hk; simp [Value.ownBlock] at hk; omega)⟩
/-- the code of a base with check sums, and of a word -/
def ckC (n : Int) (zs : List Int) : Int := if n = 16 ∨ n = 256 then (if wdB n zs then 0 else 1) else 2
theorem ckC_eq (n : Int) (zs : List Int) : (if n < 16 then 2 else op1 n zs) = ckC n zs := by
  unfold ckC op1 baB
  by_cases h : n = 16 ∨ n = 256
  · rw [if_pos h, if_neg (by omega)]
    rcases h with rfl | rfl <;> rfl
  · rw [if_neg h]
    by_cases h2 : n < 16
    · rw [if_pos h2]
    · rw [if_neg h2, if_neg]
      simp
      omega
theorem ckC_zero {n : Int} {zs : List Int} (h : ckC n zs = 0) : (n = 16 ∨ n = 256) ∧ wdB n zs = true := by
  unfold ckC at h
  split at h
  · rename_i h1
    split at h
    · rename_i h2; exact ⟨h1, h2⟩
    · omega
  · omega
theorem openChecked_any (n : Int) (v : Value) (zs : List Int) (hn : zs.length ≤ 1048576) (w : World) (h : NS w v zs) :
    Calls Try.prog 123 #[.int .i64 n, v] w fun e w' => ∃ b : Int, e = .returned (.tuple #[.int .i64 b, .int .i64 (ckC n zs)]) ∧ Below w.heap.size w w' := by
  have hO := openBase_one n v zs hn w h
  obtain ⟨A, c, rfl⟩ := h.form
  clear h
  have hk := ckC_eq n zs
  obtain ⟨cd, hcd⟩ : ∃ cd, cd = ckC n zs := ⟨_, rfl⟩
  rw [← hcd] at hk ⊢
  by_cases h16 : n < 16
  · rw [if_pos h16] at hk
    subst hk
    have T1 : decide (n < 16) = true := by simpa using h16
    clear hO hcd
    go_enter Try.func123, Try.ntmps123
    go_wp2_with fail
    go_ret2
    exact ⟨0, rfl, Below.refl _ _⟩
  · rw [if_neg h16] at hk
    rw [hk] at hO
    obtain ⟨cv, hcv⟩ : ∃ cv, cv = op1B n zs := ⟨_, rfl⟩
    rw [← hcv] at hO
    have HO := Lib.hid hO
    have T1 : decide (n < 16) = false := by simpa using h16
    clear hO hcv hk hcd
    go_enter Try.func123, Try.ntmps123
    go_wp2_with fail
    refine HO.out.mono ?_
    rintro e w1 ⟨rfl, hb⟩
    have HB := Lib.hid hb
    clear hb
    go_wp2_with fail
    go_ret2
    exact ⟨cv, rfl, HB.out⟩
theorem l06Checked_any (n : Int) (n0 : -9223372036854775808 ≤ n) (n1 : n ≤ 9223372036854775807) (v : Value) (zs : List Int) (hn : zs.length ≤ 1048576) (w : World) (h : NS w v zs) :
    Calls Try.prog 120 #[.int .i64 n, v] w fun e w' => e = .returned (.int .i64 (ckC n zs)) ∧ w = w' := by
  have HN := Lib.hid h
  obtain ⟨A, c, rfl⟩ := h.form
  clear h
  by_cases hb : n = 16 ∨ n = 256
  · obtain ⟨bv, hbv⟩ : ∃ bv, bv = wdB n zs := ⟨_, rfl⟩
    have hc : ckC n zs = if bv then 0 else 1 := by unfold ckC; rw [if_pos hb, hbv]
    rw [hc]
    have HW := Lib.hid hbv
    clear hbv hc
    rcases hb with rfl | rfl
    all_goals
      go_enter Try.func120, Try.ntmps120
      go_wp2_with fail
      refine (l06Word_any _ n0 n1 _ zs hn _ HN.out).mono ?_
      rintro e w' ⟨rfl, rfl⟩
      rw [← HW.out]
      clear HW
      cases bv with
      | true =>
        go_wp2_with fail
        go_ret
        exact ⟨rfl, rfl⟩
      | false =>
        go_wp2_with fail
        go_ret
        exact ⟨rfl, rfl⟩
  · have hc : ckC n zs = 2 := by unfold ckC; rw [if_neg hb]
    rw [hc]
    have T1 : (n != 16) = true := by rw [bne_iff_ne]; omega
    have T2 : (n != 256) = true := by rw [bne_iff_ne]; omega
    clear hc hb
    go_enter Try.func120, Try.ntmps120
    go_wp2_with fail
    go_ret
    exact ⟨rfl, rfl⟩
theorem plainKey_int {P : Program} {e : TypeId} {k : IntKind} (he : P.underlying e = some (.int k)) : P.plainKey e = true := by simp [Program.plainKey, he]
theorem sums_eq (a b : Int) (w : World) : (Op.equalIn 10000 116 (.agg #[.int .u16 a, .int .u16 b]) (.agg #[.int .u16 0, .int .u16 0])).run Try.prog w = .ok (a == 0 && b == 0) w := by
  obtain ⟨i, hi, _⟩ := info_parts info25
  rw [run_equalIn_array w 9999 _ _ (t := 116) (e := 39) (n := 2) (by kernel_rfl) hi]
  have hc : Try.prog.cellsOf 39 = 1 := by kernel_rfl
  have h8 : Try.prog.underlying 39 = some (.int .u16) := by kernel_rfl
  have p0 : ∀ x y : Int, (part 39 #[.int .u16 x, .int .u16 y] 0).run Try.prog w = .ok (.int .u16 x) w := fun x y => run_part_plain w (plainKey_int h8) rfl
  have p1 : ∀ x y : Int, (part 39 #[.int .u16 x, .int .u16 y] 1).run Try.prog w = .ok (.int .u16 y) w := fun x y => run_part_plain w (plainKey_int h8) rfl
  have q : ∀ x y : Int, (Op.equalIn 9999 39 (.int .u16 x) (.int .u16 y)).run Try.prog w = .ok (x == y) w := fun x y => run_equalIn_int (P := Try.prog) w 9998 39 .u16 .u16 x y h8
  rw [hc]
  simp [Op.eqItems, List.range, List.range.loop, p0, p1, q]
  by_cases h1 : a = 0
  · by_cases h2 : b = 0
    · simp [h1, h2]
    · simp [h1, h2]
  · simp [h1]
/-- the first of n places of which p holds, or -1 -/
def fsI (p : Nat → Bool) : Nat → Int
  | 0 => -1
  | n + 1 => if 0 ≤ fsI p n then fsI p n else if p n then (n : Int) else -1
theorem fsI_first (p : Nat → Bool) : ∀ n, IsFirst p n (fsI p n)
  | 0 => .inl ⟨rfl, fun i hi => absurd hi (by omega)⟩
  | n + 1 => by
    unfold fsI
    rcases fsI_first p n with ⟨h1, h2⟩ | ⟨k, h1, h2, h3, h4⟩
    · rw [h1, if_neg (by omega)]
      cases hp : p n with
      | true => exact .inr ⟨n, by simp, by omega, hp, h2⟩
      | false =>
        refine .inl ⟨by simp, fun i hi => ?_⟩
        by_cases e : i = n
        · rw [e]; exact hp
        · exact h2 i (by omega)
    · rw [h1, if_pos (by omega)]
      exact .inr ⟨k, rfl, by omega, h3, h4⟩
theorem IsFirst.unique {p : Nat → Bool} {n : Nat} {r s : Int} (h : IsFirst p n r) (h' : IsFirst p n s) : r = s := by
  rcases h with ⟨rfl, h1⟩ | ⟨k, rfl, h1, h2, h3⟩
  · rcases h' with ⟨rfl, _⟩ | ⟨k', rfl, g1, g2, _⟩
    · rfl
    · rw [h1 k' g1] at g2; cases g2
  · rcases h' with ⟨rfl, g⟩ | ⟨k', rfl, g1, g2, g3⟩
    · rw [g k h1] at h2; cases h2
    · rcases Nat.lt_trichotomy k k' with e | e | e
      · rw [g3 k e] at h2; cases h2
      · rw [e]
      · rw [h3 k' e] at g2; cases g2
theorem IsFirst.congr {p q : Nat → Bool} {n : Nat} {r : Int} (h : IsFirst p n r) (e : ∀ i, i < n → p i = q i) : IsFirst q n r := by
  rcases h with ⟨rfl, h1⟩ | ⟨k, rfl, h1, h2, h3⟩
  · exact .inl ⟨rfl, fun i hi => by rw [← e i hi]; exact h1 i hi⟩
  · exact .inr ⟨k, rfl, h1, by rw [← e k h1]; exact h2, fun i hi => by rw [← e i (by omega)]; exact h3 i hi⟩
set_option maxHeartbeats 1000000 in
theorem indexW_any (v : Value) (zs : List Int) (hn : zs.length ≤ 1048576) (x : Int) (w : World) (h : NS w v zs) :
    Calls Try.prog 152 #[v, .int .u16 x] w fun e w' => ∃ r : Int, e = .returned (.int .i64 r) ∧ IsFirst (fun i => x == zs.getD i 0) zs.length r ∧ w = w' := by
  obtain ⟨A, c, rfl, _, hc⟩ := h
  have HC := Lib.hid hc; clear hc
  go_enter Try.func152, Try.ntmps152
  go_wp2_with fail
  go_loop [8] (fun y => ∃ k : Nat, y = .int .i64 (k : Int) ∧ k ≤ zs.length ∧ Hid (∀ i, i < k → (x == zs.getD i 0) = false)) (fun y => zs.length - (intOf y).toNat)
  case atStart => exact ⟨0, rfl, Nat.zero_le _, Lib.hid (fun i hi => absurd hi (by omega))⟩
  case round =>
    obtain ⟨k, rfl, hk, HN⟩ := hrel
    by_cases hlt : k < zs.length
    · obtain ⟨b, off, rfl, hlb, hcell⟩ := HC.out (by omega)
      have i1 : (k : Int) < (zs.length : Int) := by omega
      have q1 := hcell k hlt
      obtain ⟨y, hy⟩ : ∃ y, y = zs.getD k 0 := ⟨_, rfl⟩
      rw [← hy] at q1
      have HCL := Lib.hid hcell
      clear hcell
      by_cases hxy : x = y
      · have HQ : Hid ((x == zs.getD k 0) = true) := Lib.hid (by rw [← hy, hxy]; simp)
        have T1 : (x == y) = true := by rw [hxy]; simp
        clear hy hxy
        go_wp2_with fail
        go_ret
        exact ⟨_, rfl, .inr ⟨k, rfl, hlt, HQ.out, HN.out⟩, rfl⟩
      · have T1 : (x == y) = false := beq_eq_false_iff_ne.2 hxy
        have HQ : Hid ((x == zs.getD k 0) = false) := Lib.hid (by rw [← hy]; exact T1)
        clear hy hxy
        go_wp2_with fail
        exact ⟨⟨k + 1, by go_num, by omega, Lib.hid (fun i hi => by
          by_cases e : i = k
          · rw [e]; exact HQ.out
          · exact HN.out i (by omega))⟩, by simp [intOf]; omega⟩
    · obtain rfl : k = zs.length := by omega
      have T1 : decide ((zs.length : Int) < (zs.length : Int)) = false := by simp
      go_wp2_with fail
      go_ret
      exact ⟨_, rfl, .inl ⟨rfl, HN.out⟩, rfl⟩
/-- does the nimber at i make the check sums? -/
def badW (zs : List Int) (i : Nat) : Bool := (saI zs != 0) && (mulI ((i : Int) + 1) (saI zs) == sbI zs zs.length)
def rpK (zs : List Int) : Int := fsI (badW zs) zs.length
theorem saI_u {zs : List Int} (hz : inU zs) : 0 ≤ saI zs ∧ saI zs < 65536 := by
  have h : ∀ k, k ≤ zs.length → 0 ≤ foldT xorI 0 zs k ∧ foldT xorI 0 zs k < 65536 := by
    intro k
    induction k with
    | zero => intro _; rw [foldT_zero]; omega
    | succ k ih => intro hk; rw [foldT_step _ _ _ _ (by omega)]; exact xorI_u _ _ (ih (by omega)).2 (hz.at k).2
  exact h zs.length (Nat.le_refl _)
/-- the factor that the program reckons -/
def facI (zs : List Int) : Int := if saI zs = 0 then 0 else mulI (sbI zs zs.length) (invP (saI zs))
theorem facI_bad {zs : List Int} (hz : inU zs) (hn : zs.length ≤ 1000) (i : Nat) (hi : i < zs.length) : (facI zs == (facW zs.length).getD i 0) = badW zs i := by
  obtain ⟨a0, a1⟩ := saI_u hz
  obtain ⟨b0, b1⟩ := sbI_u hz zs.length hn
  rw [facW_at _ _ hi]
  unfold facI badW
  by_cases h : saI zs = 0
  · rw [if_pos h, h]
    simp
    omega
  · rw [if_neg h, Bool.eq_iff_iff]
    simp [h]
    constructor
    · intro e
      rw [← e]
      exact mul_inv_cancel b0 b1 a0 a1 h
    · intro e
      rw [← e]
      obtain ⟨X, hX⟩ : ∃ X : Nat, saI zs = X := ⟨(saI zs).toNat, by omega⟩
      rw [hX] at h ⊢
      have hX1 : X < 65536 := by omega
      have hi1 := Nim.mul_inv hX1 (show X ≠ 0 by omega)
      have hib := Nim.npow_b hX1 65534
      rw [invP_nat X hX1]
      have e1 : ((i : Int) + 1) = ((i + 1 : Nat) : Int) := by omega
      rw [e1, mulI_nat, mulI_nat, Nim.mul_assoc (by omega) hX1 hib, hi1, Nim.mul_comm, Nim.mul_one_left (by omega)]
set_option maxHeartbeats 1000000 in
theorem overNim_any (x y : Int) (x0 : 0 ≤ x) (x1 : x < 65536) (y0 : 0 ≤ y) (y1 : y < 65536) (w : World) :
    Calls Try.prog 151 #[.int .u16 x, .int .u16 y] w fun e w' => (∃ c : Int, e = .returned (.tuple #[.int .u16 (if y = 0 then 0 else mulI x (invP y)), .int .i64 c])) ∧ w = w' := by
  by_cases hy : y = 0
  · rw [if_pos hy]
    refine (impl_OverNim0 x y hy w).mono ?_
    rintro e w' ⟨⟨v, rfl, hv, _⟩, rfl⟩
    exact ⟨⟨4, by rw [hv.out]⟩, rfl⟩
  · rw [if_neg hy]
    refine (impl_OverNim x y x0 x1 y0 y1 hy w).mono ?_
    rintro e w' ⟨⟨v, rfl, hv, _⟩, rfl⟩
    exact ⟨⟨0, by rw [hv.out, invP_eq]⟩, rfl⟩
set_option maxHeartbeats 2000000 in
theorem wrongIndex_any (v : Value) (zs : List Int) (hn : zs.length ≤ 1000) (w : World) (h : NS w v zs) :
    Calls Try.prog 125 #[v] w fun e w' => e = .returned (.int .i64 (rpK zs)) ∧ Below w.heap.size w w' := by
  have HN := Lib.hid h
  have hz := inU_of h
  obtain ⟨A, c, rfl⟩ := h.form
  have hl := fun w1 h1 => checkSums_any (.slice A zs.length c) zs hn w1 h1
  have hfb := fun i hi => facI_bad hz hn i hi
  have hIF : ∀ r, IsFirst (fun i => facI zs == (facW zs.length).getD i 0) (facW zs.length).length r → r = rpK zs := fun r hr => by
    rw [facW_len] at hr
    exact (hr.congr hfb).unique (fsI_first _ _)
  obtain ⟨a0, a1⟩ := saI_u hz
  obtain ⟨b0, b1⟩ := sbI_u hz zs.length hn
  have hov := fun w1 => overNim_any (sbI zs zs.length) (saI zs) b0 b1 a0 a1 w1
  have hfc : (if saI zs = 0 then 0 else mulI (sbI zs zs.length) (invP (saI zs))) = facI zs := rfl
  rw [hfc] at hov
  obtain ⟨fc, hfc2⟩ : ∃ fc, fc = facI zs := ⟨_, rfl⟩
  rw [← hfc2] at hov hIF
  obtain ⟨sa, hsa⟩ : ∃ sa, sa = saI zs := ⟨_, rfl⟩
  obtain ⟨sb, hsb⟩ : ∃ sb, sb = sbI zs zs.length := ⟨_, rfl⟩
  rw [← hsa, ← hsb] at hl hov
  obtain ⟨rk, hrk⟩ : ∃ rk, rk = rpK zs := ⟨_, rfl⟩
  rw [← hrk] at hIF ⊢
  have HL := Lib.hid hl
  have HOV := Lib.hid hov
  have HIF := Lib.hid hIF
  clear hl hov hIF hfc hfc2 hsa hsb hrk hfb h a0 a1 b0 b1 hz
  go_enter Try.func125, Try.ntmps125
  go_wp2_with fail
  refine (HL.out _ HN.out).mono ?_
  rintro e w1 ⟨rfl, hb⟩
  have HB1 := Lib.hid hb
  clear hb
  go_wp2_with fail
  refine (HOV.out _).mono ?_
  rintro e w2 ⟨⟨cc, rfl⟩, rfl⟩
  go_wp2_with fail
  refine (checkFactors_any zs.length hn _).mono ?_
  rintro e w3 ⟨r3, rfl, hp3, hb3⟩
  have HP3 := Lib.hid hp3
  have HB3 := Lib.hid (bchain (HB1.out.alloc HB1.out.size _) hb3)
  clear hp3 hb3
  go_wp2_with fail
  refine (indexW_any r3 (facW zs.length) (by rw [facW_len]; omega) fc _ HP3.out.ns).mono ?_
  rintro e w4 ⟨r, rfl, hr, rfl⟩
  have hr2 := HIF.out r hr
  clear hr
  subst hr2
  go_wp2_with fail
  go_ret
  exact ⟨rfl, HB3.out⟩
end Go.Proofs.Ythhjhfkcgokffaa
