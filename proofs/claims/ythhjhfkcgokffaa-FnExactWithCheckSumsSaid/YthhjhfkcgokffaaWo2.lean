/-
  Two words put together; words with check sums; WithCheckSums.
-/
import Derived.Test.YthhjhfkcgokffaaWj
import Derived.Lib.AppendZerosOnto
import Derived.BigQuiet
namespace Go.Proofs.Ythhjhfkcgokffaa
set_option linter.unusedVariables false
set_option linter.unusedSimpArgs false
open Go.ChangeShapes Go.WideShapes Go.ChangeAt Go.RowKit

set_option maxHeartbeats 2000000 in
set_option maxRecDepth 100000 in
theorem growNil_any (n : Nat) (h1 : 1 ≤ n) (hn : n ≤ 1000) (w : World) :
    Calls Try.prog 166 #[.slice none 0 0, .int .i64 (n : Int)] w fun e w' => ∃ c, e = .returned (.slice (some ⟨w.heap.size, 0, none⟩) 0 c) ∧ w'.ownsRow w.heap.size 39 1 (.slice (some ⟨w.heap.size, 0, none⟩) 0 c) 0 [] ∧ Below w.heap.size w w' := by
  obtain ⟨i0, hi, hz0, hz1, hz2⟩ := info_parts info25
  have T1 : decide ((n : Int) < 0) = false := by simp
  have T2 : decide ((0 : Int) < (n : Int)) = true := by simp; omega
  have hold : (Builtin.firstCells i0.size 0 (.slice none 0 0)).run Try.prog w.drew = .ok (([] : List Value).toArray) w.drew := by
    exact run_firstCells_none w.drew i0.size 0 0 0
  have hfit : (0 + n) * i0.bytes ≤ 140737488355328 := by rw [hz2]; omega
  have hrz : ∀ ty, (Builtin.append_ #[25, 3] ty #[.slice none 0 0, .int .i64 (n : Int)]).run Try.prog w =
      .ok (.slice (some ⟨w.heap.size, 0, none⟩) (0 + n) (grownCap w (0 + n) 0 39)) (w.drew.alloc (.cells (([] : List Value).toArray ++ Builtin.zeroCells (Value.int .u16 0).cells n ++ Builtin.zeroCells (Value.int .u16 0).cells (grownCap w (0 + n) 0 39 - (0 + n))) 39)) := fun ty => by
    have h := Lib.run_append_grow_zeros w 25 3 ty 39 i0 (.int .u16 0) .i64 .i64 Try.underlying25 (by kernel_rfl) hi hz0 none 0 0 [] hold n (by omega) (by rw [hz1]; omega) (by omega) (by omega)
      (by rw [hz2]; omega)
      (growslice_fits (by omega) hfit)
    exact h
  have hGn : 0 + n ≤ grownCap w (0 + n) 0 39 := grownCap_ge w _ _ _
  have hG63 : grownCap w (0 + n) 0 39 ≤ maxLen := grownCap_le_maxLen w (0 + n) 0 39 (by unfold maxLen; omega)
  obtain ⟨G, hG⟩ : ∃ G, G = grownCap w (0 + n) 0 39 := ⟨_, rfl⟩
  rw [← hG] at hrz hGn hG63
  clear hold hfit hG
  have hGb : G ≤ 9223372036854775807 := by unfold maxLen at hG63; omega
  rw [Nat.zero_add] at hrz hGn
  go_enter Try.func166, Try.ntmps166
  go_wp2_with (at_builtin; refine Lib.wpList_append_run _ rfl _ _ _ _ rfl _ _ rfl rfl _ _ (hrz _) ?_)
  all_goals
    go_ret
    refine ⟨G, rfl, ⟨by simp, .inr ⟨w.heap.size, G, _, rfl, Nat.le_refl _, heap_alloc_new w _, Nat.zero_le _, hG63, ?_, by simp⟩⟩, drew_b ((Below.refl _ w).alloc (Nat.le_refl _) _)⟩
    simp [size_zeroCells]
    omega
set_option maxHeartbeats 4000000 in
set_option maxRecDepth 100000 in
theorem concat2_any (v u : Value) (xs ys : List Int) (g : Nat) (h1 : 1 ≤ xs.length) (hn : xs.length ≤ 400) (hn2 : ys.length ≤ 400) (w : World) (hg : g < w.heap.size) (c0 : w.cell? ⟨g, 0, none⟩ = some v) (c1 : w.cell? ⟨g, 1, none⟩ = some u) (h : NS w v xs) (h' : NS w u ys) :
    Calls Try.prog 150 #[.slice (some ⟨g, 0, none⟩) 2 2] w fun e w' => ∃ r, e = .returned r ∧ PO w' w.heap.size r (xs ++ ys) ∧ Below w.heap.size w w' := by
  obtain ⟨i0, hi, hz0, hz1, hz2⟩ := info_parts info25
  have HN := Lib.hid h
  have HN' := Lib.hid h'
  have HU := Lib.hid (inU_of h)
  have HU' := Lib.hid (inU_of h')
  obtain ⟨A, c, rfl⟩ := h.form
  obtain ⟨A', c', rfl⟩ := h'.form
  have HC0 := Lib.hid c0
  have HC1 := Lib.hid c1
  have HGL := Lib.hid hg
  obtain ⟨a, ha⟩ : ∃ a, a = xs.length := ⟨_, rfl⟩
  obtain ⟨b, hb⟩ : ∃ b, b = ys.length := ⟨_, rfl⟩
  rw [← ha] at h1 hn HN c0 HC0
  rw [← hb] at hn2 HN' c1 HC1
  have HA := Lib.hid ha
  have HB := Lib.hid hb
  obtain ⟨s2, hs2⟩ : ∃ s2 : Nat, s2 = a + b := ⟨_, rfl⟩
  have e2 : (a : Int) + (b : Int) = (s2 : Int) := by omega
  have hs2b : s2 ≤ 800 := by omega
  have hs21 : 1 ≤ s2 := by omega
  have HS2 := Lib.hid hs2
  clear h h' ha hb hg hs2
  go_enter Try.func150, Try.ntmps150
  go_wp2_with fail
  go_loop [11, 3] (fun y s => (y = .int .i64 0 ∧ s = .int .i64 0) ∨ (y = .int .i64 1 ∧ s = .int .i64 (a : Int)) ∨ (y = .int .i64 2 ∧ s = .int .i64 (s2 : Int))) (fun y _ => 2 - (intOf y).toNat)
  case atStart => exact .inl ⟨rfl, rfl⟩
  case round =>
    rcases hrel with ⟨rfl, rfl⟩ | ⟨rfl, rfl⟩ | ⟨rfl, rfl⟩
    · go_wp2_with fail
      exact ⟨.inr (.inl ⟨rfl, rfl⟩), by decide⟩
    · have T1 : decide ((s2 : Int) < 0) = false := by simp
      go_wp2_with fail
      exact ⟨.inr (.inr ⟨rfl, rfl⟩), by decide⟩
    · clear c0 c1 e2
      go_wp2_with fail
      refine (growNil_any s2 hs21 (by omega) _).mono ?_
      rintro e w1 ⟨cg, rfl, ho, hb⟩
      have HO := Lib.hid ho
      have HB1 := Lib.hid hb
      have k0 := (hb.cell (p := ⟨g, 0, none⟩) HGL.out).trans HC0.out
      have k1 := (hb.cell (p := ⟨g, 1, none⟩) HGL.out).trans HC1.out
      have HK0 := Lib.hid k0
      have HK1 := Lib.hid k1
      clear ho hb k0 k1
      obtain ⟨B, hB⟩ : ∃ B, B = w.heap.size := ⟨_, rfl⟩
      rw [← hB] at HO HB1 ⊢
      have HBB := Lib.hid hB
      clear hB
      go_wp2_with fail
      go_loopw [27, 6] (fun y s wr => (y = .int .i64 0 ∧ s = .slice (some ⟨B, 0, none⟩) 0 cg ∧ w1 = wr) ∨ (y = .int .i64 1 ∧ Hid (wr.ownsRow B 39 1 s a (u16s xs)) ∧ Hid (Below B w wr)) ∨ (y = .int .i64 2 ∧ Hid (wr.ownsRow B 39 1 s s2 (u16s (xs ++ ys))) ∧ Hid (Below B w wr))) (fun y _ _ => 2 - (intOf y).toNat)
      case atStart => exact .inl ⟨rfl, rfl, rfl⟩
      case round =>
        rcases hrel with ⟨rfl, rfl, rfl⟩ | ⟨rfl, HR, HBW⟩ | ⟨rfl, HR, HBW⟩
        · have HN1 := Lib.hid (HN.out.below (HBB.out ▸ HB1.out))
          have k0 := HK0.out
          go_wp2_with (at_builtin; refine wpList_append_ns rfl _ _ 25 25 rfl B 39 i0 (.int .u16 0) Try.underlying25 Try.underlying25 hi hz0 hz1 hz2 rfl _ 0 _ rfl HO.out _ xs rfl HN1.out (by have := HA.out; omega) (by have := HB1.out.size; have := HBB.out; omega) ?_)
          intro s' wy hown hgrow _
          have hbl : Below B w wy := HB1.out.grown hgrow (by have := HB1.out.size; have := HBB.out; omega) (by intro k hk; simp [Value.ownBlock] at hk; omega)
          have ho2 : wy.ownsRow B 39 1 s' a (u16s xs) := by
            rw [HA.out]; simpa using hown
          have HO2 := Lib.hid ho2
          have HBL := Lib.hid hbl
          clear hown hgrow ho2 hbl k0
          go_wp2_with fail
          exact ⟨.inr (.inl ⟨rfl, HO2, HBL⟩), by decide⟩
        · obtain ⟨A3, c3, rfl, _, _⟩ := own_form HR.out
          have hbw : Below w.heap.size w wr := HBB.out ▸ HBW.out
          have HN1 := Lib.hid (HN'.out.below hbw)
          have k1 := (hbw.cell (p := ⟨g, 1, none⟩) HGL.out).trans HC1.out
          clear hbw
          go_wp2_with (at_builtin; refine wpList_append_ns rfl _ _ 25 25 rfl B 39 i0 (.int .u16 0) Try.underlying25 Try.underlying25 hi hz0 hz1 hz2 rfl _ a _ rfl HR.out _ ys rfl HN1.out (by have := HB.out; omega) (by have := HBW.out.size; have := HBB.out; omega) ?_)
          intro s' wy hown hgrow _
          have hbl : Below B w wy := HBW.out.grown hgrow (by have := HBW.out.size; have := HBB.out; omega) (fun x hx => (HR.out.lt x hx).1)
          have ho2 : wy.ownsRow B 39 1 s' s2 (u16s (xs ++ ys)) := by
            have := hown
            rw [← HB.out, ← HS2.out, ← List.map_append] at this
            exact this
          have HO2 := Lib.hid ho2
          have HBL := Lib.hid hbl
          clear hown hgrow ho2 hbl k1
          go_wp2_with fail
          exact ⟨.inr (.inr ⟨rfl, HO2, HBL⟩), by decide⟩
        · obtain ⟨A3, c3, rfl, _, _⟩ := own_form HR.out
          have HP := Lib.hid (PO.of_own HR.out (by rw [List.length_append, ← HA.out, ← HB.out, HS2.out]) (fun z hz => by
            rcases List.mem_append.1 hz with h | h
            · exact HU.out z h
            · exact HU'.out z h))
          go_wp2_with fail
          go_ret
          exact ⟨_, rfl, by rw [← HBB.out]; exact HP.out, by rw [← HBB.out]; exact HBW.out⟩
/-- the nimbers that make check sums 0: of the program, and of the model -/
def ckF (zs : List Int) : Int := mulI (xorI (sbI zs zs.length) (mulI ((zs.length : Int) + 2) (saI zs))) (invP (xorI ((zs.length : Int) + 1) ((zs.length : Int) + 2)))
def ckY (zs : List Int) : Int := mulI (xorI (sbI zs zs.length) (mulI ((zs.length : Int) + 1) (saI zs))) (invP (xorI ((zs.length : Int) + 1) ((zs.length : Int) + 2)))
theorem nat_u {x : Int} (h : 0 ≤ x ∧ x < 65536) : ∃ X : Nat, x = X ∧ X < 65536 := ⟨x.toNat, by omega, by omega⟩
theorem ck_eq {a s p q i : Int} (ha : 0 ≤ a ∧ a < 65536) (hs : 0 ≤ s ∧ s < 65536) (hp : 0 ≤ p ∧ p < 65536) (hq : 0 ≤ q ∧ q < 65536) (hi : 0 ≤ i ∧ i < 65536) (h1 : mulI (xorI p q) i = 1) :
    mulI (xorI s (mulI q a)) i = xorI a (mulI (xorI s (mulI p a)) i) := by
  obtain ⟨A, rfl, hA⟩ := nat_u ha
  obtain ⟨S, rfl, hS⟩ := nat_u hs
  obtain ⟨P, rfl, hP⟩ := nat_u hp
  obtain ⟨Q, rfl, hQ⟩ := nat_u hq
  obtain ⟨I, rfl, hI⟩ := nat_u hi
  rw [xorI_nat, mulI_nat] at h1
  have h2 : Nim.mul (P ^^^ Q) I = 1 := by omega
  rw [mulI_nat, mulI_nat, xorI_nat, xorI_nat, mulI_nat, mulI_nat, xorI_nat]
  congr 1
  have e1 : A = Nim.mul (Nim.mul (P ^^^ Q) A) I := by
    rw [Nim.mul_comm (P ^^^ Q) A, Nim.mul_assoc hA (Nim.x_b hP hQ) hI, h2, Nim.mul_comm, Nim.mul_one_left hA]
  have e2 : A ^^^ Nim.mul (S ^^^ Nim.mul P A) I = Nim.mul (Nim.mul (P ^^^ Q) A) I ^^^ Nim.mul (S ^^^ Nim.mul P A) I := by
    rw [← e1]
  rw [e2, ← Nim.mul_xor_left, Nim.mul_xor_left P Q A]
  congr 1
  generalize Nim.mul P A = X
  generalize Nim.mul Q A = Y
  rw [Nat.xor_comm X Y, Nat.xor_comm S X, Nat.xor_assoc Y X, ← Nat.xor_assoc X X, Nat.xor_self, Nat.zero_xor, Nat.xor_comm]
theorem xor_pq (n : Nat) (h : n ≤ 5) : xorI ((n : Int) + 1) ((n : Int) + 2) ≠ 0 := by
  have : n = 0 ∨ n = 1 ∨ n = 2 ∨ n = 3 ∨ n = 4 ∨ n = 5 := by omega
  rcases this with rfl | rfl | rfl | rfl | rfl | rfl <;> decide
theorem mul_invP {x : Int} (x0 : 0 ≤ x) (x1 : x < 65536) (h : x ≠ 0) : mulI x (invP x) = 1 := by
  have e := mul_inv_cancel (x := 1) (by omega) (by omega) x0 x1 h
  rw [mulI_one _ (invP_u x x1).1 (invP_u x x1).2] at e
  rw [mulI_comm]; exact e
theorem ck_both {zs : List Int} (hz : inU zs) (h : zs.length ≤ 5) : ckF zs = xorI (saI zs) (ckY zs) := by
  have hd := xorI_u ((zs.length : Int) + 1) ((zs.length : Int) + 2) (by omega) (by omega)
  have ha := saI_u hz
  have hs := sbI_u hz zs.length (by omega)
  have hp : 0 ≤ (zs.length : Int) + 1 ∧ (zs.length : Int) + 1 < 65536 := ⟨by omega, by omega⟩
  have hq : 0 ≤ (zs.length : Int) + 2 ∧ (zs.length : Int) + 2 < 65536 := ⟨by omega, by omega⟩
  have hne := xor_pq _ h
  have hi := invP_u _ hd.2
  have h1 := mul_invP hd.1 hd.2 hne
  unfold ckF ckY
  generalize saI zs = a at ha ⊢
  generalize sbI zs zs.length = s at hs ⊢
  generalize (zs.length : Int) + 1 = p at hp hd hne hi h1 ⊢
  generalize (zs.length : Int) + 2 = q at hq hd hne hi h1 ⊢
  generalize invP (xorI p q) = i at hi h1 ⊢
  exact ck_eq ha hs hp hq hi h1
theorem xor_cancel3 {a y : Int} (ha : 0 ≤ a ∧ a < 65536) (hy : 0 ≤ y ∧ y < 65536) : xorI (xorI a y) a = y := by
  obtain ⟨A, rfl, hA⟩ := nat_u ha
  obtain ⟨Y, rfl, hY⟩ := nat_u hy
  rw [xorI_nat, xorI_nat, Nat.xor_comm A Y, Nat.xor_assoc, Nat.xor_self, Nat.xor_zero]
theorem ckY_u {zs : List Int} (hz : inU zs) (h : zs.length ≤ 5) : 0 ≤ ckY zs ∧ ckY zs < 65536 := mulI_u _ _ (xorI_u _ _ (sbI_u hz _ (by omega)).2 (mulI_u _ _ (by omega) (saI_u hz).2).2).2 (invP_u _ (xorI_u _ _ (by omega) (by omega)).2).2
/-- the word with both nimbers more -/
def ckW (zs : List Int) : List Int := zs ++ [xorI (saI zs) (ckY zs), ckY zs]
def wcA (n : Int) (zs : List Int) : List Int := if ckC n zs = 0 then (if zs.length ≤ 5 then ckW zs else []) else []
def wcC (n : Int) (zs : List Int) : Int := if ckC n zs = 0 then (if zs.length ≤ 5 then 0 else 3) else ckC n zs
theorem wcA_len (n : Int) (zs : List Int) : (wcA n zs).length ≤ 7 := by
  unfold wcA
  split
  · split
    · unfold ckW; simp; omega
    · simp
  · simp
set_option maxHeartbeats 4000000 in
set_option maxRecDepth 100000 in
theorem checked_any (v : Value) (zs : List Int) (h1 : 1 ≤ zs.length) (hn : zs.length ≤ 5) (w : World) (h : NS w v zs) :
    Calls Try.prog 124 #[v] w fun e w' => ∃ r, e = .returned r ∧ PO w' w.heap.size r (ckW zs) ∧ Below w.heap.size w w' := by
  have HN := Lib.hid h
  have hz := inU_of h
  obtain ⟨A, c, rfl⟩ := h.form
  have hl := fun w1 h1 => checkSums_any (.slice A zs.length c) zs (by omega) w1 h1
  have hau := saI_u hz
  have hbu := sbI_u hz zs.length (by omega)
  have hcw : ckW zs = zs ++ [ckF zs, xorI (ckF zs) (saI zs)] := by
    unfold ckW
    rw [ck_both hz hn, xor_cancel3 hau (ckY_u hz hn)]
  rw [hcw]
  have hF : ckF zs = mulI (xorI (sbI zs zs.length) (mulI ((zs.length : Int) + 2) (saI zs))) (invP (xorI ((zs.length : Int) + 1) ((zs.length : Int) + 2))) := rfl
  obtain ⟨sa, hsa⟩ : ∃ sa, sa = saI zs := ⟨_, rfl⟩
  obtain ⟨sb, hsb⟩ : ∃ sb, sb = sbI zs zs.length := ⟨_, rfl⟩
  rw [← hsa] at hau hF ⊢
  rw [← hsa, ← hsb] at hl
  rw [← hsb] at hF hbu
  obtain ⟨N, hN⟩ : ∃ N, N = zs.length := ⟨_, rfl⟩
  rw [← hN] at hn h1 HN hF hl ⊢
  obtain ⟨a0, a1⟩ := hau
  obtain ⟨b0, b1⟩ := hbu
  have hc1 := fun u => times_v ((N : Int) + 2) sa (by omega) (by omega) a0 a1 u
  have u1 := mulI_u ((N : Int) + 2) sa (by omega) a1
  obtain ⟨v1, hv1⟩ : ∃ v1, v1 = mulI ((N : Int) + 2) sa := ⟨_, rfl⟩
  rw [← hv1] at hc1 u1 hF
  have hc2 := fun u => plus_v sb v1 b0 b1 u1.1 u1.2 u
  have u2 := xorI_u sb v1 b1 u1.2
  obtain ⟨v2, hv2⟩ : ∃ v2, v2 = xorI sb v1 := ⟨_, rfl⟩
  rw [← hv2] at hc2 u2 hF
  have hc3 := fun u => plus_v ((N : Int) + 1) ((N : Int) + 2) (by omega) (by omega) (by omega) (by omega) u
  have u3 := xorI_u ((N : Int) + 1) ((N : Int) + 2) (by omega) (by omega)
  obtain ⟨v3, hv3⟩ : ∃ v3, v3 = xorI ((N : Int) + 1) ((N : Int) + 2) := ⟨_, rfl⟩
  rw [← hv3] at hc3 u3 hF
  have hc4 := fun u => inv_v v3 u3.1 u3.2 u
  have u4 := invP_u v3 u3.2
  obtain ⟨v4, hv4⟩ : ∃ v4, v4 = invP v3 := ⟨_, rfl⟩
  rw [← hv4] at hc4 u4 hF
  have hc5 := fun u => times_v v2 v4 u2.1 u2.2 u4.1 u4.2 u
  have u5 := mulI_u v2 v4 u2.2 u4.2
  obtain ⟨v5, hv5⟩ : ∃ v5, v5 = mulI v2 v4 := ⟨_, rfl⟩
  rw [← hv5] at hc5 u5 hF
  have hc6 := fun u => plus_v v5 sa u5.1 u5.2 a0 a1 u
  have u6 := xorI_u v5 sa u5.2 a1
  rw [hF]
  obtain ⟨v6, hv6⟩ : ∃ v6, v6 = xorI v5 sa := ⟨_, rfl⟩
  rw [← hv6] at hc6 u6 ⊢
  have HL := Lib.hid hl
  have K1 := Lib.hid hc1
  have K2 := Lib.hid hc2
  have K3 := Lib.hid hc3
  have K4 := Lib.hid hc4
  have K5 := Lib.hid hc5
  have K6 := Lib.hid hc6
  have HNN := Lib.hid hN
  have HZ := Lib.hid hz
  have HU5 := Lib.hid u5
  have HU6 := Lib.hid u6
  clear hl hc1 hc2 hc3 hc4 hc5 hc6 u1 u2 u3 u4 u5 u6 hv1 hv2 hv3 hv4 hv5 hv6 hF hcw hsa hsb hN hz h
  have n2 : Hid ((N : Int) + 2 = ((N + 2 : Nat) : Int)) := Lib.hid (by omega)
  go_enter Try.func124, Try.ntmps124
  go_wp2_with fail
  refine (HL.out _ HN.out).mono ?_
  rintro e w1 ⟨rfl, hb⟩
  have HB1 := Lib.hid hb
  clear hb
  go_wp2_with fail
  have hs1 : (w1.alloc (.cells #[.int .u16 sa, .int .u16 sb] 116)).cell? ⟨w1.heap.size, 0, none⟩ = some (.int .u16 sa) := cell_of_row _ _ _ _ _ _ (heap_alloc_new w1 _)
  have hs2 : (w1.alloc (.cells #[.int .u16 sa, .int .u16 sb] 116)).cell? ⟨w1.heap.size, 1, none⟩ = some (.int .u16 sb) := cell_of_row _ _ _ _ _ _ (heap_alloc_new w1 _)
  have hl3 : w1.heap.size < (w1.alloc (.cells #[.int .u16 sa, .int .u16 sb] 116)).heap.size := by simp
  have HB2 := Lib.hid (HB1.out.alloc HB1.out.size (.cells #[.int .u16 sa, .int .u16 sb] 116))
  obtain ⟨gs, hgs⟩ : ∃ gs, gs = w1.heap.size := ⟨_, rfl⟩
  rw [← hgs] at hs1 hs2 hl3 ⊢
  clear hgs
  generalize w1.alloc _ = w2 at hs1 hs2 hl3 HB2 ⊢
  rw [n2.out]
  refine (checkFactors_any (N + 2) (by omega) _).mono ?_
  rintro e w3 ⟨r3, rfl, hp3, hb3⟩
  have HB3 := Lib.hid (bchain HB2.out hb3)
  have j1 := (hb3.cell (p := ⟨gs, 0, none⟩) hl3).trans hs1
  have j2 := (hb3.cell (p := ⟨gs, 1, none⟩) hl3).trans hs2
  have hns := hp3.ns
  obtain ⟨A3, c3, rfl⟩ := hns.form
  have hsp := hns.spot.2 (by rw [facW_len]; omega)
  rw [facW_len] at hsp
  obtain ⟨b3, off3, rfl, hlb3, hcell3⟩ := hsp
  have q1 := hcell3 N (by omega)
  have q2 := hcell3 (N + 1) (by omega)
  rw [facW_at _ _ (by omega)] at q1 q2
  have e5 : (((N + 1 : Nat) : Int) + 1) = (N : Int) + 2 := by omega
  rw [e5] at q2
  rw [facW_len]
  have x1 : (0 : Int) ≤ (N : Int) + 1 := by omega
  have x2 : ((N : Int) + 1).toNat = N + 1 := by omega
  have x3 : (N : Int) + 1 < ((N + 2 : Nat) : Int) := by omega
  have x4 : (N : Int) < ((N + 2 : Nat) : Int) := by omega
  have x5 : IntKind.i64.wrap ((N : Int) + 1) = (N : Int) + 1 := by rw [IntKind.wrap_i64]; omega
  clear hs1 hs2 hl3 hp3 hb3 hns hcell3 e5
  go_wp2_with fail
  go_quiet (fail)
  clear q1 q2 x1 x2 x3 x4 x5
  have j1' : (w3.drewN nq).cell? ⟨gs, 0, none⟩ = some (.int .u16 sa) := j1
  have j2' : (w3.drewN nq).cell? ⟨gs, 1, none⟩ = some (.int .u16 sb) := j2
  have HB4 := Lib.hid (bdrewN HB3.out nq)
  clear j1 j2
  generalize w3.drewN nq = w4 at j1' j2' HB4 ⊢
  go_wp2_with fail
  go_quiet ((first | (with_reducible exact Calls.quiet_of_same (K1.out _)) | (with_reducible exact Calls.quiet_of_same (K2.out _)) | (with_reducible exact Calls.quiet_of_same (K3.out _)) | (with_reducible exact Calls.quiet_of_same (K4.out _)) | (with_reducible exact Calls.quiet_of_same (K5.out _))))
  have j1 : (w4.drewN nq).cell? ⟨gs, 0, none⟩ = some (.int .u16 sa) := j1'
  have HB5 := Lib.hid (bdrewN HB4.out nq)
  clear j1' j2' HB4
  generalize w4.drewN nq = w5 at j1 HB5 ⊢
  go_wp2_with fail
  refine (K6.out _).mono ?_
  rintro e w' ⟨rfl, hw⟩
  obtain rfl := hw.symm
  have hb6 : Below w.heap.size w ((w5.alloc (.cells #[.int .u16 v5, .int .u16 v6] 39)).alloc (.cells #[.slice A N c, .slice (some ⟨w5.heap.size, 0, none⟩) 2 2] 25)) := (HB5.out.alloc HB5.out.size _).alloc (by rw [World.size_alloc]; have := HB5.out.size; omega) _
  have hr1 : RW (w5.alloc (.cells #[.int .u16 v5, .int .u16 v6] 39)) w5.heap.size [v5, v6] := heap_alloc_new w5 _
  have hr2 : RW ((w5.alloc (.cells #[.int .u16 v5, .int .u16 v6] 39)).alloc (.cells #[.slice A N c, .slice (some ⟨w5.heap.size, 0, none⟩) 2 2] 25)) w5.heap.size [v5, v6] := hr1.below ((Below.refl _ _).alloc (Nat.le_refl _) _) (by simp)
  have hin : inU [v5, v6] := by
    intro z hz
    rcases List.mem_cons.1 hz with rfl | hz
    · exact HU5.out
    · rcases List.mem_singleton.1 hz with rfl; exact HU6.out
  have hn2 := hr2.ns hin 2
  have hc0 : ((w5.alloc (.cells #[.int .u16 v5, .int .u16 v6] 39)).alloc (.cells #[.slice A N c, .slice (some ⟨w5.heap.size, 0, none⟩) 2 2] 25)).cell? ⟨w5.heap.size + 1, 0, none⟩ = some (.slice A N c) := cell_second _ _ _ _ _
  have hc1 : ((w5.alloc (.cells #[.int .u16 v5, .int .u16 v6] 39)).alloc (.cells #[.slice A N c, .slice (some ⟨w5.heap.size, 0, none⟩) 2 2] 25)).cell? ⟨w5.heap.size + 1, 1, none⟩ = some (.slice (some ⟨w5.heap.size, 0, none⟩) 2 2) := cell_second _ _ _ _ _
  have hcc := concat2_any (.slice A N c) (.slice (some ⟨w5.heap.size, 0, none⟩) 2 2) zs [v5, v6] (w5.heap.size + 1) (by have := HNN.out; omega) (by have := HNN.out; omega) (by simp) _ (by simp) hc0 hc1 (HN.out.below hb6) hn2
  have HCC := Lib.hid hcc
  have HB6 := Lib.hid hb6
  clear hb6 hr1 hr2 hin hn2 hc0 hc1 hcc j1
  go_wp2_with fail
  refine HCC.out.mono ?_
  rintro e w7 ⟨r, rfl, hp, hb⟩
  have HP := Lib.hid (hp.lower HB6.out.size)
  have HB7 := Lib.hid (bchain HB6.out hb)
  clear hp hb
  obtain ⟨A7, c7, rfl, _⟩ := HP.out.form
  go_wp2_with fail
  go_ret
  have hpp := HP.out
  rw [show (zs ++ [v5, v6]).length = zs.length + 2 from by simp] at hpp
  exact ⟨_, rfl, hpp, HB7.out⟩
theorem wc_yes {n : Int} {zs : List Int} (h : ckC n zs = 0) (h2 : zs.length ≤ 5) : wcA n zs = ckW zs ∧ wcC n zs = 0 := by unfold wcA wcC; rw [if_pos h, if_pos h, if_pos h2, if_pos h2]; exact ⟨rfl, rfl⟩
theorem wc_long {n : Int} {zs : List Int} (h : ckC n zs = 0) (h2 : ¬ zs.length ≤ 5) : wcA n zs = [] ∧ wcC n zs = 3 := by unfold wcA wcC; rw [if_pos h, if_pos h, if_neg h2, if_neg h2]; exact ⟨rfl, rfl⟩
theorem wc_no {n : Int} {zs : List Int} (h : ¬ ckC n zs = 0) : wcA n zs = [] ∧ wcC n zs = ckC n zs := by unfold wcA wcC; rw [if_neg h, if_neg h]; exact ⟨rfl, rfl⟩
set_option maxHeartbeats 2000000 in
theorem impl_WithCheckSums (v : Value) (zs : List Int) (n : Int) (hn : zs.length ≤ 1048576) (b : -9223372036854775808 ≤ n ∧ n ≤ 9223372036854775807) (w : World) (h : NS w v zs) :
    Calls Try.prog 70 #[.int .i64 n, v] w fun e w' => ∃ r, e = .returned (.tuple #[r, .int .i64 (wcC n zs)]) ∧ PO w' w.heap.size r (wcA n zs) ∧ Below w.heap.size w w' := by
  have HN := Lib.hid h
  have hO := openChecked_any n v zs hn w h
  obtain ⟨A, c, rfl⟩ := h.form
  obtain ⟨b0, b1⟩ := b
  clear h
  by_cases h0 : ckC n zs = 0
  · have hl7 := (wdB_len (ckC_zero h0).2).2
    have hl1 := (wdB_len (ckC_zero h0).2).1
    rw [h0] at hO
    have HO := Lib.hid hO
    by_cases h5 : zs.length ≤ 5
    · obtain ⟨e1, e2⟩ := wc_yes h0 h5
      rw [e1, e2]
      have T1 : decide ((7 : Int) < (zs.length : Int) + 2) = false := by simp; omega
      have hck := fun w1 h1 => checked_any (.slice A zs.length c) zs hl1 h5 w1 h1
      have HCK := Lib.hid hck
      clear hO h0 e1 e2 hck
      go_enter Try.func70, Try.ntmps70
      go_wp2_with fail
      refine HO.out.mono ?_
      rintro e w1 ⟨bb, rfl, hb⟩
      have HB1 := Lib.hid hb
      clear hb
      go_wp2_with fail
      refine (HCK.out _ (HN.out.below HB1.out)).mono ?_
      rintro e w2 ⟨r, rfl, hp, hb⟩
      have HP := Lib.hid (hp.lower HB1.out.size)
      have HB2 := Lib.hid (bchain HB1.out hb)
      clear hp hb
      obtain ⟨A7, c7, rfl, _⟩ := HP.out.form
      go_wp2_with fail
      go_ret2
      exact ⟨_, rfl, HP.out, HB2.out⟩
    · obtain ⟨e1, e2⟩ := wc_long h0 h5
      rw [e1, e2]
      have T1 : decide ((7 : Int) < (zs.length : Int) + 2) = true := by simp; omega
      clear hO h0 e1 e2
      go_enter Try.func70, Try.ntmps70
      go_wp2_with fail
      refine HO.out.mono ?_
      rintro e w1 ⟨bb, rfl, hb⟩
      have HB1 := Lib.hid hb
      clear hb
      go_wp2_with fail
      go_ret2
      exact ⟨_, rfl, PO.nil0 _ _, HB1.out⟩
  · obtain ⟨e1, e2⟩ := wc_no h0
    rw [e1, e2]
    obtain ⟨cd, hcd⟩ : ∃ cd, cd = ckC n zs := ⟨_, rfl⟩
    rw [← hcd] at hO h0 ⊢
    have T1 : (cd != 0) = true := by rw [bne_iff_ne]; exact h0
    have HO := Lib.hid hO
    clear hO h0 e1 e2 hcd
    go_enter Try.func70, Try.ntmps70
    go_wp2_with fail
    refine HO.out.mono ?_
    rintro e w1 ⟨bb, rfl, hb⟩
    have HB1 := Lib.hid hb
    clear hb
    go_wp2_with fail
    go_ret2
    exact ⟨_, rfl, PO.nil0 _ _, HB1.out⟩
theorem two_cellC (w : World) (x y : Value) (T : TypeId) : ∀ (j : Nat) (u : Value), [x, y][j]? = some u → (w.alloc (.cells #[x, y] T)).cell? ((⟨w.heap.size, 0, none⟩ : Addr).add j) = some u := by
  intro j u hj
  rw [Addr.add_lit, Nat.zero_add]
  have e : (#[x, y] : Array Value)[j]? = some u := by simpa using hj
  rw [← e]
  exact cell_of_row _ _ _ _ _ _ (heap_alloc_new w _)
set_option maxHeartbeats 4000000 in
set_option maxRecDepth 100000 in
theorem spec_WithCheckSums (v : Value) (zs : List Int) (n : Int) (hn : zs.length ≤ 1048576) (b : -9223372036854775808 ≤ n ∧ n ≤ 9223372036854775807) (w : World) (h : NS w v zs) :
    Calls Try.prog 69 #[.int .i64 n, v] w fun e w' => ∃ r, e = .returned (.tuple #[r, .int .i64 (wcC n zs)]) ∧ PO w' w.heap.size r (wcA n zs) ∧ Below w.heap.size w w' := by
  obtain ⟨i0, hi, hz0, hz1, hz2⟩ := info_parts info25
  have E0 := Lib.hid (World.ownsRow_made w (e := 39) (size := 1) (base := w.heap.size) #[] 0 (Nat.le_refl _) (Nat.zero_le _) rfl)
  have HS := Lib.hid (h.below ((Below.refl _ w).alloc (Nat.le_refl _) (.cells #[] 39)))
  have HN := Lib.hid h
  have hz := inU_of h
  have HU := Lib.hid hz
  obtain ⟨b0, b1⟩ := b
  have hO := l06Checked_any n b0 b1 v zs hn w h
  obtain ⟨A, c, rfl⟩ := h.form
  clear h
  by_cases h0 : ckC n zs = 0
  · have hl7 := (wdB_len (ckC_zero h0).2).2
    have hl1 := (wdB_len (ckC_zero h0).2).1
    rw [h0] at hO
    have HO := Lib.hid hO
    by_cases h5 : zs.length ≤ 5
    · obtain ⟨e1, e2⟩ := wc_yes h0 h5
      rw [e1, e2]
      have T1 : decide ((7 : Int) < (zs.length : Int) + 2) = false := by simp; omega
      have hl := l06Sums_any (.slice A zs.length c) zs (by omega) w HN.out
      have hau := saI_u hz
      have hbu := sbI_u hz zs.length (by omega)
      have hyu0 := ckY_u hz h5
      have hY : ckY zs = mulI (xorI (sbI zs zs.length) (mulI ((zs.length : Int) + 1) (saI zs))) (invP (xorI ((zs.length : Int) + 1) ((zs.length : Int) + 2))) := rfl
      unfold ckW
      obtain ⟨sa, hsa⟩ : ∃ sa, sa = saI zs := ⟨_, rfl⟩
      obtain ⟨sb, hsb⟩ : ∃ sb, sb = sbI zs zs.length := ⟨_, rfl⟩
      rw [← hsa] at hau hY ⊢
      rw [← hsa, ← hsb] at hl
      rw [← hsb] at hY hbu
      obtain ⟨N, hN⟩ : ∃ N, N = zs.length := ⟨_, rfl⟩
      rw [← hN] at h5 hl1 hl7 hn HN hY hl HO HS T1 ⊢
      obtain ⟨a0, a1⟩ := hau
      obtain ⟨s0, s1⟩ := hbu
      have hc1 := fun u => ltimes_v ((N : Int) + 1) sa (by omega) (by omega) a0 a1 u
      have u1 := mulI_u ((N : Int) + 1) sa (by omega) a1
      obtain ⟨v1, hv1⟩ : ∃ v1, v1 = mulI ((N : Int) + 1) sa := ⟨_, rfl⟩
      rw [← hv1] at hc1 u1 hY
      have bx2 := bits_xor sb v1 s0 s1 u1.1 u1.2
      have u2 := xorI_u sb v1 s1 u1.2
      obtain ⟨v2, hv2⟩ : ∃ v2, v2 = xorI sb v1 := ⟨_, rfl⟩
      rw [← hv2] at bx2 u2 hY
      have bx3 := bits_xor ((N : Int) + 1) ((N : Int) + 2) (by omega) (by omega) (by omega) (by omega)
      have u3 := xorI_u ((N : Int) + 1) ((N : Int) + 2) (by omega) (by omega)
      obtain ⟨v3, hv3⟩ : ∃ v3, v3 = xorI ((N : Int) + 1) ((N : Int) + 2) := ⟨_, rfl⟩
      rw [← hv3] at bx3 u3 hY
      have hc4 := fun u => linv_v v3 u3.1 u3.2 u
      have u4 := invP_u v3 u3.2
      obtain ⟨v4, hv4⟩ : ∃ v4, v4 = invP v3 := ⟨_, rfl⟩
      rw [← hv4] at hc4 u4 hY
      have hc5 := fun u => ltimes_v v2 v4 u2.1 u2.2 u4.1 u4.2 u
      rw [hY] at hyu0 ⊢
      obtain ⟨y, hy⟩ : ∃ y, y = mulI v2 v4 := ⟨_, rfl⟩
      rw [← hy] at hc5 hyu0 ⊢
      have bx6 := bits_xor sa y a0 a1 hyu0.1 hyu0.2
      have u6 := xorI_u sa y a1 hyu0.2
      obtain ⟨v6, hv6⟩ : ∃ v6, v6 = xorI sa y := ⟨_, rfl⟩
      rw [← hv6] at bx6 u6 ⊢
      have HL := Lib.hid hl
      have K1 := Lib.hid hc1
      have K4 := Lib.hid hc4
      have K5 := Lib.hid hc5
      have HNN := Lib.hid hN
      have HU5 := Lib.hid hyu0
      have HU6 := Lib.hid u6
      clear hl hc1 hc4 hc5 u1 u2 u3 u4 u6 hv1 hv2 hv3 hv4 hv6 hY hsa hsb hN hy hO h0 e1 e2 hz hyu0
      go_enter Try.func69, Try.ntmps69
      go_wp2_with fail
      refine HO.out.mono ?_
      rintro e w' ⟨rfl, rfl⟩
      go_wp2_with fail
      refine HL.out.mono ?_
      rintro e w' ⟨rfl, rfl⟩
      go_wp2_with fail
      refine (K1.out _).mono ?_
      rintro e w' ⟨rfl, hw⟩
      obtain rfl := hw.symm
      go_wp2_with fail
      refine (K4.out _).mono ?_
      rintro e w' ⟨rfl, hw⟩
      obtain rfl := hw.symm
      go_wp2_with fail
      refine (K5.out _).mono ?_
      rintro e w' ⟨rfl, hw⟩
      obtain rfl := hw.symm
      go_wp2_with (at_builtin; refine wpList_append_ns rfl _ _ 25 25 rfl w.heap.size 39 i0 (.int .u16 0) Try.underlying25 Try.underlying25 hi hz0 hz1 hz2 rfl _ 0 _ rfl E0.out _ zs rfl HS.out (by have := HNN.out; omega) (by simp) ?_)
      intro s' wy hown hgrow _
      have ho : wy.ownsRow w.heap.size 39 1 s' N (u16s zs) := by rw [HNN.out]; simpa using hown
      have hbl : Below w.heap.size w wy := ((Below.refl _ w).alloc (Nat.le_refl _) _).grown hgrow (by simp) (by intro k hk; simp [Value.ownBlock] at hk; omega)
      have HOW := Lib.hid ho
      have HBL := Lib.hid hbl
      obtain ⟨A1, c1, rfl, _, _⟩ := own_form ho
      clear hown hgrow ho hbl
      go_wp2_with (at_builtin; refine wpList_append_own _ rfl _ _ 25 rfl w.heap.size 39 i0 (.int .u16 0) 1 2 Try.underlying25 hi hz0 hz1 hz2 rfl (by decide) _ N _ rfl (HOW.out.alloc _) ⟨wy.heap.size, 0, none⟩ 2 2 [.int .u16 v6, .int .u16 y] rfl rfl ?c1 ?c2 ?c3 ?c4 ?c5 ?_)
      case c1 => exact two_cellC _ _ _ _
      case c2 => simp [Value.oneCell']
      case c3 => unfold maxLen; omega
      case c4 => omega
      case c5 => rw [World.size_alloc]; have := HBL.out.size; omega
      intro s2 wz hown hgrow _
      have ho2 : wz.ownsRow w.heap.size 39 1 s2 (N + 2) (u16s (zs ++ [v6, y])) := by
        have : u16s (zs ++ [v6, y]) = u16s zs ++ [.int .u16 v6, .int .u16 y] := by simp [u16s]
        rw [this]; exact hown
      have hbz := (HBL.out.alloc HBL.out.size _).grown hgrow (by rw [World.size_alloc]; have := HBL.out.size; omega) (fun x hx => (HOW.out.lt x hx).1)
      have hin : inU (zs ++ [v6, y]) := by
        intro z hz
        rcases List.mem_append.1 hz with h | h
        · exact HU.out z h
        · rcases List.mem_cons.1 h with rfl | h
          · exact HU6.out
          · rcases List.mem_singleton.1 h with rfl; exact HU5.out
      have HP := Lib.hid (PO.of_own ho2 (by rw [List.length_append, ← HNN.out]; rfl) hin)
      have HBZ := Lib.hid hbz
      obtain ⟨A2, c2, rfl, _, _⟩ := own_form ho2
      clear hown hgrow ho2 hbz hin
      go_wp2_with fail
      go_ret2
      exact ⟨_, rfl, HP.out, HBZ.out⟩
    · obtain ⟨e1, e2⟩ := wc_long h0 h5
      rw [e1, e2]
      have T1 : decide ((7 : Int) < (zs.length : Int) + 2) = true := by simp; omega
      clear hO h0 e1 e2 hz
      go_enter Try.func69, Try.ntmps69
      go_wp2_with fail
      refine HO.out.mono ?_
      rintro e w' ⟨rfl, rfl⟩
      go_wp2_with fail
      go_ret2
      exact ⟨_, rfl, PO.nil _ _ _ _ (Nat.zero_le _) (fun e => by cases e), (Below.refl _ _).alloc (Nat.le_refl _) _⟩
  · obtain ⟨e1, e2⟩ := wc_no h0
    rw [e1, e2]
    obtain ⟨cd, hcd⟩ : ∃ cd, cd = ckC n zs := ⟨_, rfl⟩
    rw [← hcd] at hO h0 ⊢
    have T1 : (cd != 0) = true := by rw [bne_iff_ne]; exact h0
    have HO := Lib.hid hO
    clear hO h0 e1 e2 hcd hz
    go_enter Try.func69, Try.ntmps69
    go_wp2_with fail
    refine HO.out.mono ?_
    rintro e w' ⟨rfl, rfl⟩
    go_wp2_with fail
    go_ret2
    exact ⟨_, rfl, PO.nil _ _ _ _ (Nat.zero_le _) (fun e => by cases e), (Below.refl _ _).alloc (Nat.le_refl _) _⟩
end Go.Proofs.Ythhjhfkcgokffaa
