/-
  Masks of coins, and rows read from texts.
-/
import Derived.Test.YtanmgjaiojdihaaRows
import Derived.WalkKit
import Derived.ProofKit
import Derived.IntWalk
import Derived.Lib.Hide
import Derived.Laws.IdiomStrings
import Derived.Below
import Derived.Deep.Draws
namespace Go.Proofs.Ytanmgjaiojdihaa
set_option linter.unusedVariables false
set_option linter.unusedSimpArgs false
open Go.ChangeShapes Go.WideShapes Go.ChangeAt Go.RowKit
theorem two_pow_lt {c : Nat} (hc : c < 32) : 2 ^ c < 4294967296 := Nat.pow_lt_pow_right (a := 2) (by decide) hc
theorem mask_eq (c : Nat) (hc : c < 32) : (2 : Int) ^ c % 4294967296 = ((2 ^ c : Nat) : Int) := by
  have h := two_pow_lt hc
  have e : (2 : Int) ^ c = ((2 ^ c : Nat) : Int) := (Int.natCast_pow 2 c).symm
  rw [e]
  generalize 2 ^ c = m at h ⊢
  omega
theorem mask_any (c : Nat) (hc : c < 32) (w : World) :
    Calls Try.prog 33 #[.int .i64 (c : Int)] w fun e w' => e = .returned (.int .u32 ((2 ^ c : Nat) : Int)) ∧ w = w' := by
  have HM := Lib.hid (mask_eq c hc)
  go_enter Try.func33, Try.ntmps33
  go_wp2_with fail
  go_ret
  exact ⟨congrArg (fun q => Ending.returned (Value.int .u32 q)) HM.out, rfl⟩
theorem or_u32 (a b : Nat) (ha : a < 4294967296) (hb : b < 4294967296) : bits .or .u32 (a : Int) (b : Int) = ((a ||| b : Nat) : Int) := by
  have e : ∀ n : Nat, n < 4294967296 → (BitVec.ofInt 32 (n : Int)).toNat = n := by
    intro n hn
    rw [BitVec.toNat_ofInt]
    have : (n : Int) % ((2 ^ 32 : Nat) : Int) = n := Int.emod_eq_of_lt (by omega) (by omega)
    rw [this]; rfl
  have hle : a ||| b < 2 ^ 32 := Nat.or_lt_two_pow ha hb
  show IntKind.u32.wrap (((BitVec.ofInt 32 (a : Int) ||| BitVec.ofInt 32 (b : Int)).toNat : Nat) : Int) = _
  rw [BitVec.toNat_or, e a ha, e b hb, IntKind.wrap_u32]
  omega
/-- the heads among the first marks -/
def rowN (s : ByteArray) : Nat → Nat
  | 0 => 0
  | i + 1 => if (s.data.toList.getD i 0).toNat = 72 then rowN s i ||| 2 ^ i else rowN s i
theorem rowN_lt (s : ByteArray) : ∀ i, rowN s i < 2 ^ i := by
  intro i
  induction i with
  | zero => exact Nat.one_pos
  | succ i ih =>
    have h1 : rowN s i < 2 ^ (i + 1) := Nat.lt_of_lt_of_le ih (Nat.pow_le_pow_right (by decide) (Nat.le_succ i))
    unfold rowN
    split
    · exact Nat.or_lt_two_pow h1 (Nat.pow_lt_pow_right (a := 2) (by decide) (Nat.lt_succ_self i))
    · exact h1
def markB (s : ByteArray) (i : Nat) : Prop := (s.data.toList.getD i 0).toNat = 72 ∨ (s.data.toList.getD i 0).toNat = 84
open Classical in
noncomputable def rowV (s : ByteArray) : Value := if s.size ≤ 24 ∧ ∀ i, i < s.size → markB s i then .tuple #[.int .u32 ((rowN s s.size : Nat) : Int), .int .i64 0] else .tuple #[.int .u32 0, .int .i64 5]
theorem rowV_yes {s : ByteArray} (h : s.size ≤ 24) (h2 : ∀ i, i < s.size → markB s i) : rowV s = .tuple #[.int .u32 ((rowN s s.size : Nat) : Int), .int .i64 0] := by
  unfold rowV; rw [if_pos ⟨h, h2⟩]
theorem rowV_long {s : ByteArray} (h : ¬ s.size ≤ 24) : rowV s = .tuple #[.int .u32 0, .int .i64 5] := by
  unfold rowV; rw [if_neg (fun q => h q.1)]
theorem rowV_bad {s : ByteArray} (i : Nat) (hi : i < s.size) (h : ¬ markB s i) : rowV s = .tuple #[.int .u32 0, .int .i64 5] := by
  unfold rowV; rw [if_neg (fun q => h (q.2 i hi))]
theorem at_byte (s : ByteArray) (i : Nat) (h : i < s.size) : s.data.toList.getD i 0 = s[i] := by
  have h2 : i < s.data.toList.length := by simpa using h
  have h3 : i < s.data.size := h
  simp only [List.getD, Array.getElem?_toList, Array.getElem?_eq_getElem h3, Option.getD_some]
  rfl
theorem mark_step {s : ByteArray} {i : Nat} (h : ∀ j, j < i → markB s j) (e : markB s i) : ∀ j, j < i + 1 → markB s j := by
  intro j hj
  by_cases h1 : j < i
  · exact h j h1
  · rw [show j = i from by omega]; exact e
set_option maxHeartbeats 1000000 in
theorem spec_ReadRow (s : ByteArray) (hs : s.size ≤ 1048576) (w : World) :
    Calls Try.prog 19 #[.string s] w fun e w' => e = .returned (rowV s) ∧ w = w' := by
  by_cases hl : s.size ≤ 24
  · have t1 : decide ((24 : Int) < (s.size : Int)) = false := by simp; omega
    go_enter Try.func19, Try.ntmps19
    go_wp2_with fail
    go_loop [4, 5] (fun r k => ∃ i x : Nat, k = .int .i64 (i : Int) ∧ r = .int .u32 (x : Int) ∧ i ≤ s.size ∧ x < 4294967296 ∧ Hid (rowN s i = x) ∧ Hid (∀ j, j < i → markB s j)) (fun _ k => s.size - (intOf k).toNat)
    case atStart => exact ⟨0, 0, rfl, rfl, by omega, by omega, Lib.hid rfl, Lib.hid (fun j hj => by omega)⟩
    case round =>
      obtain ⟨i, x, rfl, rfl, hi, hx, HX, HA⟩ := hrel
      by_cases hlt : i < s.size
      · have T1 : decide ((i : Int) < (s.size : Int)) = true := by simp; omega
        have i1 : (i : Int) < (s.size : Int) := by omega
        have hb := at_byte s i hlt
        obtain ⟨c, hc⟩ : ∃ c : Nat, c = s[i].toNat := ⟨_, rfl⟩
        have hc2 : (s.data.toList.getD i 0).toNat = c := by rw [hb, hc]
        have HC : Hid (s[i].toNat = c) := Lib.hid hc.symm
        have HC2 := Lib.hid hc2
        by_cases h72 : c = 72
        · subst h72
          have hcc : s[i].toNat = 72 := HC.out
          have HM := mask_eq i (by omega)
          have hp : 2 ^ i < 4294967296 := two_pow_lt (by omega)
          obtain ⟨m, hm⟩ : ∃ m, m = 2 ^ i := ⟨_, rfl⟩
          rw [← hm] at HM hp
          have HO := or_u32 x m hx hp
          have hR : rowN s (i + 1) = x ||| m := by
            show (if (s.data.toList.getD i 0).toNat = 72 then rowN s i ||| 2 ^ i else rowN s i) = _
            rw [if_pos HC2.out, HX.out, hm]
          have hlt2 : x ||| m < 4294967296 := Nat.or_lt_two_pow (n := 32) hx hp
          have HR := Lib.hid hR
          have HA2 := Lib.hid (mark_step HA.out (.inl HC2.out))
          obtain ⟨y, hy⟩ : ∃ y, y = x ||| m := ⟨_, rfl⟩
          rw [← hy] at HO HR hlt2
          clear hb hc hc2 hR hm hp HA HX hy
          go_wp2_with fail
          go_round
          case rel => exact ⟨i + 1, y, by go_num, by first | rfl | (rw [HO]), by omega, hlt2, HR, HA2⟩
          case measure => simp [intOf]; omega
        · by_cases h84 : c = 84
          · subst h84
            have hcc : s[i].toNat = 84 := HC.out
            have hR : rowN s (i + 1) = x := by
              show (if (s.data.toList.getD i 0).toNat = 72 then rowN s i ||| 2 ^ i else rowN s i) = _
              rw [if_neg (by rw [HC2.out]; decide), HX.out]
            have HR := Lib.hid hR
            have HA2 := Lib.hid (mark_step HA.out (.inr HC2.out))
            clear hb hc hc2 hR HA HX
            go_wp2_with fail
            go_round
            case rel => exact ⟨i + 1, x, by go_num, rfl, by omega, hx, HR, HA2⟩
            case measure => simp [intOf]; omega
          · have HV := Lib.hid (rowV_bad i hlt (fun q => by rcases q with q | q <;> rw [HC2.out] at q <;> omega))
            have q1 : ((s[i].toNat : Int) == 72) = false := by rw [beq_eq_false_iff_ne]; have := HC.out; omega
            have q2 : ((s[i].toNat : Int) == 84) = false := by rw [beq_eq_false_iff_ne]; have := HC.out; omega
            have q3 : ¬ (s[i].toNat : Int) = 72 := by have := HC.out; omega
            have q4 : ¬ (s[i].toNat : Int) = 84 := by have := HC.out; omega
            clear hb hc hc2 HA HX
            go_wp2_with fail
            go_ret2
            exact ⟨by rw [HV.out]; rfl, rfl⟩
      · obtain rfl : i = s.size := by omega
        have HV := Lib.hid (rowV_yes hl HA.out)
        have T1 : decide ((s.size : Int) < (s.size : Int)) = false := by simp
        go_wp2_with fail
        go_ret2
        exact ⟨by rw [HV.out, HX.out]; rfl, rfl⟩
  · have t1 : decide ((24 : Int) < (s.size : Int)) = true := by simp; omega
    have HV := Lib.hid (rowV_long hl)
    clear hl
    go_enter Try.func19, Try.ntmps19
    go_wp2_with fail
    go_ret2
    exact ⟨by rw [HV.out]; rfl, rfl⟩
theorem bytes_conv (s : ByteArray) (w : World) : ∃ (cap : Nat) (w1 : World), (convert 9 55 (.string s)).run Try.prog w = .ok (.slice (some ⟨w.heap.size, 0, none⟩) s.size cap) w1 ∧
    (∀ i (h : i < s.size), w1.cell? ⟨w.heap.size, i, none⟩ = some (.int .u8 (s[i].toNat : Int))) ∧ Below w.heap.size w w1 := by
  refine ⟨_, _, run_bytes_of_string w 9 55 5 s Try.underlying9 Try.underlying55 Try.underlying5, ?_, ?_⟩
  · intro i h
    refine (cell_of_row _ _ i _ _ _ (heap_alloc_new w.drew _)).trans ?_
    unfold bytesRow
    have h2 : i < s.data.size := h
    rw [Array.getElem?_append_left (by simpa using h2), Array.getElem?_map, Array.getElem?_eq_getElem h2]
    rfl
  · exact ((⟨rfl, rfl, rfl, Nat.le_refl _, fun k hk => rfl⟩ : Below w.heap.size w w.drew)).alloc (by simp) _
set_option maxHeartbeats 1000000 in
theorem impl_ReadRow (s : ByteArray) (hs : s.size ≤ 1048576) (w : World) :
    Calls Try.prog 20 #[.string s] w fun e w' => e = .returned (rowV s) ∧ Below w.heap.size w w' := by
  by_cases hl : s.size ≤ 24
  · have t1 : decide ((24 : Int) < (s.size : Int)) = false := by simp; omega
    obtain ⟨cap, w1, hconv, hcell, hbel⟩ := bytes_conv s w
    have HB := Lib.hid hbel
    have HCL := Lib.hid hcell
    clear hbel hcell
    go_enter Try.func20, Try.ntmps20
    go_wp2_with fail
    clear hconv
    go_loopw [4, 13] (fun r k wr => ∃ i x : Nat, k = .int .i64 (i : Int) ∧ r = .int .u32 (x : Int) ∧ i ≤ s.size ∧ x < 4294967296 ∧ w1 = wr ∧ Hid (rowN s i = x) ∧ Hid (∀ j, j < i → markB s j)) (fun _ k _ => s.size - (intOf k).toNat)
    case atStart => exact ⟨0, 0, rfl, rfl, by omega, by omega, rfl, Lib.hid rfl, Lib.hid (fun j hj => by omega)⟩
    case round =>
      obtain ⟨i, x, rfl, rfl, hi, hx, rfl, HX, HA⟩ := hrel
      by_cases hlt : i < s.size
      · have T1 : decide ((i : Int) < (s.size : Int)) = true := by simp; omega
        have i1 : (i : Int) < (s.size : Int) := by omega
        have hb := at_byte s i hlt
        obtain ⟨c, hc⟩ : ∃ c : Nat, c = s[i].toNat := ⟨_, rfl⟩
        have hc2 : (s.data.toList.getD i 0).toNat = c := by rw [hb, hc]
        have q0 := HCL.out i hlt
        rw [← hc] at q0
        have HC2 := Lib.hid hc2
        by_cases h72 : c = 72
        · subst h72
          have hp : 2 ^ i < 4294967296 := two_pow_lt (by omega)
          obtain ⟨m, hm⟩ : ∃ m, m = 2 ^ i := ⟨_, rfl⟩
          have HMK := Lib.hid (mask_any i (by omega) w1)
          rw [← hm] at HMK hp
          have HO := or_u32 x m hx hp
          have hR : rowN s (i + 1) = x ||| m := by
            show (if (s.data.toList.getD i 0).toNat = 72 then rowN s i ||| 2 ^ i else rowN s i) = _
            rw [if_pos HC2.out, HX.out, hm]
          have hlt2 : x ||| m < 4294967296 := Nat.or_lt_two_pow (n := 32) hx hp
          have HR := Lib.hid hR
          have HA2 := Lib.hid (mark_step HA.out (.inl HC2.out))
          obtain ⟨y, hy⟩ : ∃ y, y = x ||| m := ⟨_, rfl⟩
          rw [← hy] at HO HR hlt2
          clear hb hc hc2 hR hm hp HA HX hy
          go_wp2_with fail
          refine HMK.out.mono ?_
          rintro e w2 ⟨rfl, rfl⟩
          go_wp2_with fail
          exact ⟨⟨i + 1, y, by go_num, by first | rfl | (rw [HO]), by omega, hlt2, by first | trivial | rfl, HR, HA2⟩, by simp [intOf]; omega⟩
        · by_cases h84 : c = 84
          · subst h84
            have hR : rowN s (i + 1) = x := by
              show (if (s.data.toList.getD i 0).toNat = 72 then rowN s i ||| 2 ^ i else rowN s i) = _
              rw [if_neg (by rw [HC2.out]; decide), HX.out]
            have HR := Lib.hid hR
            have HA2 := Lib.hid (mark_step HA.out (.inr HC2.out))
            clear hb hc hc2 hR HA HX
            go_wp2_with fail
            exact ⟨⟨i + 1, x, by go_num, rfl, by omega, hx, by first | trivial | rfl, HR, HA2⟩, by simp [intOf]; omega⟩
          · have HV := Lib.hid (rowV_bad i hlt (fun q => by rcases q with q | q <;> rw [HC2.out] at q <;> omega))
            have q1 : ((c : Int) == 72) = false := by rw [beq_eq_false_iff_ne]; omega
            have q2 : ((c : Int) == 84) = false := by rw [beq_eq_false_iff_ne]; omega
            clear hb hc hc2 HA HX
            go_wp2_with fail
            go_ret2
            exact ⟨by rw [HV.out]; rfl, HB.out⟩
      · obtain rfl : i = s.size := by omega
        have HV := Lib.hid (rowV_yes hl HA.out)
        have T1 : decide ((s.size : Int) < (s.size : Int)) = false := by simp
        go_wp2_with fail
        go_ret2
        exact ⟨by rw [HV.out, HX.out]; rfl, HB.out⟩
  · have t1 : decide ((24 : Int) < (s.size : Int)) = true := by simp; omega
    have HV := Lib.hid (rowV_long hl)
    clear hl
    go_enter Try.func20, Try.ntmps20
    go_wp2_with fail
    go_ret2
    exact ⟨by rw [HV.out]; rfl, Below.refl _ _⟩
end Go.Proofs.Ytanmgjaiojdihaa
