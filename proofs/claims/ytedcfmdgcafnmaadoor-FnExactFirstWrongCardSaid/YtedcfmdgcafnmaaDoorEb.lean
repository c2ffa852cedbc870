/-
  Claims about circuits: the model.
-/
import Derived.Test.YtedcfmdgcafnmaaDoorEa
namespace Go.Proofs.YtedcfmdgcafnmaaDoor
set_option linter.unusedVariables false
set_option linter.unusedSimpArgs false
open Go.ChangeShapes Go.WideShapes Go.ChangeAt Go.RowKit Go.Deep

def wrV (n : Nat) : Option Nat → Value
  | none => .tuple #[.int .u16 0, .int .u16 0, .bool false]
  | some t => .tuple #[.int .u16 ((t / 2 ^ n : Nat) : Int), .int .u16 ((t % 2 ^ n : Nat) : Int), .bool true]

theorem l07BitsL_0 (w : World) : Calls Tryd.prog 81 #[.int .i64 0] w fun e w' => e = .returned (.int .i64 1) ∧ w' = w := by
  go_enter Tryd.func81, Tryd.ntmps81
  go_wp2_with fail
  go_ret
  exact ⟨rfl, rfl⟩

theorem l07BitsL_1 (w : World) : Calls Tryd.prog 81 #[.int .i64 1] w fun e w' => e = .returned (.int .i64 2) ∧ w' = w := by
  go_enter Tryd.func81, Tryd.ntmps81
  go_wp2_with fail
  go_ret
  exact ⟨rfl, rfl⟩

theorem l07BitsL_2 (w : World) : Calls Tryd.prog 81 #[.int .i64 2] w fun e w' => e = .returned (.int .i64 4) ∧ w' = w := by
  go_enter Tryd.func81, Tryd.ntmps81
  go_wp2_with fail
  go_ret
  exact ⟨rfl, rfl⟩

set_option maxHeartbeats 8000000 in
set_option maxRecDepth 100000 in
theorem wrongS_0_0 (gb : Nat) (nn : Int) (G O : Value) (gs : List G3) (os : List Int) (hc : circB nn gs os = true) (w : World) (hX : BX w gb (.int .i8 nn) G O) (hg : GL w G gs) (ho : IL w O os) :
    Calls Tryd.prog 59 #[.pointer (some ⟨gb, 0, none⟩), .int .i64 0, .int .i64 0] w fun e w' => e = .returned (wrV 1 (fstW 0 gs os 1)) ∧ Below w.heap.size w w' := by
  have HC := Lib.hid hc; have HX := Lib.hid hX; have HG := Lib.hid hg; have HO := Lib.hid ho
  clear hc hX hg ho
  go_enter Tryd.func59, Tryd.ntmps59
  go_wp2_with fail
  refine (l07BitsL_0 w).mono ?_
  rintro e w2 ⟨rfl, hww⟩
  subst hww
  go_wp2_with fail
  go_loopw [10] (fun y wr => ∃ a : Nat, y = .int .u16 (a : Int) ∧ a ≤ 2 ∧ Hid (∀ s, s < a * 2 → badT 0 gs os 1 s = false) ∧ Hid (Below w2.heap.size w2 wr)) (fun y _ => 2 - (intOf y).toNat)
  case atStart => exact ⟨0, rfl, by omega, Lib.hid (fun s hs => by omega), Lib.hid (Below.refl _ _)⟩
  case round =>
    obtain ⟨a, rfl, ha, HL, HB⟩ := hrel
    by_cases hlt : a < 2
    · have T1 : (((a : Int) / 2) == 0) = true := by simp; omega
      have T1' : (a : Int) / 2 = 0 := by omega
      have hwa : IntKind.wrap .u16 ((a : Int) + 1) = (a : Int) + 1 := by simp only [IntKind.wrap, show IntKind.u16.bits = 16 from rfl, show IntKind.u16.signed = false from rfl]; simp; omega
      go_wp2_with fail
      go_loopw [11] (fun y wi => ∃ b : Nat, y = .int .u16 (b : Int) ∧ b ≤ 2 ∧ Hid (∀ s, s < a * 2 + b → badT 0 gs os 1 s = false) ∧ Hid (Below w2.heap.size w2 wi)) (fun y _ => 2 - (intOf y).toNat)
      case atStart => exact ⟨0, rfl, by omega, Lib.hid (fun s hs => HL.out s (by omega)), HB⟩
      case round =>
        obtain ⟨b, rfl, hb, HI, HBI⟩ := hrel
        clear HL HB
        by_cases hlt2 : b < 2
        · have T2 : (((b : Int) / 2) == 0) = true := by simp; omega
          have T2' : (b : Int) / 2 = 0 := by omega
          have hwb : IntKind.wrap .u16 ((b : Int) + 1) = (b : Int) + 1 := by simp only [IntKind.wrap, show IntKind.u16.bits = 16 from rfl, show IntKind.u16.signed = false from rfl]; simp; omega
          have HBV := Lib.hid (show bits BinOp.or IntKind.u16 (a : Int) ((b : Int) * 2) = bitv 1 (a : Int) (b : Int) from by
            unfold bitv
            rw [show ((b : Int) * 2 ^ 1) = (b : Int) * 2 from rfl, IntKind.wrap_u16]
            congr 1
            omega)
          have HBT := Lib.hid (badT_at 0 gs os 1 a b hlt2)
          go_wp2_with fail
          rw [HBV.out]
          have hp1 := bits_xor (a : Int) (b : Int) (by omega) (by omega) (by omega) (by omega)
          obtain ⟨p1, hpe⟩ : ∃ p1, p1 = bits BinOp.xor IntKind.u16 (a : Int) (b : Int) := ⟨_, rfl⟩
          rw [← hpe] at hp1 ⊢
          have HP1 := Lib.hid hp1
          clear hpe hp1
          refine (specRun_any nn gb _ _ gs os HC.out _ (bitv_b 1 (a : Int) (b : Int)) wr (HX.out.below HBI.out) (HG.out.below HBI.out) (HO.out.below HBI.out)).mono ?_
          rintro e w6 ⟨rfl, hb6⟩
          obtain ⟨r1, hr1⟩ : ∃ r1, r1 = runTo (onL (bitv 1 (a : Int) (b : Int)) gs) os os.length := ⟨_, rfl⟩
          rw [← hr1]
          have HB6 := Lib.hid (HBI.out.trans (hb6.mono HBI.out.size))
          have HBP := Lib.hid (show badT 0 gs os 1 (a * 2 + b) = decide (r1 ≠ p1) from by
            have h := HBT.out
            rw [show 2 ^ 1 = 2 from rfl] at h
            rw [h]; unfold badP; rw [← hr1, HP1.out]; rfl)
          clear hb6 hr1 HBT HP1
          by_cases hq : r1 = p1
          · have Tq : (r1 != p1) = false := by rw [hq]; simp
            have HGD := Lib.hid (show badT 0 gs os 1 (a * 2 + b) = false from by rw [HBP.out]; simp [hq])
            clear hq
            go_wp2_with fail
            exact ⟨⟨b + 1, by go_num, by omega, Lib.hid (fun s hs => by
              by_cases he : s = a * 2 + b
              · rw [he]; exact HGD.out
              · exact HI.out s (by omega)), HB6⟩, by simp [intOf]; omega⟩
          · have Tq : (r1 != p1) = true := by simpa using hq
            have HGD := Lib.hid (show fstW 0 gs os 1 = some (a * 2 + b) from fstW_hit (by show _ < 2 * 2; omega) (by rw [HBP.out]; simp [hq]) (fun s hs => HI.out s (by omega)))
            clear hq
            go_wp2_with fail
            go_ret3
            refine ⟨?_, HB6.out⟩
            rw [HGD.out]
            show _ = Ending.returned (.tuple #[.int .u16 (((a * 2 + b) / 2 ^ 1 : Nat) : Int), .int .u16 (((a * 2 + b) % 2 ^ 1 : Nat) : Int), .bool true])
            rw [show (a * 2 + b) / 2 ^ 1 = a from by omega, show (a * 2 + b) % 2 ^ 1 = b from by omega]
            rfl
        · obtain rfl : b = 2 := by omega
          have T2 : (((((2 : Nat) : Int)) / 2) == 0) = false := by decide
          go_wp2_with fail
          exact ⟨⟨a + 1, by go_num, by omega, Lib.hid (fun s hs => HI.out s (by omega)), HBI⟩, by simp [intOf]; omega⟩
    · obtain rfl : a = 2 := by omega
      have T1 : (((((2 : Nat) : Int)) / 2) == 0) = false := by decide
      have HNO := Lib.hid (show fstW 0 gs os 1 = none from fstW_none (fun s hs => HL.out s hs))
      go_wp2_with fail
      go_ret3
      exact ⟨by rw [HNO.out]; rfl, HB.out⟩

set_option maxHeartbeats 8000000 in
set_option maxRecDepth 100000 in
theorem wrongS_0_1 (gb : Nat) (nn : Int) (G O : Value) (gs : List G3) (os : List Int) (hc : circB nn gs os = true) (w : World) (hX : BX w gb (.int .i8 nn) G O) (hg : GL w G gs) (ho : IL w O os) :
    Calls Tryd.prog 59 #[.pointer (some ⟨gb, 0, none⟩), .int .i64 0, .int .i64 1] w fun e w' => e = .returned (wrV 2 (fstW 0 gs os 2)) ∧ Below w.heap.size w w' := by
  have HC := Lib.hid hc; have HX := Lib.hid hX; have HG := Lib.hid hg; have HO := Lib.hid ho
  clear hc hX hg ho
  go_enter Tryd.func59, Tryd.ntmps59
  go_wp2_with fail
  refine (l07BitsL_1 w).mono ?_
  rintro e w2 ⟨rfl, hww⟩
  subst hww
  go_wp2_with fail
  go_loopw [10] (fun y wr => ∃ a : Nat, y = .int .u16 (a : Int) ∧ a ≤ 4 ∧ Hid (∀ s, s < a * 4 → badT 0 gs os 2 s = false) ∧ Hid (Below w2.heap.size w2 wr)) (fun y _ => 4 - (intOf y).toNat)
  case atStart => exact ⟨0, rfl, by omega, Lib.hid (fun s hs => by omega), Lib.hid (Below.refl _ _)⟩
  case round =>
    obtain ⟨a, rfl, ha, HL, HB⟩ := hrel
    by_cases hlt : a < 4
    · have T1 : (((a : Int) / 4) == 0) = true := by simp; omega
      have T1' : (a : Int) / 4 = 0 := by omega
      have hwa : IntKind.wrap .u16 ((a : Int) + 1) = (a : Int) + 1 := by simp only [IntKind.wrap, show IntKind.u16.bits = 16 from rfl, show IntKind.u16.signed = false from rfl]; simp; omega
      go_wp2_with fail
      go_loopw [11] (fun y wi => ∃ b : Nat, y = .int .u16 (b : Int) ∧ b ≤ 4 ∧ Hid (∀ s, s < a * 4 + b → badT 0 gs os 2 s = false) ∧ Hid (Below w2.heap.size w2 wi)) (fun y _ => 4 - (intOf y).toNat)
      case atStart => exact ⟨0, rfl, by omega, Lib.hid (fun s hs => HL.out s (by omega)), HB⟩
      case round =>
        obtain ⟨b, rfl, hb, HI, HBI⟩ := hrel
        clear HL HB
        by_cases hlt2 : b < 4
        · have T2 : (((b : Int) / 4) == 0) = true := by simp; omega
          have T2' : (b : Int) / 4 = 0 := by omega
          have hwb : IntKind.wrap .u16 ((b : Int) + 1) = (b : Int) + 1 := by simp only [IntKind.wrap, show IntKind.u16.bits = 16 from rfl, show IntKind.u16.signed = false from rfl]; simp; omega
          have HBV := Lib.hid (show bits BinOp.or IntKind.u16 (a : Int) ((b : Int) * 4) = bitv 2 (a : Int) (b : Int) from by
            unfold bitv
            rw [show ((b : Int) * 2 ^ 2) = (b : Int) * 4 from rfl, IntKind.wrap_u16]
            congr 1
            omega)
          have HBT := Lib.hid (badT_at 0 gs os 2 a b hlt2)
          go_wp2_with fail
          rw [HBV.out]
          have hp1 := bits_xor (a : Int) (b : Int) (by omega) (by omega) (by omega) (by omega)
          obtain ⟨p1, hpe⟩ : ∃ p1, p1 = bits BinOp.xor IntKind.u16 (a : Int) (b : Int) := ⟨_, rfl⟩
          rw [← hpe] at hp1 ⊢
          have HP1 := Lib.hid hp1
          clear hpe hp1
          refine (specRun_any nn gb _ _ gs os HC.out _ (bitv_b 2 (a : Int) (b : Int)) wr (HX.out.below HBI.out) (HG.out.below HBI.out) (HO.out.below HBI.out)).mono ?_
          rintro e w6 ⟨rfl, hb6⟩
          obtain ⟨r1, hr1⟩ : ∃ r1, r1 = runTo (onL (bitv 2 (a : Int) (b : Int)) gs) os os.length := ⟨_, rfl⟩
          rw [← hr1]
          have HB6 := Lib.hid (HBI.out.trans (hb6.mono HBI.out.size))
          have HBP := Lib.hid (show badT 0 gs os 2 (a * 4 + b) = decide (r1 ≠ p1) from by
            have h := HBT.out
            rw [show 2 ^ 2 = 4 from rfl] at h
            rw [h]; unfold badP; rw [← hr1, HP1.out]; rfl)
          clear hb6 hr1 HBT HP1
          by_cases hq : r1 = p1
          · have Tq : (r1 != p1) = false := by rw [hq]; simp
            have HGD := Lib.hid (show badT 0 gs os 2 (a * 4 + b) = false from by rw [HBP.out]; simp [hq])
            clear hq
            go_wp2_with fail
            exact ⟨⟨b + 1, by go_num, by omega, Lib.hid (fun s hs => by
              by_cases he : s = a * 4 + b
              · rw [he]; exact HGD.out
              · exact HI.out s (by omega)), HB6⟩, by simp [intOf]; omega⟩
          · have Tq : (r1 != p1) = true := by simpa using hq
            have HGD := Lib.hid (show fstW 0 gs os 2 = some (a * 4 + b) from fstW_hit (by show _ < 4 * 4; omega) (by rw [HBP.out]; simp [hq]) (fun s hs => HI.out s (by omega)))
            clear hq
            go_wp2_with fail
            go_ret3
            refine ⟨?_, HB6.out⟩
            rw [HGD.out]
            show _ = Ending.returned (.tuple #[.int .u16 (((a * 4 + b) / 2 ^ 2 : Nat) : Int), .int .u16 (((a * 4 + b) % 2 ^ 2 : Nat) : Int), .bool true])
            rw [show (a * 4 + b) / 2 ^ 2 = a from by omega, show (a * 4 + b) % 2 ^ 2 = b from by omega]
            rfl
        · obtain rfl : b = 4 := by omega
          have T2 : (((((4 : Nat) : Int)) / 4) == 0) = false := by decide
          go_wp2_with fail
          exact ⟨⟨a + 1, by go_num, by omega, Lib.hid (fun s hs => HI.out s (by omega)), HBI⟩, by simp [intOf]; omega⟩
    · obtain rfl : a = 4 := by omega
      have T1 : (((((4 : Nat) : Int)) / 4) == 0) = false := by decide
      have HNO := Lib.hid (show fstW 0 gs os 2 = none from fstW_none (fun s hs => HL.out s hs))
      go_wp2_with fail
      go_ret3
      exact ⟨by rw [HNO.out]; rfl, HB.out⟩

set_option maxHeartbeats 8000000 in
set_option maxRecDepth 100000 in
theorem wrongS_0_2 (gb : Nat) (nn : Int) (G O : Value) (gs : List G3) (os : List Int) (hc : circB nn gs os = true) (w : World) (hX : BX w gb (.int .i8 nn) G O) (hg : GL w G gs) (ho : IL w O os) :
    Calls Tryd.prog 59 #[.pointer (some ⟨gb, 0, none⟩), .int .i64 0, .int .i64 2] w fun e w' => e = .returned (wrV 4 (fstW 0 gs os 4)) ∧ Below w.heap.size w w' := by
  have HC := Lib.hid hc; have HX := Lib.hid hX; have HG := Lib.hid hg; have HO := Lib.hid ho
  clear hc hX hg ho
  go_enter Tryd.func59, Tryd.ntmps59
  go_wp2_with fail
  refine (l07BitsL_2 w).mono ?_
  rintro e w2 ⟨rfl, hww⟩
  subst hww
  go_wp2_with fail
  go_loopw [10] (fun y wr => ∃ a : Nat, y = .int .u16 (a : Int) ∧ a ≤ 16 ∧ Hid (∀ s, s < a * 16 → badT 0 gs os 4 s = false) ∧ Hid (Below w2.heap.size w2 wr)) (fun y _ => 16 - (intOf y).toNat)
  case atStart => exact ⟨0, rfl, by omega, Lib.hid (fun s hs => by omega), Lib.hid (Below.refl _ _)⟩
  case round =>
    obtain ⟨a, rfl, ha, HL, HB⟩ := hrel
    by_cases hlt : a < 16
    · have T1 : (((a : Int) / 16) == 0) = true := by simp; omega
      have T1' : (a : Int) / 16 = 0 := by omega
      have hwa : IntKind.wrap .u16 ((a : Int) + 1) = (a : Int) + 1 := by simp only [IntKind.wrap, show IntKind.u16.bits = 16 from rfl, show IntKind.u16.signed = false from rfl]; simp; omega
      go_wp2_with fail
      go_loopw [11] (fun y wi => ∃ b : Nat, y = .int .u16 (b : Int) ∧ b ≤ 16 ∧ Hid (∀ s, s < a * 16 + b → badT 0 gs os 4 s = false) ∧ Hid (Below w2.heap.size w2 wi)) (fun y _ => 16 - (intOf y).toNat)
      case atStart => exact ⟨0, rfl, by omega, Lib.hid (fun s hs => HL.out s (by omega)), HB⟩
      case round =>
        obtain ⟨b, rfl, hb, HI, HBI⟩ := hrel
        clear HL HB
        by_cases hlt2 : b < 16
        · have T2 : (((b : Int) / 16) == 0) = true := by simp; omega
          have T2' : (b : Int) / 16 = 0 := by omega
          have hwb : IntKind.wrap .u16 ((b : Int) + 1) = (b : Int) + 1 := by simp only [IntKind.wrap, show IntKind.u16.bits = 16 from rfl, show IntKind.u16.signed = false from rfl]; simp; omega
          have HBV := Lib.hid (show bits BinOp.or IntKind.u16 (a : Int) ((b : Int) * 16) = bitv 4 (a : Int) (b : Int) from by
            unfold bitv
            rw [show ((b : Int) * 2 ^ 4) = (b : Int) * 16 from rfl, IntKind.wrap_u16]
            congr 1
            omega)
          have HBT := Lib.hid (badT_at 0 gs os 4 a b hlt2)
          go_wp2_with fail
          rw [HBV.out]
          have hp1 := bits_xor (a : Int) (b : Int) (by omega) (by omega) (by omega) (by omega)
          obtain ⟨p1, hpe⟩ : ∃ p1, p1 = bits BinOp.xor IntKind.u16 (a : Int) (b : Int) := ⟨_, rfl⟩
          rw [← hpe] at hp1 ⊢
          have HP1 := Lib.hid hp1
          clear hpe hp1
          refine (specRun_any nn gb _ _ gs os HC.out _ (bitv_b 4 (a : Int) (b : Int)) wr (HX.out.below HBI.out) (HG.out.below HBI.out) (HO.out.below HBI.out)).mono ?_
          rintro e w6 ⟨rfl, hb6⟩
          obtain ⟨r1, hr1⟩ : ∃ r1, r1 = runTo (onL (bitv 4 (a : Int) (b : Int)) gs) os os.length := ⟨_, rfl⟩
          rw [← hr1]
          have HB6 := Lib.hid (HBI.out.trans (hb6.mono HBI.out.size))
          have HBP := Lib.hid (show badT 0 gs os 4 (a * 16 + b) = decide (r1 ≠ p1) from by
            have h := HBT.out
            rw [show 2 ^ 4 = 16 from rfl] at h
            rw [h]; unfold badP; rw [← hr1, HP1.out]; rfl)
          clear hb6 hr1 HBT HP1
          by_cases hq : r1 = p1
          · have Tq : (r1 != p1) = false := by rw [hq]; simp
            have HGD := Lib.hid (show badT 0 gs os 4 (a * 16 + b) = false from by rw [HBP.out]; simp [hq])
            clear hq
            go_wp2_with fail
            exact ⟨⟨b + 1, by go_num, by omega, Lib.hid (fun s hs => by
              by_cases he : s = a * 16 + b
              · rw [he]; exact HGD.out
              · exact HI.out s (by omega)), HB6⟩, by simp [intOf]; omega⟩
          · have Tq : (r1 != p1) = true := by simpa using hq
            have HGD := Lib.hid (show fstW 0 gs os 4 = some (a * 16 + b) from fstW_hit (by show _ < 16 * 16; omega) (by rw [HBP.out]; simp [hq]) (fun s hs => HI.out s (by omega)))
            clear hq
            go_wp2_with fail
            go_ret3
            refine ⟨?_, HB6.out⟩
            rw [HGD.out]
            show _ = Ending.returned (.tuple #[.int .u16 (((a * 16 + b) / 2 ^ 4 : Nat) : Int), .int .u16 (((a * 16 + b) % 2 ^ 4 : Nat) : Int), .bool true])
            rw [show (a * 16 + b) / 2 ^ 4 = a from by omega, show (a * 16 + b) % 2 ^ 4 = b from by omega]
            rfl
        · obtain rfl : b = 16 := by omega
          have T2 : (((((16 : Nat) : Int)) / 16) == 0) = false := by decide
          go_wp2_with fail
          exact ⟨⟨a + 1, by go_num, by omega, Lib.hid (fun s hs => HI.out s (by omega)), HBI⟩, by simp [intOf]; omega⟩
    · obtain rfl : a = 16 := by omega
      have T1 : (((((16 : Nat) : Int)) / 16) == 0) = false := by decide
      have HNO := Lib.hid (show fstW 0 gs os 4 = none from fstW_none (fun s hs => HL.out s hs))
      go_wp2_with fail
      go_ret3
      exact ⟨by rw [HNO.out]; rfl, HB.out⟩

set_option maxHeartbeats 8000000 in
set_option maxRecDepth 100000 in
theorem wrongS_1_0 (gb : Nat) (nn : Int) (G O : Value) (gs : List G3) (os : List Int) (hc : circB nn gs os = true) (w : World) (hX : BX w gb (.int .i8 nn) G O) (hg : GL w G gs) (ho : IL w O os) :
    Calls Tryd.prog 59 #[.pointer (some ⟨gb, 0, none⟩), .int .i64 1, .int .i64 0] w fun e w' => e = .returned (wrV 1 (fstW 1 gs os 1)) ∧ Below w.heap.size w w' := by
  have HC := Lib.hid hc; have HX := Lib.hid hX; have HG := Lib.hid hg; have HO := Lib.hid ho
  clear hc hX hg ho
  go_enter Tryd.func59, Tryd.ntmps59
  go_wp2_with fail
  refine (l07BitsL_0 w).mono ?_
  rintro e w2 ⟨rfl, hww⟩
  subst hww
  go_wp2_with fail
  go_loopw [10] (fun y wr => ∃ a : Nat, y = .int .u16 (a : Int) ∧ a ≤ 2 ∧ Hid (∀ s, s < a * 2 → badT 1 gs os 1 s = false) ∧ Hid (Below w2.heap.size w2 wr)) (fun y _ => 2 - (intOf y).toNat)
  case atStart => exact ⟨0, rfl, by omega, Lib.hid (fun s hs => by omega), Lib.hid (Below.refl _ _)⟩
  case round =>
    obtain ⟨a, rfl, ha, HL, HB⟩ := hrel
    by_cases hlt : a < 2
    · have T1 : (((a : Int) / 2) == 0) = true := by simp; omega
      have T1' : (a : Int) / 2 = 0 := by omega
      have hwa : IntKind.wrap .u16 ((a : Int) + 1) = (a : Int) + 1 := by simp only [IntKind.wrap, show IntKind.u16.bits = 16 from rfl, show IntKind.u16.signed = false from rfl]; simp; omega
      go_wp2_with fail
      go_loopw [11] (fun y wi => ∃ b : Nat, y = .int .u16 (b : Int) ∧ b ≤ 2 ∧ Hid (∀ s, s < a * 2 + b → badT 1 gs os 1 s = false) ∧ Hid (Below w2.heap.size w2 wi)) (fun y _ => 2 - (intOf y).toNat)
      case atStart => exact ⟨0, rfl, by omega, Lib.hid (fun s hs => HL.out s (by omega)), HB⟩
      case round =>
        obtain ⟨b, rfl, hb, HI, HBI⟩ := hrel
        clear HL HB
        by_cases hlt2 : b < 2
        · have T2 : (((b : Int) / 2) == 0) = true := by simp; omega
          have T2' : (b : Int) / 2 = 0 := by omega
          have hwb : IntKind.wrap .u16 ((b : Int) + 1) = (b : Int) + 1 := by simp only [IntKind.wrap, show IntKind.u16.bits = 16 from rfl, show IntKind.u16.signed = false from rfl]; simp; omega
          have HBV := Lib.hid (show bits BinOp.or IntKind.u16 (a : Int) ((b : Int) * 2) = bitv 1 (a : Int) (b : Int) from by
            unfold bitv
            rw [show ((b : Int) * 2 ^ 1) = (b : Int) * 2 from rfl, IntKind.wrap_u16]
            congr 1
            omega)
          have HBT := Lib.hid (badT_at 1 gs os 1 a b hlt2)
          go_wp2_with fail
          refine (ltimes_any (a : Int) (b : Int) (by omega) (by omega) (by omega) (by omega) wr).mono ?_
          rintro e w5 ⟨⟨p1, rfl, HP1, _⟩, hww⟩
          subst hww
          go_wp2_with fail
          rw [HBV.out]
          refine (specRun_any nn gb _ _ gs os HC.out _ (bitv_b 1 (a : Int) (b : Int)) wr (HX.out.below HBI.out) (HG.out.below HBI.out) (HO.out.below HBI.out)).mono ?_
          rintro e w6 ⟨rfl, hb6⟩
          obtain ⟨r1, hr1⟩ : ∃ r1, r1 = runTo (onL (bitv 1 (a : Int) (b : Int)) gs) os os.length := ⟨_, rfl⟩
          rw [← hr1]
          have HB6 := Lib.hid (HBI.out.trans (hb6.mono HBI.out.size))
          have HBP := Lib.hid (show badT 1 gs os 1 (a * 2 + b) = decide (r1 ≠ p1) from by
            have h := HBT.out
            rw [show 2 ^ 1 = 2 from rfl] at h
            rw [h]; unfold badP; rw [← hr1, HP1.out]; rfl)
          clear hb6 hr1 HBT HP1
          by_cases hq : r1 = p1
          · have Tq : (r1 != p1) = false := by rw [hq]; simp
            have HGD := Lib.hid (show badT 1 gs os 1 (a * 2 + b) = false from by rw [HBP.out]; simp [hq])
            clear hq
            go_wp2_with fail
            exact ⟨⟨b + 1, by go_num, by omega, Lib.hid (fun s hs => by
              by_cases he : s = a * 2 + b
              · rw [he]; exact HGD.out
              · exact HI.out s (by omega)), HB6⟩, by simp [intOf]; omega⟩
          · have Tq : (r1 != p1) = true := by simpa using hq
            have HGD := Lib.hid (show fstW 1 gs os 1 = some (a * 2 + b) from fstW_hit (by show _ < 2 * 2; omega) (by rw [HBP.out]; simp [hq]) (fun s hs => HI.out s (by omega)))
            clear hq
            go_wp2_with fail
            go_ret3
            refine ⟨?_, HB6.out⟩
            rw [HGD.out]
            show _ = Ending.returned (.tuple #[.int .u16 (((a * 2 + b) / 2 ^ 1 : Nat) : Int), .int .u16 (((a * 2 + b) % 2 ^ 1 : Nat) : Int), .bool true])
            rw [show (a * 2 + b) / 2 ^ 1 = a from by omega, show (a * 2 + b) % 2 ^ 1 = b from by omega]
            rfl
        · obtain rfl : b = 2 := by omega
          have T2 : (((((2 : Nat) : Int)) / 2) == 0) = false := by decide
          go_wp2_with fail
          exact ⟨⟨a + 1, by go_num, by omega, Lib.hid (fun s hs => HI.out s (by omega)), HBI⟩, by simp [intOf]; omega⟩
    · obtain rfl : a = 2 := by omega
      have T1 : (((((2 : Nat) : Int)) / 2) == 0) = false := by decide
      have HNO := Lib.hid (show fstW 1 gs os 1 = none from fstW_none (fun s hs => HL.out s hs))
      go_wp2_with fail
      go_ret3
      exact ⟨by rw [HNO.out]; rfl, HB.out⟩

set_option maxHeartbeats 8000000 in
set_option maxRecDepth 100000 in
theorem wrongS_1_1 (gb : Nat) (nn : Int) (G O : Value) (gs : List G3) (os : List Int) (hc : circB nn gs os = true) (w : World) (hX : BX w gb (.int .i8 nn) G O) (hg : GL w G gs) (ho : IL w O os) :
    Calls Tryd.prog 59 #[.pointer (some ⟨gb, 0, none⟩), .int .i64 1, .int .i64 1] w fun e w' => e = .returned (wrV 2 (fstW 1 gs os 2)) ∧ Below w.heap.size w w' := by
  have HC := Lib.hid hc; have HX := Lib.hid hX; have HG := Lib.hid hg; have HO := Lib.hid ho
  clear hc hX hg ho
  go_enter Tryd.func59, Tryd.ntmps59
  go_wp2_with fail
  refine (l07BitsL_1 w).mono ?_
  rintro e w2 ⟨rfl, hww⟩
  subst hww
  go_wp2_with fail
  go_loopw [10] (fun y wr => ∃ a : Nat, y = .int .u16 (a : Int) ∧ a ≤ 4 ∧ Hid (∀ s, s < a * 4 → badT 1 gs os 2 s = false) ∧ Hid (Below w2.heap.size w2 wr)) (fun y _ => 4 - (intOf y).toNat)
  case atStart => exact ⟨0, rfl, by omega, Lib.hid (fun s hs => by omega), Lib.hid (Below.refl _ _)⟩
  case round =>
    obtain ⟨a, rfl, ha, HL, HB⟩ := hrel
    by_cases hlt : a < 4
    · have T1 : (((a : Int) / 4) == 0) = true := by simp; omega
      have T1' : (a : Int) / 4 = 0 := by omega
      have hwa : IntKind.wrap .u16 ((a : Int) + 1) = (a : Int) + 1 := by simp only [IntKind.wrap, show IntKind.u16.bits = 16 from rfl, show IntKind.u16.signed = false from rfl]; simp; omega
      go_wp2_with fail
      go_loopw [11] (fun y wi => ∃ b : Nat, y = .int .u16 (b : Int) ∧ b ≤ 4 ∧ Hid (∀ s, s < a * 4 + b → badT 1 gs os 2 s = false) ∧ Hid (Below w2.heap.size w2 wi)) (fun y _ => 4 - (intOf y).toNat)
      case atStart => exact ⟨0, rfl, by omega, Lib.hid (fun s hs => HL.out s (by omega)), HB⟩
      case round =>
        obtain ⟨b, rfl, hb, HI, HBI⟩ := hrel
        clear HL HB
        by_cases hlt2 : b < 4
        · have T2 : (((b : Int) / 4) == 0) = true := by simp; omega
          have T2' : (b : Int) / 4 = 0 := by omega
          have hwb : IntKind.wrap .u16 ((b : Int) + 1) = (b : Int) + 1 := by simp only [IntKind.wrap, show IntKind.u16.bits = 16 from rfl, show IntKind.u16.signed = false from rfl]; simp; omega
          have HBV := Lib.hid (show bits BinOp.or IntKind.u16 (a : Int) ((b : Int) * 4) = bitv 2 (a : Int) (b : Int) from by
            unfold bitv
            rw [show ((b : Int) * 2 ^ 2) = (b : Int) * 4 from rfl, IntKind.wrap_u16]
            congr 1
            omega)
          have HBT := Lib.hid (badT_at 1 gs os 2 a b hlt2)
          go_wp2_with fail
          refine (ltimes_any (a : Int) (b : Int) (by omega) (by omega) (by omega) (by omega) wr).mono ?_
          rintro e w5 ⟨⟨p1, rfl, HP1, _⟩, hww⟩
          subst hww
          go_wp2_with fail
          rw [HBV.out]
          refine (specRun_any nn gb _ _ gs os HC.out _ (bitv_b 2 (a : Int) (b : Int)) wr (HX.out.below HBI.out) (HG.out.below HBI.out) (HO.out.below HBI.out)).mono ?_
          rintro e w6 ⟨rfl, hb6⟩
          obtain ⟨r1, hr1⟩ : ∃ r1, r1 = runTo (onL (bitv 2 (a : Int) (b : Int)) gs) os os.length := ⟨_, rfl⟩
          rw [← hr1]
          have HB6 := Lib.hid (HBI.out.trans (hb6.mono HBI.out.size))
          have HBP := Lib.hid (show badT 1 gs os 2 (a * 4 + b) = decide (r1 ≠ p1) from by
            have h := HBT.out
            rw [show 2 ^ 2 = 4 from rfl] at h
            rw [h]; unfold badP; rw [← hr1, HP1.out]; rfl)
          clear hb6 hr1 HBT HP1
          by_cases hq : r1 = p1
          · have Tq : (r1 != p1) = false := by rw [hq]; simp
            have HGD := Lib.hid (show badT 1 gs os 2 (a * 4 + b) = false from by rw [HBP.out]; simp [hq])
            clear hq
            go_wp2_with fail
            exact ⟨⟨b + 1, by go_num, by omega, Lib.hid (fun s hs => by
              by_cases he : s = a * 4 + b
              · rw [he]; exact HGD.out
              · exact HI.out s (by omega)), HB6⟩, by simp [intOf]; omega⟩
          · have Tq : (r1 != p1) = true := by simpa using hq
            have HGD := Lib.hid (show fstW 1 gs os 2 = some (a * 4 + b) from fstW_hit (by show _ < 4 * 4; omega) (by rw [HBP.out]; simp [hq]) (fun s hs => HI.out s (by omega)))
            clear hq
            go_wp2_with fail
            go_ret3
            refine ⟨?_, HB6.out⟩
            rw [HGD.out]
            show _ = Ending.returned (.tuple #[.int .u16 (((a * 4 + b) / 2 ^ 2 : Nat) : Int), .int .u16 (((a * 4 + b) % 2 ^ 2 : Nat) : Int), .bool true])
            rw [show (a * 4 + b) / 2 ^ 2 = a from by omega, show (a * 4 + b) % 2 ^ 2 = b from by omega]
            rfl
        · obtain rfl : b = 4 := by omega
          have T2 : (((((4 : Nat) : Int)) / 4) == 0) = false := by decide
          go_wp2_with fail
          exact ⟨⟨a + 1, by go_num, by omega, Lib.hid (fun s hs => HI.out s (by omega)), HBI⟩, by simp [intOf]; omega⟩
    · obtain rfl : a = 4 := by omega
      have T1 : (((((4 : Nat) : Int)) / 4) == 0) = false := by decide
      have HNO := Lib.hid (show fstW 1 gs os 2 = none from fstW_none (fun s hs => HL.out s hs))
      go_wp2_with fail
      go_ret3
      exact ⟨by rw [HNO.out]; rfl, HB.out⟩

set_option maxHeartbeats 8000000 in
set_option maxRecDepth 100000 in
theorem wrongS_1_2 (gb : Nat) (nn : Int) (G O : Value) (gs : List G3) (os : List Int) (hc : circB nn gs os = true) (w : World) (hX : BX w gb (.int .i8 nn) G O) (hg : GL w G gs) (ho : IL w O os) :
    Calls Tryd.prog 59 #[.pointer (some ⟨gb, 0, none⟩), .int .i64 1, .int .i64 2] w fun e w' => e = .returned (wrV 4 (fstW 1 gs os 4)) ∧ Below w.heap.size w w' := by
  have HC := Lib.hid hc; have HX := Lib.hid hX; have HG := Lib.hid hg; have HO := Lib.hid ho
  clear hc hX hg ho
  go_enter Tryd.func59, Tryd.ntmps59
  go_wp2_with fail
  refine (l07BitsL_2 w).mono ?_
  rintro e w2 ⟨rfl, hww⟩
  subst hww
  go_wp2_with fail
  go_loopw [10] (fun y wr => ∃ a : Nat, y = .int .u16 (a : Int) ∧ a ≤ 16 ∧ Hid (∀ s, s < a * 16 → badT 1 gs os 4 s = false) ∧ Hid (Below w2.heap.size w2 wr)) (fun y _ => 16 - (intOf y).toNat)
  case atStart => exact ⟨0, rfl, by omega, Lib.hid (fun s hs => by omega), Lib.hid (Below.refl _ _)⟩
  case round =>
    obtain ⟨a, rfl, ha, HL, HB⟩ := hrel
    by_cases hlt : a < 16
    · have T1 : (((a : Int) / 16) == 0) = true := by simp; omega
      have T1' : (a : Int) / 16 = 0 := by omega
      have hwa : IntKind.wrap .u16 ((a : Int) + 1) = (a : Int) + 1 := by simp only [IntKind.wrap, show IntKind.u16.bits = 16 from rfl, show IntKind.u16.signed = false from rfl]; simp; omega
      go_wp2_with fail
      go_loopw [11] (fun y wi => ∃ b : Nat, y = .int .u16 (b : Int) ∧ b ≤ 16 ∧ Hid (∀ s, s < a * 16 + b → badT 1 gs os 4 s = false) ∧ Hid (Below w2.heap.size w2 wi)) (fun y _ => 16 - (intOf y).toNat)
      case atStart => exact ⟨0, rfl, by omega, Lib.hid (fun s hs => HL.out s (by omega)), HB⟩
      case round =>
        obtain ⟨b, rfl, hb, HI, HBI⟩ := hrel
        clear HL HB
        by_cases hlt2 : b < 16
        · have T2 : (((b : Int) / 16) == 0) = true := by simp; omega
          have T2' : (b : Int) / 16 = 0 := by omega
          have hwb : IntKind.wrap .u16 ((b : Int) + 1) = (b : Int) + 1 := by simp only [IntKind.wrap, show IntKind.u16.bits = 16 from rfl, show IntKind.u16.signed = false from rfl]; simp; omega
          have HBV := Lib.hid (show bits BinOp.or IntKind.u16 (a : Int) ((b : Int) * 16) = bitv 4 (a : Int) (b : Int) from by
            unfold bitv
            rw [show ((b : Int) * 2 ^ 4) = (b : Int) * 16 from rfl, IntKind.wrap_u16]
            congr 1
            omega)
          have HBT := Lib.hid (badT_at 1 gs os 4 a b hlt2)
          go_wp2_with fail
          refine (ltimes_any (a : Int) (b : Int) (by omega) (by omega) (by omega) (by omega) wr).mono ?_
          rintro e w5 ⟨⟨p1, rfl, HP1, _⟩, hww⟩
          subst hww
          go_wp2_with fail
          rw [HBV.out]
          refine (specRun_any nn gb _ _ gs os HC.out _ (bitv_b 4 (a : Int) (b : Int)) wr (HX.out.below HBI.out) (HG.out.below HBI.out) (HO.out.below HBI.out)).mono ?_
          rintro e w6 ⟨rfl, hb6⟩
          obtain ⟨r1, hr1⟩ : ∃ r1, r1 = runTo (onL (bitv 4 (a : Int) (b : Int)) gs) os os.length := ⟨_, rfl⟩
          rw [← hr1]
          have HB6 := Lib.hid (HBI.out.trans (hb6.mono HBI.out.size))
          have HBP := Lib.hid (show badT 1 gs os 4 (a * 16 + b) = decide (r1 ≠ p1) from by
            have h := HBT.out
            rw [show 2 ^ 4 = 16 from rfl] at h
            rw [h]; unfold badP; rw [← hr1, HP1.out]; rfl)
          clear hb6 hr1 HBT HP1
          by_cases hq : r1 = p1
          · have Tq : (r1 != p1) = false := by rw [hq]; simp
            have HGD := Lib.hid (show badT 1 gs os 4 (a * 16 + b) = false from by rw [HBP.out]; simp [hq])
            clear hq
            go_wp2_with fail
            exact ⟨⟨b + 1, by go_num, by omega, Lib.hid (fun s hs => by
              by_cases he : s = a * 16 + b
              · rw [he]; exact HGD.out
              · exact HI.out s (by omega)), HB6⟩, by simp [intOf]; omega⟩
          · have Tq : (r1 != p1) = true := by simpa using hq
            have HGD := Lib.hid (show fstW 1 gs os 4 = some (a * 16 + b) from fstW_hit (by show _ < 16 * 16; omega) (by rw [HBP.out]; simp [hq]) (fun s hs => HI.out s (by omega)))
            clear hq
            go_wp2_with fail
            go_ret3
            refine ⟨?_, HB6.out⟩
            rw [HGD.out]
            show _ = Ending.returned (.tuple #[.int .u16 (((a * 16 + b) / 2 ^ 4 : Nat) : Int), .int .u16 (((a * 16 + b) % 2 ^ 4 : Nat) : Int), .bool true])
            rw [show (a * 16 + b) / 2 ^ 4 = a from by omega, show (a * 16 + b) % 2 ^ 4 = b from by omega]
            rfl
        · obtain rfl : b = 16 := by omega
          have T2 : (((((16 : Nat) : Int)) / 16) == 0) = false := by decide
          go_wp2_with fail
          exact ⟨⟨a + 1, by go_num, by omega, Lib.hid (fun s hs => HI.out s (by omega)), HBI⟩, by simp [intOf]; omega⟩
    · obtain rfl : a = 16 := by omega
      have T1 : (((((16 : Nat) : Int)) / 16) == 0) = false := by decide
      have HNO := Lib.hid (show fstW 1 gs os 4 = none from fstW_none (fun s hs => HL.out s hs))
      go_wp2_with fail
      go_ret3
      exact ⟨by rw [HNO.out]; rfl, HB.out⟩

end Go.Proofs.YtedcfmdgcafnmaaDoor
