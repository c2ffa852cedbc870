/-
  Claims about circuits.
-/
import Derived.Test.YtedcfmdgcafnmaaDoorCi
import Derived.Test.YtedcfmdgcafnmaaDoorDa
import Derived.Test.YtedcfmdgcafnmaaDoorField
namespace Go.Proofs.YtedcfmdgcafnmaaDoor
set_option linter.unusedVariables false
set_option linter.unusedSimpArgs false
open Go.ChangeShapes Go.WideShapes Go.ChangeAt Go.RowKit Go.Deep

/-- what a claim makes of two nimbers; whether a pair keeps it; the first pair that does not -/
def prd (cl a b : Int) : Int := if cl = 0 then xorI a b else mulI a b
def bitv (n : Nat) (a b : Int) : Int := Go.bits BinOp.or .u16 a (IntKind.wrap .u16 (b * 2 ^ n))
def badP (cl : Int) (gs : List G3) (os : List Int) (n : Nat) (a b : Int) : Bool := decide (runTo (onL (bitv n a b) gs) os os.length ≠ prd cl a b)
def badT (cl : Int) (gs : List G3) (os : List Int) (n : Nat) (t : Nat) : Bool := badP cl gs os n ((t / 2 ^ n : Nat) : Int) ((t % 2 ^ n : Nat) : Int)
def fstW (cl : Int) (gs : List G3) (os : List Int) (n : Nat) : Option Nat := (List.range (2 ^ n * 2 ^ n)).find? (badT cl gs os n)
theorem bitv_b (n : Nat) (a b : Int) : 0 ≤ bitv n a b ∧ bitv n a b < 65536 := by
  have h : ∃ z : Int, bitv n a b = IntKind.wrap .u16 z := ⟨_, rfl⟩
  obtain ⟨z, hz⟩ := h
  rw [hz, IntKind.wrap_u16]
  omega
theorem badT_at (cl : Int) (gs : List G3) (os : List Int) (n a b : Nat) (hb : b < 2 ^ n) : badT cl gs os n (a * 2 ^ n + b) = badP cl gs os n (a : Int) (b : Int) := by
  unfold badT
  rw [show (a * 2 ^ n + b) / 2 ^ n = a from by rw [Nat.mul_comm, Nat.mul_add_div (by omega), Nat.div_eq_of_lt hb, Nat.add_zero], show (a * 2 ^ n + b) % 2 ^ n = b from by rw [Nat.mul_comm, Nat.mul_add_mod, Nat.mod_eq_of_lt hb]]
theorem fstW_hit {cl : Int} {gs : List G3} {os : List Int} {n t : Nat} (ht : t < 2 ^ n * 2 ^ n) (hp : badT cl gs os n t = true) (hl : ∀ s, s < t → badT cl gs os n s = false) : fstW cl gs os n = some t := by
  unfold fstW
  rw [List.find?_range_eq_some]
  exact ⟨hp, List.mem_range.2 ht, fun s hs => by rw [hl s hs]; rfl⟩
theorem fstW_none {cl : Int} {gs : List G3} {os : List Int} {n : Nat} (hl : ∀ s, s < 2 ^ n * 2 ^ n → badT cl gs os n s = false) : fstW cl gs os n = none := by
  unfold fstW
  rw [List.find?_eq_none]
  intro s hs
  rw [hl s (List.mem_range.1 hs)]
  simp
def clB (cl level : Int) : Bool := decide ((cl = 0 ∨ cl = 1) ∧ 0 ≤ level ∧ level ≤ 2)
def fitB (n : Int) (os : List Int) (level : Int) : Bool := decide (n = 2 * (2 ^ level.toNat : Nat) ∧ os.length = 2 ^ level.toNat)
/-- what is said of the first pair that does not keep a claim -/
def ccW (n : Nat) : Option Nat → Value
  | none => .nilIface
  | some t => .iface 91 (.agg #[.int .u16 ((t / 2 ^ n : Nat) : Int), .int .u16 ((t % 2 ^ n : Nat) : Int)])

theorem range3v {w : World} {g : Nat} {a b c : Value} (h0 : w.cell? ⟨g, 0, none⟩ = some a) (h1 : w.cell? ⟨g, 1, none⟩ = some b) (h2 : w.cell? ⟨g, 2, none⟩ = some c) : w.rangeAt g 0 [a, b, c] := fun j u hu => by
  match j, hu with
  | 0, hu => cases hu; exact h0
  | 1, hu => cases hu; exact h1
  | 2, hu => cases hu; exact h2
  | j + 3, hu => simp at hu

theorem claimed_0 (a : Int) (w : World) : Calls Tryd.prog 111 #[.int .u16 a, .int .i64 0] w fun e w' => e = .returned (.func (Fn.func 143) #[.int .u16 a] #[]) ∧ w' = w := by
  go_enter Tryd.func111, Tryd.ntmps111
  go_wp2_with fail
  go_ret
  exact ⟨rfl, rfl⟩

theorem claimed_1 (a : Int) (w : World) : Calls Tryd.prog 111 #[.int .u16 a, .int .i64 1] w fun e w' => e = .returned (.func (Fn.func 144) #[.int .u16 a] #[]) ∧ w' = w := by
  go_enter Tryd.func111, Tryd.ntmps111
  go_wp2_with fail
  go_ret
  exact ⟨rfl, rfl⟩

set_option maxHeartbeats 8000000 in
set_option maxRecDepth 100000 in
theorem check_0_0 (v : Value) (nn : Int) (hN : nn = 2) (gs : List G3) (os : List Int) (hc : circB nn gs os = true) (hol : os.length = 1) (w : World) (h : CI w v nn gs os) :
    Calls Tryd.prog 60 #[v, .int .i64 0, .int .i64 0] w fun e w' => e = .returned (ccW 1 (fstW 0 gs os 1)) ∧ Below w.heap.size w w' := by
  have H := Lib.hid h
  obtain ⟨G, O, rfl, hn, hg, ho⟩ := h
  have HG := Lib.hid hg; have HO := Lib.hid ho
  obtain ⟨A, c, rfl⟩ := hg.form
  obtain ⟨A2, c2, rfl⟩ := ho.form
  have HC := Lib.hid hc; have HOL := Lib.hid hol
  have q1 : (nn != 2) = false := by rw [hN]; rfl
  have q2 : ((os.length : Int) != 1) = false := by rw [hol]; rfl
  clear hg ho hc hN hol
  obtain ⟨z1, z2, z3⟩ := nw1 w (.cells #[.int .i8 nn, .slice A gs.length c, .slice A2 os.length c2] 30)
  go_enter Tryd.func60, Tryd.ntmps60
  go_wp2_with fail
  generalize World.alloc w _ = w1 at z1 z2 z3 ⊢
  refine (openCircuit_any nn _ _ gs os w1 (H.out.below z2)).mono ?_
  rintro e w2 ⟨rfl, hb⟩
  have HB2 := Lib.hid (z2.trans (hb.mono z2.size))
  simp only [opW, HC.out, if_true]
  clear z1 z2 z3 hb
  obtain ⟨y1, y2, y3⟩ := nw1 w2 (.cells #[.slice A gs.length c, .int .i8 nn, .slice A2 os.length c2] 74)
  go_upto_region 6 with fail
  generalize World.alloc w2 _ = w3 at y1 y2 y3 ⊢
  obtain ⟨tb, htb⟩ : ∃ tb, tb = w2.heap.size := ⟨_, rfl⟩
  rw [← htb] at y1 ⊢
  have x3 : BX w3 tb (.slice A gs.length c) (.int .i8 nn) (.slice A2 os.length c2) := ⟨_, y1⟩
  have X3 := Lib.hid x3
  have HB3 := Lib.hid (HB2.out.trans (y2.mono HB2.out.size))
  have c0 := x3.c0; have c1 := x3.c1; have c2' := x3.c2
  clear y1 y2 y3 htb x3
  go_wp2_with fail
  clear c0 c1 c2'
  go_loopw [58] (fun y wr => ∃ a : Nat, y = .int .u16 (a : Int) ∧ a ≤ 2 ∧ Hid (∀ s, s < a * 2 → badT 0 gs os 1 s = false) ∧ Hid (Below w3.heap.size w3 wr)) (fun y _ => 2 - (intOf y).toNat)
  case atStart => exact ⟨0, rfl, by omega, Lib.hid (fun s hs => by omega), Lib.hid (Below.refl _ _)⟩
  case round =>
    obtain ⟨a, rfl, ha, HL, HB⟩ := hrel
    by_cases hlt : a < 2
    · have T1 : decide ((a : Int) < 2) = true := by simp; omega
      have hwa : IntKind.wrap .u16 ((a : Int) + 1) = (a : Int) + 1 := by simp only [IntKind.wrap, show IntKind.u16.bits = 16 from rfl, show IntKind.u16.signed = false from rfl]; simp; omega
      go_wp2_with fail
      refine (claimed_0 (a : Int) wr).mono ?_
      rintro e w5 ⟨rfl, hww⟩
      subst hww
      go_wp2_with fail
      go_loopw [65] (fun y wi => ∃ b : Nat, y = .int .u16 (b : Int) ∧ b ≤ 2 ∧ Hid (∀ s, s < a * 2 + b → badT 0 gs os 1 s = false) ∧ Hid (Below w3.heap.size w3 wi)) (fun y _ => 2 - (intOf y).toNat)
      case atStart => exact ⟨0, rfl, by omega, Lib.hid (fun s hs => HL.out s (by omega)), HB⟩
      case round =>
        obtain ⟨b, rfl, hb, HI, HBI⟩ := hrel
        clear HL HB
        by_cases hlt2 : b < 2
        · have T2 : decide ((b : Int) < 2) = true := by simp; omega
          have hwb : IntKind.wrap .u16 ((b : Int) + 1) = (b : Int) + 1 := by simp only [IntKind.wrap, show IntKind.u16.bits = 16 from rfl, show IntKind.u16.signed = false from rfl]; simp; omega
          have HS0 := Lib.hid (fun (W : World) (hW : Below w3.heap.size w3 W) => show W.rangeAt tb 0 [.slice A gs.length c, .int .i8 nn, .slice A2 os.length c2] from range3v (X3.out.below hW).c0 (X3.out.below hW).c1 (X3.out.below hW).c2)
          go_upto_region 17 with fail
          refine wp_region_held_drew (S := fun u => u.rangeAt tb 0 [.slice A gs.length c, .int .i8 nn, .slice A2 os.length c2]) (by kernel_rfl) ?hS0 (fun hS => ?_)
          case hS0 => exact HS0.out _ (bdr HBI.out 1)
          have HBD : Hid (Below w3.heap.size w3 wr.drew) := Lib.hid (bdr HBI.out 1)
          generalize wr.drew = wd at hS HBD ⊢
          refine takeHd (i := 0) (v := .agg #[.slice A gs.length c, .int .i8 nn, .slice A2 os.length c2]) rfl rfl (by kernel_rfl) (by kernel_rfl) (by kernel_rfl) (fun _ _ _ h => h) rfl ?hy0 hS ?rs0
          case hy0 => exact fun wq hq => exec_load_midd 74 _ rfl tb 0 rfl [.slice A gs.length c, .int .i8 nn, .slice A2 os.length c2] _ hq Tryd.underlying74 rfl (by kernel_rfl)
          simp only [Act.put, List.setIfInBounds_toArray, List.set_cons_zero, List.set_cons_succ]
          refine takeHd (i := 1) (v := ?v1) rfl rfl (by kernel_rfl) (by kernel_rfl) (by kernel_rfl) (fun _ _ _ h => h) rfl ?hy1 hS ?rs1
          case hy1 => (intro wq hq; go_simp; try (with_reducible rfl))
          simp only [Act.put, List.setIfInBounds_toArray, List.set_cons_zero, List.set_cons_succ]
          refine takeHd (i := 2) (v := ?v2) rfl rfl (by kernel_rfl) (by kernel_rfl) (by kernel_rfl) (fun _ _ _ h => h) rfl ?hy2 hS ?rs2
          case hy2 => (intro wq hq; go_simp; try (with_reducible rfl))
          simp only [Act.put, List.setIfInBounds_toArray, List.set_cons_zero, List.set_cons_succ]
          refine takeHd (i := 3) (v := ?v3) rfl rfl (by kernel_rfl) (by kernel_rfl) (by kernel_rfl) (fun _ _ _ h => h) rfl ?hy3 hS ?rs3
          case hy3 => (intro wq hq; go_simp; try (with_reducible rfl))
          simp only [Act.put, List.setIfInBounds_toArray, List.set_cons_zero, List.set_cons_succ]
          refine takeHd (i := 4) (v := ?v4) rfl rfl (by kernel_rfl) (by kernel_rfl) (by kernel_rfl) (fun _ _ _ h => h) rfl ?hy4 hS ?rs4
          case hy4 => (intro wq hq; go_simp; try (with_reducible rfl))
          simp only [Act.put, List.setIfInBounds_toArray, List.set_cons_zero, List.set_cons_succ]
          refine takeHd (i := 5) (v := ?v5) rfl rfl (by kernel_rfl) (by kernel_rfl) (by kernel_rfl) (fun _ _ _ h => h) rfl ?hy5 hS ?rs5
          case hy5 => (intro wq hq; go_simp; try (with_reducible rfl))
          simp only [Act.put, List.setIfInBounds_toArray, List.set_cons_zero, List.set_cons_succ]
          refine takeHd (i := 7) (v := ?v7) rfl rfl (by kernel_rfl) (by kernel_rfl) (by kernel_rfl) (fun _ _ _ h => h) rfl ?hy7 hS ?rs7
          case hy7 => (intro wq hq; go_simp; try (with_reducible rfl))
          simp only [Act.put, List.setIfInBounds_toArray, List.set_cons_zero, List.set_cons_succ]
          refine takeHd (i := 8) (v := ?v8) rfl rfl (by kernel_rfl) (by kernel_rfl) (by kernel_rfl) (fun _ _ _ h => h) rfl ?hy8 hS ?rs8
          case hy8 => (intro wq hq; go_simp; try (with_reducible rfl))
          simp only [Act.put, List.setIfInBounds_toArray, List.set_cons_zero, List.set_cons_succ]
          refine wpAnyH_ready (rs := [6]) (by kernel_rfl) (by simp) ?_
          refine AllReadyH.cons rfl (fun K hK => ?_) AllReadyH.nil
          go_simp
          rw [show bits BinOp.or IntKind.u16 (a : Int) (IntKind.u16.wrap ((b : Int) * 2)) = bitv 1 (a : Int) (b : Int) from rfl]
          have hbt := badT_at 0 gs os 1 a b hlt2
          refine (implRun_any nn _ _ gs os HC.out _ (bitv_b 1 (a : Int) (b : Int)) wd (HG.out.below (HB3.out.trans (HBD.out.mono HB3.out.size))) (HO.out.below (HB3.out.trans (HBD.out.mono HB3.out.size)))).mono ?_
          rintro e w6 ⟨rfl, hb6⟩
          obtain ⟨r1, hr1⟩ : ∃ r1, r1 = runTo (onL (bitv 1 (a : Int) (b : Int)) gs) os os.length := ⟨_, rfl⟩
          rw [← hr1]
          have HB6 := Lib.hid (HBD.out.trans (hb6.mono HBD.out.size))
          have HR1 := Lib.hid hr1; have HBT := Lib.hid hbt
          clear hb6 hr1 hbt HBD
          refine hK.out _ w6 (HS0.out _ HB6.out) (fun hS => ?_)
          clear hK
          try simp only [Act.put, List.setIfInBounds_toArray, List.set_cons_zero, List.set_cons_succ]
          refine wpAnyH_ready (rs := [9]) (by kernel_rfl) (by simp) ?_
          refine AllReadyH.cons rfl (fun K hK => ?_) AllReadyH.nil
          go_simp
          refine (plus_any 65536 (by decide) (a : Int) (b : Int) (by omega) (by omega) (by omega) (by omega) w6).mono ?_
          rintro e w7 ⟨⟨p1, rfl, hp1, _⟩, hww⟩
          subst hww
          have HBP := Lib.hid (show badT 0 gs os 1 (a * 2 + b) = decide (r1 ≠ p1) from by
            have h := HBT.out
            rw [show 2 ^ 1 = 2 from rfl] at h
            rw [h]; unfold badP; rw [← HR1.out, hp1.out]; rfl)
          clear HBT hp1
          refine hK.out _ w6 (HS0.out _ HB6.out) (fun hS => ?_)
          clear hK
          try simp only [Act.put, List.setIfInBounds_toArray, List.set_cons_zero, List.set_cons_succ]
          refine takeHd (i := 10) (v := ?v10) rfl rfl (by kernel_rfl) (by kernel_rfl) (by kernel_rfl) (fun _ _ _ h => h) rfl ?hy10 hS ?rs10
          case hy10 => (intro wq hq; go_simp; try (with_reducible rfl))
          simp only [Act.put, List.setIfInBounds_toArray, List.set_cons_zero, List.set_cons_succ]
          refine wpAnyH_done (by kernel_rfl) ?_ _
          clear hS
          by_cases hq : r1 = p1
          · have Tq : (r1 != p1) = false := by rw [hq]; simp
            have HGD := Lib.hid (show badT 0 gs os 1 (a * 2 + b) = false from by rw [HBP.out]; simp [hq])
            clear hq
            go_wp2_with fail
            exact ⟨⟨b + 1, by go_num, by omega, Lib.hid (fun s hs => by
              by_cases he : s = a * 2 + b
              · rw [he]; exact HGD.out
              · exact HI.out s (by omega)), HB6⟩, by simp [intOf]; omega⟩
          · have Tq : (r1 != p1) = true := by simpa using hq
            have HGD := Lib.hid (show fstW 0 gs os 1 = some (a * 2 + b) from fstW_hit (by show _ < 2 * 2; omega) (by rw [HBP.out]; simp [hq]) (fun s hs => HI.out s (by omega)))
            clear hq
            go_wp2_with fail
            go_ret
            refine ⟨?_, HB3.out.trans (HB6.out.mono HB3.out.size)⟩
            rw [HGD.out]
            show _ = Ending.returned (.iface 91 (.agg #[.int .u16 (((a * 2 + b) / 2 ^ 1 : Nat) : Int), .int .u16 (((a * 2 + b) % 2 ^ 1 : Nat) : Int)]))
            rw [show (a * 2 + b) / 2 ^ 1 = a from by omega, show (a * 2 + b) % 2 ^ 1 = b from by omega]
            rfl
        · obtain rfl : b = 2 := by omega
          have T2 : decide (((2 : Nat) : Int) < 2) = false := by simp
          go_wp2_with fail
          exact ⟨⟨a + 1, by go_num, by omega, Lib.hid (fun s hs => HI.out s (by omega)), HBI⟩, by simp [intOf]; omega⟩
    · obtain rfl : a = 2 := by omega
      have T1 : decide (((2 : Nat) : Int) < 2) = false := by simp
      have HNO := Lib.hid (show fstW 0 gs os 1 = none from fstW_none (fun s hs => HL.out s hs))
      go_wp2_with fail
      go_ret
      exact ⟨by rw [HNO.out]; rfl, HB3.out.trans (HB.out.mono HB3.out.size)⟩

set_option maxHeartbeats 8000000 in
set_option maxRecDepth 100000 in
theorem check_0_1 (v : Value) (nn : Int) (hN : nn = 4) (gs : List G3) (os : List Int) (hc : circB nn gs os = true) (hol : os.length = 2) (w : World) (h : CI w v nn gs os) :
    Calls Tryd.prog 60 #[v, .int .i64 0, .int .i64 1] w fun e w' => e = .returned (ccW 2 (fstW 0 gs os 2)) ∧ Below w.heap.size w w' := by
  have H := Lib.hid h
  obtain ⟨G, O, rfl, hn, hg, ho⟩ := h
  have HG := Lib.hid hg; have HO := Lib.hid ho
  obtain ⟨A, c, rfl⟩ := hg.form
  obtain ⟨A2, c2, rfl⟩ := ho.form
  have HC := Lib.hid hc; have HOL := Lib.hid hol
  have q1 : (nn != 4) = false := by rw [hN]; rfl
  have q2 : ((os.length : Int) != 2) = false := by rw [hol]; rfl
  clear hg ho hc hN hol
  obtain ⟨z1, z2, z3⟩ := nw1 w (.cells #[.int .i8 nn, .slice A gs.length c, .slice A2 os.length c2] 30)
  go_enter Tryd.func60, Tryd.ntmps60
  go_wp2_with fail
  generalize World.alloc w _ = w1 at z1 z2 z3 ⊢
  refine (openCircuit_any nn _ _ gs os w1 (H.out.below z2)).mono ?_
  rintro e w2 ⟨rfl, hb⟩
  have HB2 := Lib.hid (z2.trans (hb.mono z2.size))
  simp only [opW, HC.out, if_true]
  clear z1 z2 z3 hb
  obtain ⟨y1, y2, y3⟩ := nw1 w2 (.cells #[.slice A gs.length c, .int .i8 nn, .slice A2 os.length c2] 74)
  go_upto_region 6 with fail
  generalize World.alloc w2 _ = w3 at y1 y2 y3 ⊢
  obtain ⟨tb, htb⟩ : ∃ tb, tb = w2.heap.size := ⟨_, rfl⟩
  rw [← htb] at y1 ⊢
  have x3 : BX w3 tb (.slice A gs.length c) (.int .i8 nn) (.slice A2 os.length c2) := ⟨_, y1⟩
  have X3 := Lib.hid x3
  have HB3 := Lib.hid (HB2.out.trans (y2.mono HB2.out.size))
  have c0 := x3.c0; have c1 := x3.c1; have c2' := x3.c2
  clear y1 y2 y3 htb x3
  go_wp2_with fail
  clear c0 c1 c2'
  go_loopw [58] (fun y wr => ∃ a : Nat, y = .int .u16 (a : Int) ∧ a ≤ 4 ∧ Hid (∀ s, s < a * 4 → badT 0 gs os 2 s = false) ∧ Hid (Below w3.heap.size w3 wr)) (fun y _ => 4 - (intOf y).toNat)
  case atStart => exact ⟨0, rfl, by omega, Lib.hid (fun s hs => by omega), Lib.hid (Below.refl _ _)⟩
  case round =>
    obtain ⟨a, rfl, ha, HL, HB⟩ := hrel
    by_cases hlt : a < 4
    · have T1 : decide ((a : Int) < 4) = true := by simp; omega
      have hwa : IntKind.wrap .u16 ((a : Int) + 1) = (a : Int) + 1 := by simp only [IntKind.wrap, show IntKind.u16.bits = 16 from rfl, show IntKind.u16.signed = false from rfl]; simp; omega
      go_wp2_with fail
      refine (claimed_0 (a : Int) wr).mono ?_
      rintro e w5 ⟨rfl, hww⟩
      subst hww
      go_wp2_with fail
      go_loopw [65] (fun y wi => ∃ b : Nat, y = .int .u16 (b : Int) ∧ b ≤ 4 ∧ Hid (∀ s, s < a * 4 + b → badT 0 gs os 2 s = false) ∧ Hid (Below w3.heap.size w3 wi)) (fun y _ => 4 - (intOf y).toNat)
      case atStart => exact ⟨0, rfl, by omega, Lib.hid (fun s hs => HL.out s (by omega)), HB⟩
      case round =>
        obtain ⟨b, rfl, hb, HI, HBI⟩ := hrel
        clear HL HB
        by_cases hlt2 : b < 4
        · have T2 : decide ((b : Int) < 4) = true := by simp; omega
          have hwb : IntKind.wrap .u16 ((b : Int) + 1) = (b : Int) + 1 := by simp only [IntKind.wrap, show IntKind.u16.bits = 16 from rfl, show IntKind.u16.signed = false from rfl]; simp; omega
          have HS0 := Lib.hid (fun (W : World) (hW : Below w3.heap.size w3 W) => show W.rangeAt tb 0 [.slice A gs.length c, .int .i8 nn, .slice A2 os.length c2] from range3v (X3.out.below hW).c0 (X3.out.below hW).c1 (X3.out.below hW).c2)
          go_upto_region 17 with fail
          refine wp_region_held_drew (S := fun u => u.rangeAt tb 0 [.slice A gs.length c, .int .i8 nn, .slice A2 os.length c2]) (by kernel_rfl) ?hS0 (fun hS => ?_)
          case hS0 => exact HS0.out _ (bdr HBI.out 1)
          have HBD : Hid (Below w3.heap.size w3 wr.drew) := Lib.hid (bdr HBI.out 1)
          generalize wr.drew = wd at hS HBD ⊢
          refine takeHd (i := 0) (v := .agg #[.slice A gs.length c, .int .i8 nn, .slice A2 os.length c2]) rfl rfl (by kernel_rfl) (by kernel_rfl) (by kernel_rfl) (fun _ _ _ h => h) rfl ?hy0 hS ?rs0
          case hy0 => exact fun wq hq => exec_load_midd 74 _ rfl tb 0 rfl [.slice A gs.length c, .int .i8 nn, .slice A2 os.length c2] _ hq Tryd.underlying74 rfl (by kernel_rfl)
          simp only [Act.put, List.setIfInBounds_toArray, List.set_cons_zero, List.set_cons_succ]
          refine takeHd (i := 1) (v := ?v1) rfl rfl (by kernel_rfl) (by kernel_rfl) (by kernel_rfl) (fun _ _ _ h => h) rfl ?hy1 hS ?rs1
          case hy1 => (intro wq hq; go_simp; try (with_reducible rfl))
          simp only [Act.put, List.setIfInBounds_toArray, List.set_cons_zero, List.set_cons_succ]
          refine takeHd (i := 2) (v := ?v2) rfl rfl (by kernel_rfl) (by kernel_rfl) (by kernel_rfl) (fun _ _ _ h => h) rfl ?hy2 hS ?rs2
          case hy2 => (intro wq hq; go_simp; try (with_reducible rfl))
          simp only [Act.put, List.setIfInBounds_toArray, List.set_cons_zero, List.set_cons_succ]
          refine takeHd (i := 3) (v := ?v3) rfl rfl (by kernel_rfl) (by kernel_rfl) (by kernel_rfl) (fun _ _ _ h => h) rfl ?hy3 hS ?rs3
          case hy3 => (intro wq hq; go_simp; try (with_reducible rfl))
          simp only [Act.put, List.setIfInBounds_toArray, List.set_cons_zero, List.set_cons_succ]
          refine takeHd (i := 4) (v := ?v4) rfl rfl (by kernel_rfl) (by kernel_rfl) (by kernel_rfl) (fun _ _ _ h => h) rfl ?hy4 hS ?rs4
          case hy4 => (intro wq hq; go_simp; try (with_reducible rfl))
          simp only [Act.put, List.setIfInBounds_toArray, List.set_cons_zero, List.set_cons_succ]
          refine takeHd (i := 5) (v := ?v5) rfl rfl (by kernel_rfl) (by kernel_rfl) (by kernel_rfl) (fun _ _ _ h => h) rfl ?hy5 hS ?rs5
          case hy5 => (intro wq hq; go_simp; try (with_reducible rfl))
          simp only [Act.put, List.setIfInBounds_toArray, List.set_cons_zero, List.set_cons_succ]
          refine takeHd (i := 7) (v := ?v7) rfl rfl (by kernel_rfl) (by kernel_rfl) (by kernel_rfl) (fun _ _ _ h => h) rfl ?hy7 hS ?rs7
          case hy7 => (intro wq hq; go_simp; try (with_reducible rfl))
          simp only [Act.put, List.setIfInBounds_toArray, List.set_cons_zero, List.set_cons_succ]
          refine takeHd (i := 8) (v := ?v8) rfl rfl (by kernel_rfl) (by kernel_rfl) (by kernel_rfl) (fun _ _ _ h => h) rfl ?hy8 hS ?rs8
          case hy8 => (intro wq hq; go_simp; try (with_reducible rfl))
          simp only [Act.put, List.setIfInBounds_toArray, List.set_cons_zero, List.set_cons_succ]
          refine wpAnyH_ready (rs := [6]) (by kernel_rfl) (by simp) ?_
          refine AllReadyH.cons rfl (fun K hK => ?_) AllReadyH.nil
          go_simp
          rw [show bits BinOp.or IntKind.u16 (a : Int) (IntKind.u16.wrap ((b : Int) * 4)) = bitv 2 (a : Int) (b : Int) from rfl]
          have hbt := badT_at 0 gs os 2 a b hlt2
          refine (implRun_any nn _ _ gs os HC.out _ (bitv_b 2 (a : Int) (b : Int)) wd (HG.out.below (HB3.out.trans (HBD.out.mono HB3.out.size))) (HO.out.below (HB3.out.trans (HBD.out.mono HB3.out.size)))).mono ?_
          rintro e w6 ⟨rfl, hb6⟩
          obtain ⟨r1, hr1⟩ : ∃ r1, r1 = runTo (onL (bitv 2 (a : Int) (b : Int)) gs) os os.length := ⟨_, rfl⟩
          rw [← hr1]
          have HB6 := Lib.hid (HBD.out.trans (hb6.mono HBD.out.size))
          have HR1 := Lib.hid hr1; have HBT := Lib.hid hbt
          clear hb6 hr1 hbt HBD
          refine hK.out _ w6 (HS0.out _ HB6.out) (fun hS => ?_)
          clear hK
          try simp only [Act.put, List.setIfInBounds_toArray, List.set_cons_zero, List.set_cons_succ]
          refine wpAnyH_ready (rs := [9]) (by kernel_rfl) (by simp) ?_
          refine AllReadyH.cons rfl (fun K hK => ?_) AllReadyH.nil
          go_simp
          refine (plus_any 65536 (by decide) (a : Int) (b : Int) (by omega) (by omega) (by omega) (by omega) w6).mono ?_
          rintro e w7 ⟨⟨p1, rfl, hp1, _⟩, hww⟩
          subst hww
          have HBP := Lib.hid (show badT 0 gs os 2 (a * 4 + b) = decide (r1 ≠ p1) from by
            have h := HBT.out
            rw [show 2 ^ 2 = 4 from rfl] at h
            rw [h]; unfold badP; rw [← HR1.out, hp1.out]; rfl)
          clear HBT hp1
          refine hK.out _ w6 (HS0.out _ HB6.out) (fun hS => ?_)
          clear hK
          try simp only [Act.put, List.setIfInBounds_toArray, List.set_cons_zero, List.set_cons_succ]
          refine takeHd (i := 10) (v := ?v10) rfl rfl (by kernel_rfl) (by kernel_rfl) (by kernel_rfl) (fun _ _ _ h => h) rfl ?hy10 hS ?rs10
          case hy10 => (intro wq hq; go_simp; try (with_reducible rfl))
          simp only [Act.put, List.setIfInBounds_toArray, List.set_cons_zero, List.set_cons_succ]
          refine wpAnyH_done (by kernel_rfl) ?_ _
          clear hS
          by_cases hq : r1 = p1
          · have Tq : (r1 != p1) = false := by rw [hq]; simp
            have HGD := Lib.hid (show badT 0 gs os 2 (a * 4 + b) = false from by rw [HBP.out]; simp [hq])
            clear hq
            go_wp2_with fail
            exact ⟨⟨b + 1, by go_num, by omega, Lib.hid (fun s hs => by
              by_cases he : s = a * 4 + b
              · rw [he]; exact HGD.out
              · exact HI.out s (by omega)), HB6⟩, by simp [intOf]; omega⟩
          · have Tq : (r1 != p1) = true := by simpa using hq
            have HGD := Lib.hid (show fstW 0 gs os 2 = some (a * 4 + b) from fstW_hit (by show _ < 4 * 4; omega) (by rw [HBP.out]; simp [hq]) (fun s hs => HI.out s (by omega)))
            clear hq
            go_wp2_with fail
            go_ret
            refine ⟨?_, HB3.out.trans (HB6.out.mono HB3.out.size)⟩
            rw [HGD.out]
            show _ = Ending.returned (.iface 91 (.agg #[.int .u16 (((a * 4 + b) / 2 ^ 2 : Nat) : Int), .int .u16 (((a * 4 + b) % 2 ^ 2 : Nat) : Int)]))
            rw [show (a * 4 + b) / 2 ^ 2 = a from by omega, show (a * 4 + b) % 2 ^ 2 = b from by omega]
            rfl
        · obtain rfl : b = 4 := by omega
          have T2 : decide (((4 : Nat) : Int) < 4) = false := by simp
          go_wp2_with fail
          exact ⟨⟨a + 1, by go_num, by omega, Lib.hid (fun s hs => HI.out s (by omega)), HBI⟩, by simp [intOf]; omega⟩
    · obtain rfl : a = 4 := by omega
      have T1 : decide (((4 : Nat) : Int) < 4) = false := by simp
      have HNO := Lib.hid (show fstW 0 gs os 2 = none from fstW_none (fun s hs => HL.out s hs))
      go_wp2_with fail
      go_ret
      exact ⟨by rw [HNO.out]; rfl, HB3.out.trans (HB.out.mono HB3.out.size)⟩

set_option maxHeartbeats 8000000 in
set_option maxRecDepth 100000 in
theorem check_0_2 (v : Value) (nn : Int) (hN : nn = 8) (gs : List G3) (os : List Int) (hc : circB nn gs os = true) (hol : os.length = 4) (w : World) (h : CI w v nn gs os) :
    Calls Tryd.prog 60 #[v, .int .i64 0, .int .i64 2] w fun e w' => e = .returned (ccW 4 (fstW 0 gs os 4)) ∧ Below w.heap.size w w' := by
  have H := Lib.hid h
  obtain ⟨G, O, rfl, hn, hg, ho⟩ := h
  have HG := Lib.hid hg; have HO := Lib.hid ho
  obtain ⟨A, c, rfl⟩ := hg.form
  obtain ⟨A2, c2, rfl⟩ := ho.form
  have HC := Lib.hid hc; have HOL := Lib.hid hol
  have q1 : (nn != 8) = false := by rw [hN]; rfl
  have q2 : ((os.length : Int) != 4) = false := by rw [hol]; rfl
  clear hg ho hc hN hol
  obtain ⟨z1, z2, z3⟩ := nw1 w (.cells #[.int .i8 nn, .slice A gs.length c, .slice A2 os.length c2] 30)
  go_enter Tryd.func60, Tryd.ntmps60
  go_wp2_with fail
  generalize World.alloc w _ = w1 at z1 z2 z3 ⊢
  refine (openCircuit_any nn _ _ gs os w1 (H.out.below z2)).mono ?_
  rintro e w2 ⟨rfl, hb⟩
  have HB2 := Lib.hid (z2.trans (hb.mono z2.size))
  simp only [opW, HC.out, if_true]
  clear z1 z2 z3 hb
  obtain ⟨y1, y2, y3⟩ := nw1 w2 (.cells #[.slice A gs.length c, .int .i8 nn, .slice A2 os.length c2] 74)
  go_upto_region 6 with fail
  generalize World.alloc w2 _ = w3 at y1 y2 y3 ⊢
  obtain ⟨tb, htb⟩ : ∃ tb, tb = w2.heap.size := ⟨_, rfl⟩
  rw [← htb] at y1 ⊢
  have x3 : BX w3 tb (.slice A gs.length c) (.int .i8 nn) (.slice A2 os.length c2) := ⟨_, y1⟩
  have X3 := Lib.hid x3
  have HB3 := Lib.hid (HB2.out.trans (y2.mono HB2.out.size))
  have c0 := x3.c0; have c1 := x3.c1; have c2' := x3.c2
  clear y1 y2 y3 htb x3
  go_wp2_with fail
  clear c0 c1 c2'
  go_loopw [58] (fun y wr => ∃ a : Nat, y = .int .u16 (a : Int) ∧ a ≤ 16 ∧ Hid (∀ s, s < a * 16 → badT 0 gs os 4 s = false) ∧ Hid (Below w3.heap.size w3 wr)) (fun y _ => 16 - (intOf y).toNat)
  case atStart => exact ⟨0, rfl, by omega, Lib.hid (fun s hs => by omega), Lib.hid (Below.refl _ _)⟩
  case round =>
    obtain ⟨a, rfl, ha, HL, HB⟩ := hrel
    by_cases hlt : a < 16
    · have T1 : decide ((a : Int) < 16) = true := by simp; omega
      have hwa : IntKind.wrap .u16 ((a : Int) + 1) = (a : Int) + 1 := by simp only [IntKind.wrap, show IntKind.u16.bits = 16 from rfl, show IntKind.u16.signed = false from rfl]; simp; omega
      go_wp2_with fail
      refine (claimed_0 (a : Int) wr).mono ?_
      rintro e w5 ⟨rfl, hww⟩
      subst hww
      go_wp2_with fail
      go_loopw [65] (fun y wi => ∃ b : Nat, y = .int .u16 (b : Int) ∧ b ≤ 16 ∧ Hid (∀ s, s < a * 16 + b → badT 0 gs os 4 s = false) ∧ Hid (Below w3.heap.size w3 wi)) (fun y _ => 16 - (intOf y).toNat)
      case atStart => exact ⟨0, rfl, by omega, Lib.hid (fun s hs => HL.out s (by omega)), HB⟩
      case round =>
        obtain ⟨b, rfl, hb, HI, HBI⟩ := hrel
        clear HL HB
        by_cases hlt2 : b < 16
        · have T2 : decide ((b : Int) < 16) = true := by simp; omega
          have hwb : IntKind.wrap .u16 ((b : Int) + 1) = (b : Int) + 1 := by simp only [IntKind.wrap, show IntKind.u16.bits = 16 from rfl, show IntKind.u16.signed = false from rfl]; simp; omega
          have HS0 := Lib.hid (fun (W : World) (hW : Below w3.heap.size w3 W) => show W.rangeAt tb 0 [.slice A gs.length c, .int .i8 nn, .slice A2 os.length c2] from range3v (X3.out.below hW).c0 (X3.out.below hW).c1 (X3.out.below hW).c2)
          go_upto_region 17 with fail
          refine wp_region_held_drew (S := fun u => u.rangeAt tb 0 [.slice A gs.length c, .int .i8 nn, .slice A2 os.length c2]) (by kernel_rfl) ?hS0 (fun hS => ?_)
          case hS0 => exact HS0.out _ (bdr HBI.out 1)
          have HBD : Hid (Below w3.heap.size w3 wr.drew) := Lib.hid (bdr HBI.out 1)
          generalize wr.drew = wd at hS HBD ⊢
          refine takeHd (i := 0) (v := .agg #[.slice A gs.length c, .int .i8 nn, .slice A2 os.length c2]) rfl rfl (by kernel_rfl) (by kernel_rfl) (by kernel_rfl) (fun _ _ _ h => h) rfl ?hy0 hS ?rs0
          case hy0 => exact fun wq hq => exec_load_midd 74 _ rfl tb 0 rfl [.slice A gs.length c, .int .i8 nn, .slice A2 os.length c2] _ hq Tryd.underlying74 rfl (by kernel_rfl)
          simp only [Act.put, List.setIfInBounds_toArray, List.set_cons_zero, List.set_cons_succ]
          refine takeHd (i := 1) (v := ?v1) rfl rfl (by kernel_rfl) (by kernel_rfl) (by kernel_rfl) (fun _ _ _ h => h) rfl ?hy1 hS ?rs1
          case hy1 => (intro wq hq; go_simp; try (with_reducible rfl))
          simp only [Act.put, List.setIfInBounds_toArray, List.set_cons_zero, List.set_cons_succ]
          refine takeHd (i := 2) (v := ?v2) rfl rfl (by kernel_rfl) (by kernel_rfl) (by kernel_rfl) (fun _ _ _ h => h) rfl ?hy2 hS ?rs2
          case hy2 => (intro wq hq; go_simp; try (with_reducible rfl))
          simp only [Act.put, List.setIfInBounds_toArray, List.set_cons_zero, List.set_cons_succ]
          refine takeHd (i := 3) (v := ?v3) rfl rfl (by kernel_rfl) (by kernel_rfl) (by kernel_rfl) (fun _ _ _ h => h) rfl ?hy3 hS ?rs3
          case hy3 => (intro wq hq; go_simp; try (with_reducible rfl))
          simp only [Act.put, List.setIfInBounds_toArray, List.set_cons_zero, List.set_cons_succ]
          refine takeHd (i := 4) (v := ?v4) rfl rfl (by kernel_rfl) (by kernel_rfl) (by kernel_rfl) (fun _ _ _ h => h) rfl ?hy4 hS ?rs4
          case hy4 => (intro wq hq; go_simp; try (with_reducible rfl))
          simp only [Act.put, List.setIfInBounds_toArray, List.set_cons_zero, List.set_cons_succ]
          refine takeHd (i := 5) (v := ?v5) rfl rfl (by kernel_rfl) (by kernel_rfl) (by kernel_rfl) (fun _ _ _ h => h) rfl ?hy5 hS ?rs5
          case hy5 => (intro wq hq; go_simp; try (with_reducible rfl))
          simp only [Act.put, List.setIfInBounds_toArray, List.set_cons_zero, List.set_cons_succ]
          refine takeHd (i := 7) (v := ?v7) rfl rfl (by kernel_rfl) (by kernel_rfl) (by kernel_rfl) (fun _ _ _ h => h) rfl ?hy7 hS ?rs7
          case hy7 => (intro wq hq; go_simp; try (with_reducible rfl))
          simp only [Act.put, List.setIfInBounds_toArray, List.set_cons_zero, List.set_cons_succ]
          refine takeHd (i := 8) (v := ?v8) rfl rfl (by kernel_rfl) (by kernel_rfl) (by kernel_rfl) (fun _ _ _ h => h) rfl ?hy8 hS ?rs8
          case hy8 => (intro wq hq; go_simp; try (with_reducible rfl))
          simp only [Act.put, List.setIfInBounds_toArray, List.set_cons_zero, List.set_cons_succ]
          refine wpAnyH_ready (rs := [6]) (by kernel_rfl) (by simp) ?_
          refine AllReadyH.cons rfl (fun K hK => ?_) AllReadyH.nil
          go_simp
          rw [show bits BinOp.or IntKind.u16 (a : Int) (IntKind.u16.wrap ((b : Int) * 16)) = bitv 4 (a : Int) (b : Int) from rfl]
          have hbt := badT_at 0 gs os 4 a b hlt2
          refine (implRun_any nn _ _ gs os HC.out _ (bitv_b 4 (a : Int) (b : Int)) wd (HG.out.below (HB3.out.trans (HBD.out.mono HB3.out.size))) (HO.out.below (HB3.out.trans (HBD.out.mono HB3.out.size)))).mono ?_
          rintro e w6 ⟨rfl, hb6⟩
          obtain ⟨r1, hr1⟩ : ∃ r1, r1 = runTo (onL (bitv 4 (a : Int) (b : Int)) gs) os os.length := ⟨_, rfl⟩
          rw [← hr1]
          have HB6 := Lib.hid (HBD.out.trans (hb6.mono HBD.out.size))
          have HR1 := Lib.hid hr1; have HBT := Lib.hid hbt
          clear hb6 hr1 hbt HBD
          refine hK.out _ w6 (HS0.out _ HB6.out) (fun hS => ?_)
          clear hK
          try simp only [Act.put, List.setIfInBounds_toArray, List.set_cons_zero, List.set_cons_succ]
          refine wpAnyH_ready (rs := [9]) (by kernel_rfl) (by simp) ?_
          refine AllReadyH.cons rfl (fun K hK => ?_) AllReadyH.nil
          go_simp
          refine (plus_any 65536 (by decide) (a : Int) (b : Int) (by omega) (by omega) (by omega) (by omega) w6).mono ?_
          rintro e w7 ⟨⟨p1, rfl, hp1, _⟩, hww⟩
          subst hww
          have HBP := Lib.hid (show badT 0 gs os 4 (a * 16 + b) = decide (r1 ≠ p1) from by
            have h := HBT.out
            rw [show 2 ^ 4 = 16 from rfl] at h
            rw [h]; unfold badP; rw [← HR1.out, hp1.out]; rfl)
          clear HBT hp1
          refine hK.out _ w6 (HS0.out _ HB6.out) (fun hS => ?_)
          clear hK
          try simp only [Act.put, List.setIfInBounds_toArray, List.set_cons_zero, List.set_cons_succ]
          refine takeHd (i := 10) (v := ?v10) rfl rfl (by kernel_rfl) (by kernel_rfl) (by kernel_rfl) (fun _ _ _ h => h) rfl ?hy10 hS ?rs10
          case hy10 => (intro wq hq; go_simp; try (with_reducible rfl))
          simp only [Act.put, List.setIfInBounds_toArray, List.set_cons_zero, List.set_cons_succ]
          refine wpAnyH_done (by kernel_rfl) ?_ _
          clear hS
          by_cases hq : r1 = p1
          · have Tq : (r1 != p1) = false := by rw [hq]; simp
            have HGD := Lib.hid (show badT 0 gs os 4 (a * 16 + b) = false from by rw [HBP.out]; simp [hq])
            clear hq
            go_wp2_with fail
            exact ⟨⟨b + 1, by go_num, by omega, Lib.hid (fun s hs => by
              by_cases he : s = a * 16 + b
              · rw [he]; exact HGD.out
              · exact HI.out s (by omega)), HB6⟩, by simp [intOf]; omega⟩
          · have Tq : (r1 != p1) = true := by simpa using hq
            have HGD := Lib.hid (show fstW 0 gs os 4 = some (a * 16 + b) from fstW_hit (by show _ < 16 * 16; omega) (by rw [HBP.out]; simp [hq]) (fun s hs => HI.out s (by omega)))
            clear hq
            go_wp2_with fail
            go_ret
            refine ⟨?_, HB3.out.trans (HB6.out.mono HB3.out.size)⟩
            rw [HGD.out]
            show _ = Ending.returned (.iface 91 (.agg #[.int .u16 (((a * 16 + b) / 2 ^ 4 : Nat) : Int), .int .u16 (((a * 16 + b) % 2 ^ 4 : Nat) : Int)]))
            rw [show (a * 16 + b) / 2 ^ 4 = a from by omega, show (a * 16 + b) % 2 ^ 4 = b from by omega]
            rfl
        · obtain rfl : b = 16 := by omega
          have T2 : decide (((16 : Nat) : Int) < 16) = false := by simp
          go_wp2_with fail
          exact ⟨⟨a + 1, by go_num, by omega, Lib.hid (fun s hs => HI.out s (by omega)), HBI⟩, by simp [intOf]; omega⟩
    · obtain rfl : a = 16 := by omega
      have T1 : decide (((16 : Nat) : Int) < 16) = false := by simp
      have HNO := Lib.hid (show fstW 0 gs os 4 = none from fstW_none (fun s hs => HL.out s hs))
      go_wp2_with fail
      go_ret
      exact ⟨by rw [HNO.out]; rfl, HB3.out.trans (HB.out.mono HB3.out.size)⟩

set_option maxHeartbeats 8000000 in
set_option maxRecDepth 100000 in
theorem check_1_0 (v : Value) (nn : Int) (hN : nn = 2) (gs : List G3) (os : List Int) (hc : circB nn gs os = true) (hol : os.length = 1) (w : World) (h : CI w v nn gs os) :
    Calls Tryd.prog 60 #[v, .int .i64 1, .int .i64 0] w fun e w' => e = .returned (ccW 1 (fstW 1 gs os 1)) ∧ Below w.heap.size w w' := by
  have H := Lib.hid h
  obtain ⟨G, O, rfl, hn, hg, ho⟩ := h
  have HG := Lib.hid hg; have HO := Lib.hid ho
  obtain ⟨A, c, rfl⟩ := hg.form
  obtain ⟨A2, c2, rfl⟩ := ho.form
  have HC := Lib.hid hc; have HOL := Lib.hid hol
  have q1 : (nn != 2) = false := by rw [hN]; rfl
  have q2 : ((os.length : Int) != 1) = false := by rw [hol]; rfl
  clear hg ho hc hN hol
  obtain ⟨z1, z2, z3⟩ := nw1 w (.cells #[.int .i8 nn, .slice A gs.length c, .slice A2 os.length c2] 30)
  go_enter Tryd.func60, Tryd.ntmps60
  go_wp2_with fail
  generalize World.alloc w _ = w1 at z1 z2 z3 ⊢
  refine (openCircuit_any nn _ _ gs os w1 (H.out.below z2)).mono ?_
  rintro e w2 ⟨rfl, hb⟩
  have HB2 := Lib.hid (z2.trans (hb.mono z2.size))
  simp only [opW, HC.out, if_true]
  clear z1 z2 z3 hb
  obtain ⟨y1, y2, y3⟩ := nw1 w2 (.cells #[.slice A gs.length c, .int .i8 nn, .slice A2 os.length c2] 74)
  go_upto_region 6 with fail
  generalize World.alloc w2 _ = w3 at y1 y2 y3 ⊢
  obtain ⟨tb, htb⟩ : ∃ tb, tb = w2.heap.size := ⟨_, rfl⟩
  rw [← htb] at y1 ⊢
  have x3 : BX w3 tb (.slice A gs.length c) (.int .i8 nn) (.slice A2 os.length c2) := ⟨_, y1⟩
  have X3 := Lib.hid x3
  have HB3 := Lib.hid (HB2.out.trans (y2.mono HB2.out.size))
  have c0 := x3.c0; have c1 := x3.c1; have c2' := x3.c2
  clear y1 y2 y3 htb x3
  go_wp2_with fail
  clear c0 c1 c2'
  go_loopw [58] (fun y wr => ∃ a : Nat, y = .int .u16 (a : Int) ∧ a ≤ 2 ∧ Hid (∀ s, s < a * 2 → badT 1 gs os 1 s = false) ∧ Hid (Below w3.heap.size w3 wr)) (fun y _ => 2 - (intOf y).toNat)
  case atStart => exact ⟨0, rfl, by omega, Lib.hid (fun s hs => by omega), Lib.hid (Below.refl _ _)⟩
  case round =>
    obtain ⟨a, rfl, ha, HL, HB⟩ := hrel
    by_cases hlt : a < 2
    · have T1 : decide ((a : Int) < 2) = true := by simp; omega
      have hwa : IntKind.wrap .u16 ((a : Int) + 1) = (a : Int) + 1 := by simp only [IntKind.wrap, show IntKind.u16.bits = 16 from rfl, show IntKind.u16.signed = false from rfl]; simp; omega
      go_wp2_with fail
      refine (claimed_1 (a : Int) wr).mono ?_
      rintro e w5 ⟨rfl, hww⟩
      subst hww
      go_wp2_with fail
      go_loopw [65] (fun y wi => ∃ b : Nat, y = .int .u16 (b : Int) ∧ b ≤ 2 ∧ Hid (∀ s, s < a * 2 + b → badT 1 gs os 1 s = false) ∧ Hid (Below w3.heap.size w3 wi)) (fun y _ => 2 - (intOf y).toNat)
      case atStart => exact ⟨0, rfl, by omega, Lib.hid (fun s hs => HL.out s (by omega)), HB⟩
      case round =>
        obtain ⟨b, rfl, hb, HI, HBI⟩ := hrel
        clear HL HB
        by_cases hlt2 : b < 2
        · have T2 : decide ((b : Int) < 2) = true := by simp; omega
          have hwb : IntKind.wrap .u16 ((b : Int) + 1) = (b : Int) + 1 := by simp only [IntKind.wrap, show IntKind.u16.bits = 16 from rfl, show IntKind.u16.signed = false from rfl]; simp; omega
          have HS0 := Lib.hid (fun (W : World) (hW : Below w3.heap.size w3 W) => show W.rangeAt tb 0 [.slice A gs.length c, .int .i8 nn, .slice A2 os.length c2] from range3v (X3.out.below hW).c0 (X3.out.below hW).c1 (X3.out.below hW).c2)
          go_upto_region 17 with fail
          refine wp_region_held_drew (S := fun u => u.rangeAt tb 0 [.slice A gs.length c, .int .i8 nn, .slice A2 os.length c2]) (by kernel_rfl) ?hS0 (fun hS => ?_)
          case hS0 => exact HS0.out _ (bdr HBI.out 1)
          have HBD : Hid (Below w3.heap.size w3 wr.drew) := Lib.hid (bdr HBI.out 1)
          generalize wr.drew = wd at hS HBD ⊢
          refine takeHd (i := 0) (v := .agg #[.slice A gs.length c, .int .i8 nn, .slice A2 os.length c2]) rfl rfl (by kernel_rfl) (by kernel_rfl) (by kernel_rfl) (fun _ _ _ h => h) rfl ?hy0 hS ?rs0
          case hy0 => exact fun wq hq => exec_load_midd 74 _ rfl tb 0 rfl [.slice A gs.length c, .int .i8 nn, .slice A2 os.length c2] _ hq Tryd.underlying74 rfl (by kernel_rfl)
          simp only [Act.put, List.setIfInBounds_toArray, List.set_cons_zero, List.set_cons_succ]
          refine takeHd (i := 1) (v := ?v1) rfl rfl (by kernel_rfl) (by kernel_rfl) (by kernel_rfl) (fun _ _ _ h => h) rfl ?hy1 hS ?rs1
          case hy1 => (intro wq hq; go_simp; try (with_reducible rfl))
          simp only [Act.put, List.setIfInBounds_toArray, List.set_cons_zero, List.set_cons_succ]
          refine takeHd (i := 2) (v := ?v2) rfl rfl (by kernel_rfl) (by kernel_rfl) (by kernel_rfl) (fun _ _ _ h => h) rfl ?hy2 hS ?rs2
          case hy2 => (intro wq hq; go_simp; try (with_reducible rfl))
          simp only [Act.put, List.setIfInBounds_toArray, List.set_cons_zero, List.set_cons_succ]
          refine takeHd (i := 3) (v := ?v3) rfl rfl (by kernel_rfl) (by kernel_rfl) (by kernel_rfl) (fun _ _ _ h => h) rfl ?hy3 hS ?rs3
          case hy3 => (intro wq hq; go_simp; try (with_reducible rfl))
          simp only [Act.put, List.setIfInBounds_toArray, List.set_cons_zero, List.set_cons_succ]
          refine takeHd (i := 4) (v := ?v4) rfl rfl (by kernel_rfl) (by kernel_rfl) (by kernel_rfl) (fun _ _ _ h => h) rfl ?hy4 hS ?rs4
          case hy4 => (intro wq hq; go_simp; try (with_reducible rfl))
          simp only [Act.put, List.setIfInBounds_toArray, List.set_cons_zero, List.set_cons_succ]
          refine takeHd (i := 5) (v := ?v5) rfl rfl (by kernel_rfl) (by kernel_rfl) (by kernel_rfl) (fun _ _ _ h => h) rfl ?hy5 hS ?rs5
          case hy5 => (intro wq hq; go_simp; try (with_reducible rfl))
          simp only [Act.put, List.setIfInBounds_toArray, List.set_cons_zero, List.set_cons_succ]
          refine takeHd (i := 7) (v := ?v7) rfl rfl (by kernel_rfl) (by kernel_rfl) (by kernel_rfl) (fun _ _ _ h => h) rfl ?hy7 hS ?rs7
          case hy7 => (intro wq hq; go_simp; try (with_reducible rfl))
          simp only [Act.put, List.setIfInBounds_toArray, List.set_cons_zero, List.set_cons_succ]
          refine takeHd (i := 8) (v := ?v8) rfl rfl (by kernel_rfl) (by kernel_rfl) (by kernel_rfl) (fun _ _ _ h => h) rfl ?hy8 hS ?rs8
          case hy8 => (intro wq hq; go_simp; try (with_reducible rfl))
          simp only [Act.put, List.setIfInBounds_toArray, List.set_cons_zero, List.set_cons_succ]
          refine wpAnyH_ready (rs := [6]) (by kernel_rfl) (by simp) ?_
          refine AllReadyH.cons rfl (fun K hK => ?_) AllReadyH.nil
          go_simp
          rw [show bits BinOp.or IntKind.u16 (a : Int) (IntKind.u16.wrap ((b : Int) * 2)) = bitv 1 (a : Int) (b : Int) from rfl]
          have hbt := badT_at 1 gs os 1 a b hlt2
          refine (implRun_any nn _ _ gs os HC.out _ (bitv_b 1 (a : Int) (b : Int)) wd (HG.out.below (HB3.out.trans (HBD.out.mono HB3.out.size))) (HO.out.below (HB3.out.trans (HBD.out.mono HB3.out.size)))).mono ?_
          rintro e w6 ⟨rfl, hb6⟩
          obtain ⟨r1, hr1⟩ : ∃ r1, r1 = runTo (onL (bitv 1 (a : Int) (b : Int)) gs) os os.length := ⟨_, rfl⟩
          rw [← hr1]
          have HB6 := Lib.hid (HBD.out.trans (hb6.mono HBD.out.size))
          have HR1 := Lib.hid hr1; have HBT := Lib.hid hbt
          clear hb6 hr1 hbt HBD
          refine hK.out _ w6 (HS0.out _ HB6.out) (fun hS => ?_)
          clear hK
          try simp only [Act.put, List.setIfInBounds_toArray, List.set_cons_zero, List.set_cons_succ]
          refine wpAnyH_ready (rs := [9]) (by kernel_rfl) (by simp) ?_
          refine AllReadyH.cons rfl (fun K hK => ?_) AllReadyH.nil
          go_simp
          refine (times_any (a : Int) (b : Int) (by omega) (by omega) (by omega) (by omega) w6).mono ?_
          rintro e w7 ⟨⟨p1, rfl, hp1, _⟩, hww⟩
          subst hww
          have HBP := Lib.hid (show badT 1 gs os 1 (a * 2 + b) = decide (r1 ≠ p1) from by
            have h := HBT.out
            rw [show 2 ^ 1 = 2 from rfl] at h
            rw [h]; unfold badP; rw [← HR1.out, hp1.out]; rfl)
          clear HBT hp1
          refine hK.out _ w6 (HS0.out _ HB6.out) (fun hS => ?_)
          clear hK
          try simp only [Act.put, List.setIfInBounds_toArray, List.set_cons_zero, List.set_cons_succ]
          refine takeHd (i := 10) (v := ?v10) rfl rfl (by kernel_rfl) (by kernel_rfl) (by kernel_rfl) (fun _ _ _ h => h) rfl ?hy10 hS ?rs10
          case hy10 => (intro wq hq; go_simp; try (with_reducible rfl))
          simp only [Act.put, List.setIfInBounds_toArray, List.set_cons_zero, List.set_cons_succ]
          refine wpAnyH_done (by kernel_rfl) ?_ _
          clear hS
          by_cases hq : r1 = p1
          · have Tq : (r1 != p1) = false := by rw [hq]; simp
            have HGD := Lib.hid (show badT 1 gs os 1 (a * 2 + b) = false from by rw [HBP.out]; simp [hq])
            clear hq
            go_wp2_with fail
            exact ⟨⟨b + 1, by go_num, by omega, Lib.hid (fun s hs => by
              by_cases he : s = a * 2 + b
              · rw [he]; exact HGD.out
              · exact HI.out s (by omega)), HB6⟩, by simp [intOf]; omega⟩
          · have Tq : (r1 != p1) = true := by simpa using hq
            have HGD := Lib.hid (show fstW 1 gs os 1 = some (a * 2 + b) from fstW_hit (by show _ < 2 * 2; omega) (by rw [HBP.out]; simp [hq]) (fun s hs => HI.out s (by omega)))
            clear hq
            go_wp2_with fail
            go_ret
            refine ⟨?_, HB3.out.trans (HB6.out.mono HB3.out.size)⟩
            rw [HGD.out]
            show _ = Ending.returned (.iface 91 (.agg #[.int .u16 (((a * 2 + b) / 2 ^ 1 : Nat) : Int), .int .u16 (((a * 2 + b) % 2 ^ 1 : Nat) : Int)]))
            rw [show (a * 2 + b) / 2 ^ 1 = a from by omega, show (a * 2 + b) % 2 ^ 1 = b from by omega]
            rfl
        · obtain rfl : b = 2 := by omega
          have T2 : decide (((2 : Nat) : Int) < 2) = false := by simp
          go_wp2_with fail
          exact ⟨⟨a + 1, by go_num, by omega, Lib.hid (fun s hs => HI.out s (by omega)), HBI⟩, by simp [intOf]; omega⟩
    · obtain rfl : a = 2 := by omega
      have T1 : decide (((2 : Nat) : Int) < 2) = false := by simp
      have HNO := Lib.hid (show fstW 1 gs os 1 = none from fstW_none (fun s hs => HL.out s hs))
      go_wp2_with fail
      go_ret
      exact ⟨by rw [HNO.out]; rfl, HB3.out.trans (HB.out.mono HB3.out.size)⟩

set_option maxHeartbeats 8000000 in
set_option maxRecDepth 100000 in
theorem check_1_1 (v : Value) (nn : Int) (hN : nn = 4) (gs : List G3) (os : List Int) (hc : circB nn gs os = true) (hol : os.length = 2) (w : World) (h : CI w v nn gs os) :
    Calls Tryd.prog 60 #[v, .int .i64 1, .int .i64 1] w fun e w' => e = .returned (ccW 2 (fstW 1 gs os 2)) ∧ Below w.heap.size w w' := by
  have H := Lib.hid h
  obtain ⟨G, O, rfl, hn, hg, ho⟩ := h
  have HG := Lib.hid hg; have HO := Lib.hid ho
  obtain ⟨A, c, rfl⟩ := hg.form
  obtain ⟨A2, c2, rfl⟩ := ho.form
  have HC := Lib.hid hc; have HOL := Lib.hid hol
  have q1 : (nn != 4) = false := by rw [hN]; rfl
  have q2 : ((os.length : Int) != 2) = false := by rw [hol]; rfl
  clear hg ho hc hN hol
  obtain ⟨z1, z2, z3⟩ := nw1 w (.cells #[.int .i8 nn, .slice A gs.length c, .slice A2 os.length c2] 30)
  go_enter Tryd.func60, Tryd.ntmps60
  go_wp2_with fail
  generalize World.alloc w _ = w1 at z1 z2 z3 ⊢
  refine (openCircuit_any nn _ _ gs os w1 (H.out.below z2)).mono ?_
  rintro e w2 ⟨rfl, hb⟩
  have HB2 := Lib.hid (z2.trans (hb.mono z2.size))
  simp only [opW, HC.out, if_true]
  clear z1 z2 z3 hb
  obtain ⟨y1, y2, y3⟩ := nw1 w2 (.cells #[.slice A gs.length c, .int .i8 nn, .slice A2 os.length c2] 74)
  go_upto_region 6 with fail
  generalize World.alloc w2 _ = w3 at y1 y2 y3 ⊢
  obtain ⟨tb, htb⟩ : ∃ tb, tb = w2.heap.size := ⟨_, rfl⟩
  rw [← htb] at y1 ⊢
  have x3 : BX w3 tb (.slice A gs.length c) (.int .i8 nn) (.slice A2 os.length c2) := ⟨_, y1⟩
  have X3 := Lib.hid x3
  have HB3 := Lib.hid (HB2.out.trans (y2.mono HB2.out.size))
  have c0 := x3.c0; have c1 := x3.c1; have c2' := x3.c2
  clear y1 y2 y3 htb x3
  go_wp2_with fail
  clear c0 c1 c2'
  go_loopw [58] (fun y wr => ∃ a : Nat, y = .int .u16 (a : Int) ∧ a ≤ 4 ∧ Hid (∀ s, s < a * 4 → badT 1 gs os 2 s = false) ∧ Hid (Below w3.heap.size w3 wr)) (fun y _ => 4 - (intOf y).toNat)
  case atStart => exact ⟨0, rfl, by omega, Lib.hid (fun s hs => by omega), Lib.hid (Below.refl _ _)⟩
  case round =>
    obtain ⟨a, rfl, ha, HL, HB⟩ := hrel
    by_cases hlt : a < 4
    · have T1 : decide ((a : Int) < 4) = true := by simp; omega
      have hwa : IntKind.wrap .u16 ((a : Int) + 1) = (a : Int) + 1 := by simp only [IntKind.wrap, show IntKind.u16.bits = 16 from rfl, show IntKind.u16.signed = false from rfl]; simp; omega
      go_wp2_with fail
      refine (claimed_1 (a : Int) wr).mono ?_
      rintro e w5 ⟨rfl, hww⟩
      subst hww
      go_wp2_with fail
      go_loopw [65] (fun y wi => ∃ b : Nat, y = .int .u16 (b : Int) ∧ b ≤ 4 ∧ Hid (∀ s, s < a * 4 + b → badT 1 gs os 2 s = false) ∧ Hid (Below w3.heap.size w3 wi)) (fun y _ => 4 - (intOf y).toNat)
      case atStart => exact ⟨0, rfl, by omega, Lib.hid (fun s hs => HL.out s (by omega)), HB⟩
      case round =>
        obtain ⟨b, rfl, hb, HI, HBI⟩ := hrel
        clear HL HB
        by_cases hlt2 : b < 4
        · have T2 : decide ((b : Int) < 4) = true := by simp; omega
          have hwb : IntKind.wrap .u16 ((b : Int) + 1) = (b : Int) + 1 := by simp only [IntKind.wrap, show IntKind.u16.bits = 16 from rfl, show IntKind.u16.signed = false from rfl]; simp; omega
          have HS0 := Lib.hid (fun (W : World) (hW : Below w3.heap.size w3 W) => show W.rangeAt tb 0 [.slice A gs.length c, .int .i8 nn, .slice A2 os.length c2] from range3v (X3.out.below hW).c0 (X3.out.below hW).c1 (X3.out.below hW).c2)
          go_upto_region 17 with fail
          refine wp_region_held_drew (S := fun u => u.rangeAt tb 0 [.slice A gs.length c, .int .i8 nn, .slice A2 os.length c2]) (by kernel_rfl) ?hS0 (fun hS => ?_)
          case hS0 => exact HS0.out _ (bdr HBI.out 1)
          have HBD : Hid (Below w3.heap.size w3 wr.drew) := Lib.hid (bdr HBI.out 1)
          generalize wr.drew = wd at hS HBD ⊢
          refine takeHd (i := 0) (v := .agg #[.slice A gs.length c, .int .i8 nn, .slice A2 os.length c2]) rfl rfl (by kernel_rfl) (by kernel_rfl) (by kernel_rfl) (fun _ _ _ h => h) rfl ?hy0 hS ?rs0
          case hy0 => exact fun wq hq => exec_load_midd 74 _ rfl tb 0 rfl [.slice A gs.length c, .int .i8 nn, .slice A2 os.length c2] _ hq Tryd.underlying74 rfl (by kernel_rfl)
          simp only [Act.put, List.setIfInBounds_toArray, List.set_cons_zero, List.set_cons_succ]
          refine takeHd (i := 1) (v := ?v1) rfl rfl (by kernel_rfl) (by kernel_rfl) (by kernel_rfl) (fun _ _ _ h => h) rfl ?hy1 hS ?rs1
          case hy1 => (intro wq hq; go_simp; try (with_reducible rfl))
          simp only [Act.put, List.setIfInBounds_toArray, List.set_cons_zero, List.set_cons_succ]
          refine takeHd (i := 2) (v := ?v2) rfl rfl (by kernel_rfl) (by kernel_rfl) (by kernel_rfl) (fun _ _ _ h => h) rfl ?hy2 hS ?rs2
          case hy2 => (intro wq hq; go_simp; try (with_reducible rfl))
          simp only [Act.put, List.setIfInBounds_toArray, List.set_cons_zero, List.set_cons_succ]
          refine takeHd (i := 3) (v := ?v3) rfl rfl (by kernel_rfl) (by kernel_rfl) (by kernel_rfl) (fun _ _ _ h => h) rfl ?hy3 hS ?rs3
          case hy3 => (intro wq hq; go_simp; try (with_reducible rfl))
          simp only [Act.put, List.setIfInBounds_toArray, List.set_cons_zero, List.set_cons_succ]
          refine takeHd (i := 4) (v := ?v4) rfl rfl (by kernel_rfl) (by kernel_rfl) (by kernel_rfl) (fun _ _ _ h => h) rfl ?hy4 hS ?rs4
          case hy4 => (intro wq hq; go_simp; try (with_reducible rfl))
          simp only [Act.put, List.setIfInBounds_toArray, List.set_cons_zero, List.set_cons_succ]
          refine takeHd (i := 5) (v := ?v5) rfl rfl (by kernel_rfl) (by kernel_rfl) (by kernel_rfl) (fun _ _ _ h => h) rfl ?hy5 hS ?rs5
          case hy5 => (intro wq hq; go_simp; try (with_reducible rfl))
          simp only [Act.put, List.setIfInBounds_toArray, List.set_cons_zero, List.set_cons_succ]
          refine takeHd (i := 7) (v := ?v7) rfl rfl (by kernel_rfl) (by kernel_rfl) (by kernel_rfl) (fun _ _ _ h => h) rfl ?hy7 hS ?rs7
          case hy7 => (intro wq hq; go_simp; try (with_reducible rfl))
          simp only [Act.put, List.setIfInBounds_toArray, List.set_cons_zero, List.set_cons_succ]
          refine takeHd (i := 8) (v := ?v8) rfl rfl (by kernel_rfl) (by kernel_rfl) (by kernel_rfl) (fun _ _ _ h => h) rfl ?hy8 hS ?rs8
          case hy8 => (intro wq hq; go_simp; try (with_reducible rfl))
          simp only [Act.put, List.setIfInBounds_toArray, List.set_cons_zero, List.set_cons_succ]
          refine wpAnyH_ready (rs := [6]) (by kernel_rfl) (by simp) ?_
          refine AllReadyH.cons rfl (fun K hK => ?_) AllReadyH.nil
          go_simp
          rw [show bits BinOp.or IntKind.u16 (a : Int) (IntKind.u16.wrap ((b : Int) * 4)) = bitv 2 (a : Int) (b : Int) from rfl]
          have hbt := badT_at 1 gs os 2 a b hlt2
          refine (implRun_any nn _ _ gs os HC.out _ (bitv_b 2 (a : Int) (b : Int)) wd (HG.out.below (HB3.out.trans (HBD.out.mono HB3.out.size))) (HO.out.below (HB3.out.trans (HBD.out.mono HB3.out.size)))).mono ?_
          rintro e w6 ⟨rfl, hb6⟩
          obtain ⟨r1, hr1⟩ : ∃ r1, r1 = runTo (onL (bitv 2 (a : Int) (b : Int)) gs) os os.length := ⟨_, rfl⟩
          rw [← hr1]
          have HB6 := Lib.hid (HBD.out.trans (hb6.mono HBD.out.size))
          have HR1 := Lib.hid hr1; have HBT := Lib.hid hbt
          clear hb6 hr1 hbt HBD
          refine hK.out _ w6 (HS0.out _ HB6.out) (fun hS => ?_)
          clear hK
          try simp only [Act.put, List.setIfInBounds_toArray, List.set_cons_zero, List.set_cons_succ]
          refine wpAnyH_ready (rs := [9]) (by kernel_rfl) (by simp) ?_
          refine AllReadyH.cons rfl (fun K hK => ?_) AllReadyH.nil
          go_simp
          refine (times_any (a : Int) (b : Int) (by omega) (by omega) (by omega) (by omega) w6).mono ?_
          rintro e w7 ⟨⟨p1, rfl, hp1, _⟩, hww⟩
          subst hww
          have HBP := Lib.hid (show badT 1 gs os 2 (a * 4 + b) = decide (r1 ≠ p1) from by
            have h := HBT.out
            rw [show 2 ^ 2 = 4 from rfl] at h
            rw [h]; unfold badP; rw [← HR1.out, hp1.out]; rfl)
          clear HBT hp1
          refine hK.out _ w6 (HS0.out _ HB6.out) (fun hS => ?_)
          clear hK
          try simp only [Act.put, List.setIfInBounds_toArray, List.set_cons_zero, List.set_cons_succ]
          refine takeHd (i := 10) (v := ?v10) rfl rfl (by kernel_rfl) (by kernel_rfl) (by kernel_rfl) (fun _ _ _ h => h) rfl ?hy10 hS ?rs10
          case hy10 => (intro wq hq; go_simp; try (with_reducible rfl))
          simp only [Act.put, List.setIfInBounds_toArray, List.set_cons_zero, List.set_cons_succ]
          refine wpAnyH_done (by kernel_rfl) ?_ _
          clear hS
          by_cases hq : r1 = p1
          · have Tq : (r1 != p1) = false := by rw [hq]; simp
            have HGD := Lib.hid (show badT 1 gs os 2 (a * 4 + b) = false from by rw [HBP.out]; simp [hq])
            clear hq
            go_wp2_with fail
            exact ⟨⟨b + 1, by go_num, by omega, Lib.hid (fun s hs => by
              by_cases he : s = a * 4 + b
              · rw [he]; exact HGD.out
              · exact HI.out s (by omega)), HB6⟩, by simp [intOf]; omega⟩
          · have Tq : (r1 != p1) = true := by simpa using hq
            have HGD := Lib.hid (show fstW 1 gs os 2 = some (a * 4 + b) from fstW_hit (by show _ < 4 * 4; omega) (by rw [HBP.out]; simp [hq]) (fun s hs => HI.out s (by omega)))
            clear hq
            go_wp2_with fail
            go_ret
            refine ⟨?_, HB3.out.trans (HB6.out.mono HB3.out.size)⟩
            rw [HGD.out]
            show _ = Ending.returned (.iface 91 (.agg #[.int .u16 (((a * 4 + b) / 2 ^ 2 : Nat) : Int), .int .u16 (((a * 4 + b) % 2 ^ 2 : Nat) : Int)]))
            rw [show (a * 4 + b) / 2 ^ 2 = a from by omega, show (a * 4 + b) % 2 ^ 2 = b from by omega]
            rfl
        · obtain rfl : b = 4 := by omega
          have T2 : decide (((4 : Nat) : Int) < 4) = false := by simp
          go_wp2_with fail
          exact ⟨⟨a + 1, by go_num, by omega, Lib.hid (fun s hs => HI.out s (by omega)), HBI⟩, by simp [intOf]; omega⟩
    · obtain rfl : a = 4 := by omega
      have T1 : decide (((4 : Nat) : Int) < 4) = false := by simp
      have HNO := Lib.hid (show fstW 1 gs os 2 = none from fstW_none (fun s hs => HL.out s hs))
      go_wp2_with fail
      go_ret
      exact ⟨by rw [HNO.out]; rfl, HB3.out.trans (HB.out.mono HB3.out.size)⟩

set_option maxHeartbeats 8000000 in
set_option maxRecDepth 100000 in
theorem check_1_2 (v : Value) (nn : Int) (hN : nn = 8) (gs : List G3) (os : List Int) (hc : circB nn gs os = true) (hol : os.length = 4) (w : World) (h : CI w v nn gs os) :
    Calls Tryd.prog 60 #[v, .int .i64 1, .int .i64 2] w fun e w' => e = .returned (ccW 4 (fstW 1 gs os 4)) ∧ Below w.heap.size w w' := by
  have H := Lib.hid h
  obtain ⟨G, O, rfl, hn, hg, ho⟩ := h
  have HG := Lib.hid hg; have HO := Lib.hid ho
  obtain ⟨A, c, rfl⟩ := hg.form
  obtain ⟨A2, c2, rfl⟩ := ho.form
  have HC := Lib.hid hc; have HOL := Lib.hid hol
  have q1 : (nn != 8) = false := by rw [hN]; rfl
  have q2 : ((os.length : Int) != 4) = false := by rw [hol]; rfl
  clear hg ho hc hN hol
  obtain ⟨z1, z2, z3⟩ := nw1 w (.cells #[.int .i8 nn, .slice A gs.length c, .slice A2 os.length c2] 30)
  go_enter Tryd.func60, Tryd.ntmps60
  go_wp2_with fail
  generalize World.alloc w _ = w1 at z1 z2 z3 ⊢
  refine (openCircuit_any nn _ _ gs os w1 (H.out.below z2)).mono ?_
  rintro e w2 ⟨rfl, hb⟩
  have HB2 := Lib.hid (z2.trans (hb.mono z2.size))
  simp only [opW, HC.out, if_true]
  clear z1 z2 z3 hb
  obtain ⟨y1, y2, y3⟩ := nw1 w2 (.cells #[.slice A gs.length c, .int .i8 nn, .slice A2 os.length c2] 74)
  go_upto_region 6 with fail
  generalize World.alloc w2 _ = w3 at y1 y2 y3 ⊢
  obtain ⟨tb, htb⟩ : ∃ tb, tb = w2.heap.size := ⟨_, rfl⟩
  rw [← htb] at y1 ⊢
  have x3 : BX w3 tb (.slice A gs.length c) (.int .i8 nn) (.slice A2 os.length c2) := ⟨_, y1⟩
  have X3 := Lib.hid x3
  have HB3 := Lib.hid (HB2.out.trans (y2.mono HB2.out.size))
  have c0 := x3.c0; have c1 := x3.c1; have c2' := x3.c2
  clear y1 y2 y3 htb x3
  go_wp2_with fail
  clear c0 c1 c2'
  go_loopw [58] (fun y wr => ∃ a : Nat, y = .int .u16 (a : Int) ∧ a ≤ 16 ∧ Hid (∀ s, s < a * 16 → badT 1 gs os 4 s = false) ∧ Hid (Below w3.heap.size w3 wr)) (fun y _ => 16 - (intOf y).toNat)
  case atStart => exact ⟨0, rfl, by omega, Lib.hid (fun s hs => by omega), Lib.hid (Below.refl _ _)⟩
  case round =>
    obtain ⟨a, rfl, ha, HL, HB⟩ := hrel
    by_cases hlt : a < 16
    · have T1 : decide ((a : Int) < 16) = true := by simp; omega
      have hwa : IntKind.wrap .u16 ((a : Int) + 1) = (a : Int) + 1 := by simp only [IntKind.wrap, show IntKind.u16.bits = 16 from rfl, show IntKind.u16.signed = false from rfl]; simp; omega
      go_wp2_with fail
      refine (claimed_1 (a : Int) wr).mono ?_
      rintro e w5 ⟨rfl, hww⟩
      subst hww
      go_wp2_with fail
      go_loopw [65] (fun y wi => ∃ b : Nat, y = .int .u16 (b : Int) ∧ b ≤ 16 ∧ Hid (∀ s, s < a * 16 + b → badT 1 gs os 4 s = false) ∧ Hid (Below w3.heap.size w3 wi)) (fun y _ => 16 - (intOf y).toNat)
      case atStart => exact ⟨0, rfl, by omega, Lib.hid (fun s hs => HL.out s (by omega)), HB⟩
      case round =>
        obtain ⟨b, rfl, hb, HI, HBI⟩ := hrel
        clear HL HB
        by_cases hlt2 : b < 16
        · have T2 : decide ((b : Int) < 16) = true := by simp; omega
          have hwb : IntKind.wrap .u16 ((b : Int) + 1) = (b : Int) + 1 := by simp only [IntKind.wrap, show IntKind.u16.bits = 16 from rfl, show IntKind.u16.signed = false from rfl]; simp; omega
          have HS0 := Lib.hid (fun (W : World) (hW : Below w3.heap.size w3 W) => show W.rangeAt tb 0 [.slice A gs.length c, .int .i8 nn, .slice A2 os.length c2] from range3v (X3.out.below hW).c0 (X3.out.below hW).c1 (X3.out.below hW).c2)
          go_upto_region 17 with fail
          refine wp_region_held_drew (S := fun u => u.rangeAt tb 0 [.slice A gs.length c, .int .i8 nn, .slice A2 os.length c2]) (by kernel_rfl) ?hS0 (fun hS => ?_)
          case hS0 => exact HS0.out _ (bdr HBI.out 1)
          have HBD : Hid (Below w3.heap.size w3 wr.drew) := Lib.hid (bdr HBI.out 1)
          generalize wr.drew = wd at hS HBD ⊢
          refine takeHd (i := 0) (v := .agg #[.slice A gs.length c, .int .i8 nn, .slice A2 os.length c2]) rfl rfl (by kernel_rfl) (by kernel_rfl) (by kernel_rfl) (fun _ _ _ h => h) rfl ?hy0 hS ?rs0
          case hy0 => exact fun wq hq => exec_load_midd 74 _ rfl tb 0 rfl [.slice A gs.length c, .int .i8 nn, .slice A2 os.length c2] _ hq Tryd.underlying74 rfl (by kernel_rfl)
          simp only [Act.put, List.setIfInBounds_toArray, List.set_cons_zero, List.set_cons_succ]
          refine takeHd (i := 1) (v := ?v1) rfl rfl (by kernel_rfl) (by kernel_rfl) (by kernel_rfl) (fun _ _ _ h => h) rfl ?hy1 hS ?rs1
          case hy1 => (intro wq hq; go_simp; try (with_reducible rfl))
          simp only [Act.put, List.setIfInBounds_toArray, List.set_cons_zero, List.set_cons_succ]
          refine takeHd (i := 2) (v := ?v2) rfl rfl (by kernel_rfl) (by kernel_rfl) (by kernel_rfl) (fun _ _ _ h => h) rfl ?hy2 hS ?rs2
          case hy2 => (intro wq hq; go_simp; try (with_reducible rfl))
          simp only [Act.put, List.setIfInBounds_toArray, List.set_cons_zero, List.set_cons_succ]
          refine takeHd (i := 3) (v := ?v3) rfl rfl (by kernel_rfl) (by kernel_rfl) (by kernel_rfl) (fun _ _ _ h => h) rfl ?hy3 hS ?rs3
          case hy3 => (intro wq hq; go_simp; try (with_reducible rfl))
          simp only [Act.put, List.setIfInBounds_toArray, List.set_cons_zero, List.set_cons_succ]
          refine takeHd (i := 4) (v := ?v4) rfl rfl (by kernel_rfl) (by kernel_rfl) (by kernel_rfl) (fun _ _ _ h => h) rfl ?hy4 hS ?rs4
          case hy4 => (intro wq hq; go_simp; try (with_reducible rfl))
          simp only [Act.put, List.setIfInBounds_toArray, List.set_cons_zero, List.set_cons_succ]
          refine takeHd (i := 5) (v := ?v5) rfl rfl (by kernel_rfl) (by kernel_rfl) (by kernel_rfl) (fun _ _ _ h => h) rfl ?hy5 hS ?rs5
          case hy5 => (intro wq hq; go_simp; try (with_reducible rfl))
          simp only [Act.put, List.setIfInBounds_toArray, List.set_cons_zero, List.set_cons_succ]
          refine takeHd (i := 7) (v := ?v7) rfl rfl (by kernel_rfl) (by kernel_rfl) (by kernel_rfl) (fun _ _ _ h => h) rfl ?hy7 hS ?rs7
          case hy7 => (intro wq hq; go_simp; try (with_reducible rfl))
          simp only [Act.put, List.setIfInBounds_toArray, List.set_cons_zero, List.set_cons_succ]
          refine takeHd (i := 8) (v := ?v8) rfl rfl (by kernel_rfl) (by kernel_rfl) (by kernel_rfl) (fun _ _ _ h => h) rfl ?hy8 hS ?rs8
          case hy8 => (intro wq hq; go_simp; try (with_reducible rfl))
          simp only [Act.put, List.setIfInBounds_toArray, List.set_cons_zero, List.set_cons_succ]
          refine wpAnyH_ready (rs := [6]) (by kernel_rfl) (by simp) ?_
          refine AllReadyH.cons rfl (fun K hK => ?_) AllReadyH.nil
          go_simp
          rw [show bits BinOp.or IntKind.u16 (a : Int) (IntKind.u16.wrap ((b : Int) * 16)) = bitv 4 (a : Int) (b : Int) from rfl]
          have hbt := badT_at 1 gs os 4 a b hlt2
          refine (implRun_any nn _ _ gs os HC.out _ (bitv_b 4 (a : Int) (b : Int)) wd (HG.out.below (HB3.out.trans (HBD.out.mono HB3.out.size))) (HO.out.below (HB3.out.trans (HBD.out.mono HB3.out.size)))).mono ?_
          rintro e w6 ⟨rfl, hb6⟩
          obtain ⟨r1, hr1⟩ : ∃ r1, r1 = runTo (onL (bitv 4 (a : Int) (b : Int)) gs) os os.length := ⟨_, rfl⟩
          rw [← hr1]
          have HB6 := Lib.hid (HBD.out.trans (hb6.mono HBD.out.size))
          have HR1 := Lib.hid hr1; have HBT := Lib.hid hbt
          clear hb6 hr1 hbt HBD
          refine hK.out _ w6 (HS0.out _ HB6.out) (fun hS => ?_)
          clear hK
          try simp only [Act.put, List.setIfInBounds_toArray, List.set_cons_zero, List.set_cons_succ]
          refine wpAnyH_ready (rs := [9]) (by kernel_rfl) (by simp) ?_
          refine AllReadyH.cons rfl (fun K hK => ?_) AllReadyH.nil
          go_simp
          refine (times_any (a : Int) (b : Int) (by omega) (by omega) (by omega) (by omega) w6).mono ?_
          rintro e w7 ⟨⟨p1, rfl, hp1, _⟩, hww⟩
          subst hww
          have HBP := Lib.hid (show badT 1 gs os 4 (a * 16 + b) = decide (r1 ≠ p1) from by
            have h := HBT.out
            rw [show 2 ^ 4 = 16 from rfl] at h
            rw [h]; unfold badP; rw [← HR1.out, hp1.out]; rfl)
          clear HBT hp1
          refine hK.out _ w6 (HS0.out _ HB6.out) (fun hS => ?_)
          clear hK
          try simp only [Act.put, List.setIfInBounds_toArray, List.set_cons_zero, List.set_cons_succ]
          refine takeHd (i := 10) (v := ?v10) rfl rfl (by kernel_rfl) (by kernel_rfl) (by kernel_rfl) (fun _ _ _ h => h) rfl ?hy10 hS ?rs10
          case hy10 => (intro wq hq; go_simp; try (with_reducible rfl))
          simp only [Act.put, List.setIfInBounds_toArray, List.set_cons_zero, List.set_cons_succ]
          refine wpAnyH_done (by kernel_rfl) ?_ _
          clear hS
          by_cases hq : r1 = p1
          · have Tq : (r1 != p1) = false := by rw [hq]; simp
            have HGD := Lib.hid (show badT 1 gs os 4 (a * 16 + b) = false from by rw [HBP.out]; simp [hq])
            clear hq
            go_wp2_with fail
            exact ⟨⟨b + 1, by go_num, by omega, Lib.hid (fun s hs => by
              by_cases he : s = a * 16 + b
              · rw [he]; exact HGD.out
              · exact HI.out s (by omega)), HB6⟩, by simp [intOf]; omega⟩
          · have Tq : (r1 != p1) = true := by simpa using hq
            have HGD := Lib.hid (show fstW 1 gs os 4 = some (a * 16 + b) from fstW_hit (by show _ < 16 * 16; omega) (by rw [HBP.out]; simp [hq]) (fun s hs => HI.out s (by omega)))
            clear hq
            go_wp2_with fail
            go_ret
            refine ⟨?_, HB3.out.trans (HB6.out.mono HB3.out.size)⟩
            rw [HGD.out]
            show _ = Ending.returned (.iface 91 (.agg #[.int .u16 (((a * 16 + b) / 2 ^ 4 : Nat) : Int), .int .u16 (((a * 16 + b) % 2 ^ 4 : Nat) : Int)]))
            rw [show (a * 16 + b) / 2 ^ 4 = a from by omega, show (a * 16 + b) % 2 ^ 4 = b from by omega]
            rfl
        · obtain rfl : b = 16 := by omega
          have T2 : decide (((16 : Nat) : Int) < 16) = false := by simp
          go_wp2_with fail
          exact ⟨⟨a + 1, by go_num, by omega, Lib.hid (fun s hs => HI.out s (by omega)), HBI⟩, by simp [intOf]; omega⟩
    · obtain rfl : a = 16 := by omega
      have T1 : decide (((16 : Nat) : Int) < 16) = false := by simp
      have HNO := Lib.hid (show fstW 1 gs os 4 = none from fstW_none (fun s hs => HL.out s hs))
      go_wp2_with fail
      go_ret
      exact ⟨by rw [HNO.out]; rfl, HB3.out.trans (HB.out.mono HB3.out.size)⟩

end Go.Proofs.YtedcfmdgcafnmaaDoor
