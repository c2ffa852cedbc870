/-
  The circuit of a wiring; levels; what a made circuit is.
-/
import Derived.Test.YtedcfmdgcafnmaaDoorDd
import Derived.Test.YtedcfmdgcafnmaaDoorCv
import Derived.Deep.RegionHeld
namespace Go.Proofs.YtedcfmdgcafnmaaDoor
set_option linter.unusedVariables false
set_option linter.unusedSimpArgs false
open Go.ChangeShapes Go.WideShapes Go.ChangeAt Go.RowKit Go.Deep

set_option maxHeartbeats 1000000 in
theorem circuit_any (n : Int) (G O : Value) (A A2 : Option Addr) (a b c d : Nat) (hG : G = .slice A a c) (hO : O = .slice A2 b d) (w : World) :
    Calls Tryd.prog 50 #[.agg #[G, .int .i8 n, O]] w fun e w' => e = .returned (.agg #[.int .i8 n, G, O]) ∧ Below w.heap.size w w' := by
  subst hG hO
  obtain ⟨a1, a2, hb1, s1⟩ := nw2 w (.cells #[.slice A a c, .int .i8 n, .slice A2 b d] 74) (.cells #[.int .i8 0, .slice none 0 0, .slice none 0 0] 30)
  have A1 := Lib.hid a1; have A2' := Lib.hid a2; have HB := Lib.hid hb1
  go_enter Tryd.func50, Tryd.ntmps50
  go_upto_region 1 with fail
  generalize World.alloc (World.alloc w _) _ = w1 at a1 a2 hb1 s1 A1 A2' HB ⊢
  have m1 : BX w1 w.heap.size (.slice A a c) (.int .i8 n) (.slice A2 b d) := ⟨_, a1⟩
  have m2 : BX w1 (w.heap.size + 1) (.int .i8 0) (.slice none 0 0) (.slice none 0 0) := ⟨_, a2⟩
  have c0 := m1.c0; have c1 := m1.c1; have c2 := m1.c2
  have r2 := m2.there
  have M2 := Lib.hid m2
  clear a1 a2 hb1 s1 A1 A2' m1 m2
  go_wp2_with (guard_target =~ wpList _ _ _ (⟨_, Op.store 30 _ _, _, _, _, _⟩ :: _) _ _; refine wpList_store_mid rfl 30 _ _ rfl (w.heap.size + 1) 0 #[.int .i8 n, .slice A a c, .slice A2 b d] rfl rfl r2 (by kernel_rfl) (three_one rfl rfl rfl) ?_)
  obtain ⟨t8, h8⟩ := M2.out.puts (.int .i8 n) (.slice A a c) (.slice A2 b d)
  refine bodyPost_ret (v := .agg #[.int .i8 n, .slice A a c, .slice A2 b d]) ?_ rfl ⟨rfl, bsets (by omega) _ 0 w1 HB.out⟩
  exact results_cell_row rfl _ _ (w.heap.size + 1) _ _ (0, 0) _ rfl h8 Tryd.underlying30 rfl (by kernel_rfl)
def lvB (level : Int) : Bool := decide (0 ≤ level ∧ level ≤ 3)
theorem l07Level_any (level : Int) (w : World) : Calls Tryd.prog 80 #[.int .i64 level] w fun e w' => e = .returned (.bool (lvB level)) ∧ w' = w := by
  go_enter Tryd.func80, Tryd.ntmps80
  go_wp2_with fail
  refine (inC_any level 0 3 w).mono ?_
  rintro e w2 ⟨rfl, rfl⟩
  obtain ⟨b, hb⟩ : ∃ b, b = lvB level := ⟨_, rfl⟩
  rw [show decide (0 ≤ level ∧ level ≤ 3) = b from by rw [hb]; rfl]
  have HB := Lib.hid hb
  clear hb
  go_wp2_with fail
  go_ret
  exact ⟨by rw [← HB.out]; rfl, rfl⟩
theorem l07Bits_any (lv : Nat) (h : lv ≤ 3) (w : World) : Calls Tryd.prog 81 #[.int .i64 (lv : Int)] w fun e w' => e = .returned (.int .i64 ((2 ^ lv : Nat) : Int)) ∧ w' = w := by
  have hc : lv = 0 ∨ lv = 1 ∨ lv = 2 ∨ lv = 3 := by omega
  rcases hc with rfl | rfl | rfl | rfl
  all_goals
    go_enter Tryd.func81, Tryd.ntmps81
    go_wp2_with fail
    go_ret
    exact ⟨rfl, rfl⟩
abbrev JT := Nat → List Int → List Int → List G3 → List G3 × List Int
/-- a made circuit's gates and outputs -/
def mdC (J : JT) (lv : Nat) : List G3 × List Int := J lv ((outsL 0 (2 ^ lv + 2 ^ lv)).take (2 ^ lv)) ((outsL 0 (2 ^ lv + 2 ^ lv)).drop (2 ^ lv)) (inG (2 ^ lv + 2 ^ lv))
def mdN (level : Int) : Int := if lvB level then ((2 ^ level.toNat + 2 ^ level.toNat : Nat) : Int) else 0
def mdG (J : JT) (level : Int) : List G3 := if lvB level then (mdC J level.toNat).1 else []
def mdO (J : JT) (level : Int) : List Int := if lvB level then (mdC J level.toNat).2 else []
def mdK (level : Int) : Int := if lvB level then 0 else 2
def gwB (g : G3) : Bool := decide ((-128 ≤ g.1 ∧ g.1 < 128) ∧ (-32768 ≤ g.2.1 ∧ g.2.1 < 32768) ∧ (-32768 ≤ g.2.2 ∧ g.2.2 < 32768))
def iwB (z : Int) : Bool := decide (-32768 ≤ z ∧ z < 32768)
/-- what is checked of the four circuits -/
def okJ (c : List G3 × List Int) : Bool := c.1.all gwB && (c.2.all iwB && decide (c.1.length + c.2.length ≤ 2000))
theorem okJ_of {c : List G3 × List Int} (h : okJ c = true) : (∀ g ∈ c.1, GW g) ∧ (∀ z ∈ c.2, IW z) ∧ c.1.length + c.2.length ≤ 2000 := by
  unfold okJ at h
  simp only [Bool.and_eq_true, List.all_eq_true, decide_eq_true_eq] at h
  exact ⟨fun g hg => (by have := h.1 g hg; unfold gwB at this; have h2 := of_decide_eq_true this; exact h2), fun z hz => (by have := h.2.1 z hz; unfold iwB at this; have h2 := of_decide_eq_true this; exact h2), h.2.2⟩
theorem level_of {level : Int} (h : lvB level = true) : ∃ lv : Nat, level = (lv : Int) ∧ lv ≤ 3 := by
  have := of_decide_eq_true h
  exact ⟨level.toNat, by omega, by omega⟩
/-- the list of all inputs, cut in two -/
theorem cells2 {w : World} {gp : Nat} {cur : Array Value} {t : TypeId} {a b : Value} (hc : w.heap[gp]? = some (.cells cur t (0, 0))) (h0 : w.cell? ⟨gp, 0, none⟩ = some a) (h1 : w.cell? ⟨gp, 1, none⟩ = some b) (c r : Value) (h2 : w.cell? ⟨gp, 2, none⟩ = some c) :
    (w.setCell ⟨gp, 2, none⟩ r).cell? ⟨gp, 0, none⟩ = some a ∧ (w.setCell ⟨gp, 2, none⟩ r).cell? ⟨gp, 1, none⟩ = some b ∧ (w.setCell ⟨gp, 2, none⟩ r).cell? ⟨gp, 2, none⟩ = some r := by
  have c3 := heap_setCell_same w gp 2 cur t r hc
  simp only [World.cell?, hc] at h0 h1 h2
  have hs : 2 < cur.size := (Array.getElem?_eq_some_iff.1 (show cur[2]? = some c from by simpa using h2)).1
  simp only [World.cell?, c3]
  refine ⟨?_, ?_, ?_⟩
  · simpa [Array.getElem?_setIfInBounds] using h0
  · simpa [Array.getElem?_setIfInBounds] using h1
  · simp [Array.getElem?_setIfInBounds, hs]

end Go.Proofs.YtedcfmdgcafnmaaDoor
