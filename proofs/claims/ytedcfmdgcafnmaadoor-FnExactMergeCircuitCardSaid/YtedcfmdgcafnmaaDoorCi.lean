/-
  RunCircuit of the program and of the model.
-/
import Derived.Test.YtedcfmdgcafnmaaDoorCh
namespace Go.Proofs.YtedcfmdgcafnmaaDoor
set_option linter.unusedVariables false
set_option linter.unusedSimpArgs false
open Go.ChangeShapes Go.WideShapes Go.ChangeAt Go.RowKit Go.Deep

/-- the outputs of the first k indices -/
def runTo (vs : List Bool) (os : List Int) : Nat → Int
  | 0 => 0
  | k + 1 => if vs.getD (os.getD k 0).toNat false then Go.bits BinOp.or IntKind.u16 (runTo vs os k) (IntKind.wrap .u16 (2 ^ k)) else runTo vs os k

set_option maxRecDepth 100000 in
set_option maxHeartbeats 4000000 in
theorem implRun_any (n : Int) (G O : Value) (gs : List G3) (os : List Int) (hc : circB n gs os = true) (bits : Int) (hb : 0 ≤ bits ∧ bits < 65536) (w : World) (hg : GL w G gs) (ho : IL w O os) :
    Calls Tryd.prog 98 #[.agg #[G, .int .i8 n, O], .int .u16 bits] w fun e w' => e = .returned (.int .u16 (runTo (onL bits gs) os os.length)) ∧ Below w.heap.size w w' := by
  have HG := Lib.hid hg
  have HO := Lib.hid ho
  obtain ⟨A, c, rfl⟩ := hg.form
  obtain ⟨A2, c2, rfl⟩ := ho.form
  have hh := head_of hc
  have HV := Lib.hid (gate_of hc)
  have HU := Lib.hid (out_of hc)
  clear hg ho hc
  go_enter Tryd.func98, Tryd.ntmps98
  go_wp2_with fail
  obtain ⟨a1, b1, s1⟩ := nw1 w (.cells #[.slice A gs.length c, .int .i8 n, .slice A2 os.length c2] 74)
  generalize World.alloc w _ = w1 at a1 b1 s1 ⊢
  refine (implValues_any n ⟨hh.1, hh.2.1⟩ _ gs hh.2.2.1 HV.out bits hb w1 (HG.out.below b1)).mono ?_
  rintro e w2 ⟨U, rfl, hb2, ho2⟩
  obtain ⟨AU, cU, rfl, _, hAU⟩ := own_formc ho2
  have m1 : BX w2 w.heap.size _ _ _ := (BX.belowB ⟨_, a1⟩ hb2 (by omega))
  have k2 := m1.c2
  have HB2 := Lib.hid (b1.trans (hb2.mono b1.size))
  have HAT := Lib.hid (fun (z : Nat) (hz : z < gs.length) (g : Nat) (e : AU = some ⟨g, 0, none⟩) => show w2.cell? ⟨g, z, none⟩ = some (.bool ((onL bits gs).getD z false)) from by
    subst e
    rw [ho2.cellAt z (by omega), List.getElem?_map, List.getD, List.getElem?_eq_getElem (by unfold onL; rw [bl_len _ _ _ (Nat.le_refl _)]; exact hz)]; rfl)
  have HAU := Lib.hid hAU
  clear a1 b1 s1 hb2 ho2 m1 hAU
  obtain ⟨vs, hvs⟩ : ∃ vs, vs = onL bits gs := ⟨_, rfl⟩
  rw [← hvs] at HAT
  have HVS := Lib.hid hvs
  clear hvs
  go_wp2_with fail
  go_loopw [16, 6] (fun y acc wr => ∃ k : Nat, y = .int .i64 (k : Int) ∧ k ≤ os.length ∧ acc = .int .u16 (runTo vs os k) ∧ wr = w2) (fun y _ _ => os.length - (intOf y).toNat)
  case atStart => exact ⟨0, rfl, Nat.zero_le _, rfl, rfl⟩
  case round =>
    obtain ⟨k, rfl, hk, rfl, rfl⟩ := hrel
    by_cases hlt : k < os.length
    · obtain ⟨b, off, c', e, hlb, hiw, d0⟩ := (HO.out.below HB2.out).at k hlt
      cases e
      have hu := HU.out k hlt
      obtain ⟨x, hx⟩ : ∃ x, x = os.getD k 0 := ⟨_, rfl⟩
      rw [← hx] at d0 hu
      obtain ⟨xn, rfl⟩ : ∃ xn : Nat, x = (xn : Int) := ⟨x.toNat, by omega⟩
      obtain ⟨go, rfl, _, _⟩ := HAU.out (by omega)
      have va := HAT.out xn (by omega) go rfl
      have T1 : decide ((k : Int) < (os.length : Int)) = true := by simp; omega
      have i1 : (k : Int) < (os.length : Int) := by omega
      have i2 : (xn : Int) < (gs.length : Int) := by omega
      have HR := Lib.hid (show runTo vs os (k + 1) = if vs.getD xn false then Go.bits BinOp.or IntKind.u16 (runTo vs os k) (IntKind.wrap .u16 (2 ^ k)) else runTo vs os k from by rw [runTo, ← hx]; rfl)
      obtain ⟨p1, hp1⟩ : ∃ p1, p1 = vs.getD xn false := ⟨_, rfl⟩
      rw [← hp1] at va HR
      obtain ⟨ac, hac⟩ : ∃ ac, ac = runTo vs os k := ⟨_, rfl⟩
      rw [← hac] at HR ⊢
      clear hp1 hx hac
      cases p1
      · go_wp2_with fail
        exact ⟨⟨k + 1, by go_num, by omega, by rw [HR.out]; rfl, by simp⟩, by simp [intOf]; omega⟩
      · go_wp2_with fail
        exact ⟨⟨k + 1, by go_num, by omega, by rw [HR.out]; rfl, by simp⟩, by simp [intOf]; omega⟩
    · obtain rfl : k = os.length := by omega
      have T1 : decide ((os.length : Int) < (os.length : Int)) = false := by simp
      go_wp2_with fail
      go_ret
      exact ⟨by rw [← HVS.out]; rfl, HB2.out⟩

set_option maxRecDepth 100000 in
set_option maxHeartbeats 4000000 in
theorem specRun_any (n : Int) (gb : Nat) (G O : Value) (gs : List G3) (os : List Int) (hc : circB n gs os = true) (bits : Int) (hb : 0 ≤ bits ∧ bits < 65536) (w : World) (hX : BX w gb (.int .i8 n) G O) (hg : GL w G gs) (ho : IL w O os) :
    Calls Tryd.prog 110 #[.pointer (some ⟨gb, 0, none⟩), .int .u16 bits] w fun e w' => e = .returned (.int .u16 (runTo (onL bits gs) os os.length)) ∧ Below w.heap.size w w' := by
  have HG := Lib.hid hg
  have HO := Lib.hid ho
  have HX := Lib.hid hX
  obtain ⟨A, c, rfl⟩ := hg.form
  obtain ⟨A2, c2, rfl⟩ := ho.form
  have hh := head_of hc
  have HV := Lib.hid (gate_of hc)
  have HU := Lib.hid (out_of hc)
  clear hg ho hc hX
  go_enter Tryd.func110, Tryd.ntmps110
  go_wp2_with fail
  refine (specValues_any n ⟨hh.1, hh.2.1⟩ gb _ _ _ gs hh.2.2.1 HV.out bits hb w HX.out HG.out).mono ?_
  rintro e w2 ⟨U, rfl, hb2, ho2⟩
  obtain ⟨AU, cU, rfl, _, hAU⟩ := own_formc ho2
  have m1 := HX.out.below hb2
  have k2 := m1.c2
  have HB2 := Lib.hid hb2
  have HAT := Lib.hid (fun (z : Nat) (hz : z < gs.length) (g : Nat) (e : AU = some ⟨g, 0, none⟩) => show w2.cell? ⟨g, z, none⟩ = some (.bool ((onL bits gs).getD z false)) from by
    subst e
    rw [ho2.cellAt z (by omega), List.getElem?_map, List.getD, List.getElem?_eq_getElem (by unfold onL; rw [bl_len _ _ _ (Nat.le_refl _)]; exact hz)]; rfl)
  have HAU := Lib.hid hAU
  clear hb2 ho2 m1 hAU
  obtain ⟨vs, hvs⟩ : ∃ vs, vs = onL bits gs := ⟨_, rfl⟩
  rw [← hvs] at HAT
  have HVS := Lib.hid hvs
  clear hvs
  go_wp2_with fail
  go_loopw [7, 6] (fun y acc wr => ∃ k : Nat, y = .int .i64 (k : Int) ∧ k ≤ os.length ∧ acc = .int .u16 (runTo vs os k) ∧ wr = w2) (fun y _ _ => os.length - (intOf y).toNat)
  case atStart => exact ⟨0, rfl, Nat.zero_le _, rfl, rfl⟩
  case round =>
    obtain ⟨k, rfl, hk, rfl, rfl⟩ := hrel
    by_cases hlt : k < os.length
    · obtain ⟨b, off, c', e, hlb, hiw, d0⟩ := (HO.out.below HB2.out).at k hlt
      cases e
      have hu := HU.out k hlt
      obtain ⟨x, hx⟩ : ∃ x, x = os.getD k 0 := ⟨_, rfl⟩
      rw [← hx] at d0 hu
      obtain ⟨xn, rfl⟩ : ∃ xn : Nat, x = (xn : Int) := ⟨x.toNat, by omega⟩
      obtain ⟨go, rfl, _, _⟩ := HAU.out (by omega)
      have va := HAT.out xn (by omega) go rfl
      have T1 : decide ((k : Int) < (os.length : Int)) = true := by simp; omega
      have i1 : (k : Int) < (os.length : Int) := by omega
      have i2 : (xn : Int) < (gs.length : Int) := by omega
      have HR := Lib.hid (show runTo vs os (k + 1) = if vs.getD xn false then Go.bits BinOp.or IntKind.u16 (runTo vs os k) (IntKind.wrap .u16 (2 ^ k)) else runTo vs os k from by rw [runTo, ← hx]; rfl)
      obtain ⟨p1, hp1⟩ : ∃ p1, p1 = vs.getD xn false := ⟨_, rfl⟩
      rw [← hp1] at va HR
      obtain ⟨ac, hac⟩ : ∃ ac, ac = runTo vs os k := ⟨_, rfl⟩
      rw [← hac] at HR ⊢
      clear hp1 hx hac
      cases p1
      · go_wp2_with fail
        exact ⟨⟨k + 1, by go_num, by omega, by rw [HR.out]; rfl, by simp⟩, by simp [intOf]; omega⟩
      · go_wp2_with fail
        exact ⟨⟨k + 1, by go_num, by omega, by rw [HR.out]; rfl, by simp⟩, by simp [intOf]; omega⟩
    · obtain rfl : k = os.length := by omega
      have T1 : decide ((os.length : Int) < (os.length : Int)) = false := by simp
      go_wp2_with fail
      go_ret
      exact ⟨by rw [← HVS.out]; rfl, HB2.out⟩
def runV (n : Int) (gs : List G3) (os : List Int) (bits : Int) : Int := if circB n gs os then runTo (onL bits gs) os os.length else 0
def okC (n : Int) (gs : List G3) (os : List Int) : Int := if circB n gs os then 0 else 1

set_option maxRecDepth 100000 in
set_option maxHeartbeats 4000000 in
set_option maxRecDepth 100000 in
set_option maxHeartbeats 4000000 in
theorem impl_RunCircuit (v : Value) (n : Int) (gs : List G3) (os : List Int) (bits : Int) (hb : 0 ≤ bits ∧ bits < 65536) (w : World) (h : CI w v n gs os) (hE : ET w) :
    Calls Tryd.prog 37 #[v, .int .u16 bits] w fun e w' => e = .returned (.tuple #[.int .u16 (runV n gs os bits), .int .i64 (okC n gs os)]) ∧ Below w.heap.size w w' := by
  have H := Lib.hid h
  have HE := Lib.hid hE
  obtain ⟨G, O, rfl, hn, hg, ho⟩ := h
  have HG := Lib.hid hg; have HO := Lib.hid ho
  obtain ⟨A, c, rfl⟩ := hg.form
  obtain ⟨A2, c2, rfl⟩ := ho.form
  clear hg ho hE
  go_enter Tryd.func37, Tryd.ntmps37
  go_wp2_with fail
  obtain ⟨a1, hb1, s1⟩ := nw1 w (.cells #[.int .i8 n, .slice A gs.length c, .slice A2 os.length c2] 30)
  generalize World.alloc w _ = w1 at a1 hb1 s1 ⊢
  refine (openCircuit_any n _ _ gs os w1 (H.out.below hb1)).mono ?_
  rintro e w2 ⟨rfl, hb⟩
  have HB := Lib.hid (bch2 hb1 hb hb1.size)
  clear hb hb1 a1 s1
  cases hc : circB n gs os with
  | false =>
    have HC := Lib.hid hc
    clear hc
    simp only [opW, Bool.false_eq_true, if_false]
    have HB4 := Lib.hid (HB.out.trans ((nw1 w2 (.cells #[.slice none 0 0, .int .i8 0, .slice none 0 0] 74)).2.1.mono HB.out.size))
    go_wp2_with fail
    refine (reasonOf_bad 1 _ (HE.out.below HB4.out)).mono ?_
    rintro e w3 ⟨rfl, hb3⟩
    have HB3 := Lib.hid (HB4.out.trans (hb3.mono HB4.out.size))
    clear hb3
    go_wp2_with fail
    go_ret2
    exact ⟨by unfold runV okC; rw [HC.out]; rfl, HB3.out⟩
  | true =>
    have HC := Lib.hid hc
    simp only [opW, if_true]
    have HB4 := Lib.hid (HB.out.trans ((nw1 w2 (.cells #[.slice A gs.length c, .int .i8 n, .slice A2 os.length c2] 74)).2.1.mono HB.out.size))
    go_wp2_with fail
    refine (implRun_any n _ _ gs os hc bits hb _ (HG.out.below HB4.out) (HO.out.below HB4.out)).mono ?_
    rintro e w3 ⟨rfl, hb3⟩
    have HB3 := Lib.hid (HB4.out.trans (hb3.mono HB4.out.size))
    clear hb3 hc
    go_wp2_with fail
    go_ret2
    exact ⟨by unfold runV okC; rw [HC.out]; rfl, HB3.out⟩

end Go.Proofs.YtedcfmdgcafnmaaDoor
