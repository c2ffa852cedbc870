/-
  ContainsFunc of a bound method; spanOf.
-/
import Derived.Test.YthhjhfkcgokffaaYw
import Derived.Deep.Cut
namespace Go.Proofs.Ythhjhfkcgokffaa
set_option linter.unusedVariables false
set_option linter.unusedSimpArgs false
open Go.ChangeShapes Go.WideShapes Go.ChangeAt Go.RowKit Go.Shelf

/-- what is asked of a test that is handed over -/
def TestX (gf : Nat) (xv : Value) (us : Nat → Value) (p : Nat → Bool) (n : Nat) (w : World) : Prop :=
  ∀ (i : Nat) (W : World), i < n → Below w.heap.size w W → Calls Try.prog gf #[xv, us i] W fun e W' => e = .returned (.bool (p i)) ∧ Below W.heap.size W W'
theorem TestX.below {gf n : Nat} {xv : Value} {us : Nat → Value} {p : Nat → Bool} {w w1 : World} (h : TestX gf xv us p n w) (hb : Below w.heap.size w w1) : TestX gf xv us p n w1 :=
  fun i W hi hW => h i W hi (bchain hb hW)
set_option maxHeartbeats 1000000 in
theorem indexFuncX_any (A : Option Addr) (n c : Nat) (hn : n ≤ 2097152) (gf : Nat) (xv : Value) (hg : ∀ args w, (callFunc gf args).run Try.prog w = .ok (.enter gf args) w) (us : Nat → Value) (p : Nat → Bool) (w : World)
    (hc : 0 < n → ∃ b off, A = some ⟨b, off, none⟩ ∧ b < w.heap.size ∧ ∀ i, i < n → w.cell? ⟨b, off + i, none⟩ = some (us i)) (hp : TestX gf xv us p n w) :
    Calls Try.prog 145 #[.slice A n c, .func (.func gf) #[xv] #[]] w fun e w' => ∃ r : Int, e = .returned (.int .i64 r) ∧ IsFirst p n r ∧ Below w.heap.size w w' := by
  have HC := Lib.hid hc; clear hc
  have HP := Lib.hid hp; clear hp
  go_enter Try.func145, Try.ntmps145
  go_wp2_with fail
  go_loopw [8] (fun y wr => ∃ k : Nat, y = .int .i64 (k : Int) ∧ k ≤ n ∧ Hid (∀ i, i < k → p i = false) ∧ Hid (Below w.heap.size w wr)) (fun y _ => n - (intOf y).toNat)
  case atStart => exact ⟨0, rfl, Nat.zero_le _, Lib.hid (fun i hi => absurd hi (by omega)), Lib.hid (Below.refl _ _)⟩
  case round =>
    obtain ⟨k, rfl, hk, HN, HB⟩ := hrel
    by_cases hlt : k < n
    · obtain ⟨b, off, rfl, hlb, hcell⟩ := HC.out (by omega)
      have i1 : (k : Int) < (n : Int) := by omega
      have q1 : wr.cell? ⟨b, off + k, none⟩ = some (us k) := (HB.out.cell (p := ⟨b, off + k, none⟩) hlb).trans (hcell k hlt)
      have hcall := HP.out k wr hlt HB.out
      obtain ⟨u, hu⟩ : ∃ u, u = us k := ⟨_, rfl⟩
      rw [← hu] at q1 hcall
      have HCL := Lib.hid hcell
      clear hcell hu
      cases hq : p k with
      | true =>
        rw [hq] at hcall
        have HQ := Lib.hid hq
        have HCA := Lib.hid hcall
        clear hq hcall
        go_wp2_with (go_at_fn gf; refine HCA.out.mono ?_; rintro e w2 ⟨rfl, hb⟩; have HB2 := Lib.hid (bchain HB.out hb); clear hb)
        go_ret
        exact ⟨_, rfl, .inr ⟨k, rfl, hlt, HQ.out, HN.out⟩, HB2.out⟩
      | false =>
        rw [hq] at hcall
        have HQ := Lib.hid hq
        have HCA := Lib.hid hcall
        clear hq hcall
        go_wp2_with (go_at_fn gf; refine HCA.out.mono ?_; rintro e w2 ⟨rfl, hb⟩; have HB2 := Lib.hid (bchain HB.out hb); clear hb)
        exact ⟨⟨k + 1, by go_num, by omega, Lib.hid (fun i hi => by
          by_cases e : i = k
          · rw [e]; exact HQ.out
          · exact HN.out i (by omega)), HB2⟩, by simp [intOf]; omega⟩
    · obtain rfl : k = n := by omega
      have T1 : decide ((k : Int) < (k : Int)) = false := by simp
      go_wp2_with fail
      go_ret
      exact ⟨_, rfl, .inl ⟨rfl, HN.out⟩, HB.out⟩
set_option maxHeartbeats 1000000 in
theorem containsFuncX_any (A : Option Addr) (n c : Nat) (hn : n ≤ 2097152) (gf : Nat) (xv : Value) (hg : ∀ args w, (callFunc gf args).run Try.prog w = .ok (.enter gf args) w) (us : Nat → Value) (p : Nat → Bool) (w : World)
    (hc : 0 < n → ∃ b off, A = some ⟨b, off, none⟩ ∧ b < w.heap.size ∧ ∀ i, i < n → w.cell? ⟨b, off + i, none⟩ = some (us i)) (hp : TestX gf xv us p n w) :
    Calls Try.prog 130 #[.slice A n c, .func (.func gf) #[xv] #[]] w fun e w' => e = .returned (.bool (anyN p n)) ∧ Below w.heap.size w w' := by
  have HC := Lib.hid hc; clear hc
  have HP := Lib.hid hp; clear hp
  obtain ⟨bv, hbv⟩ : ∃ bv, bv = anyN p n := ⟨_, rfl⟩
  rw [← hbv]
  have HBV := Lib.hid hbv
  clear hbv
  go_enter Try.func130, Try.ntmps130
  go_wp2_with fail
  refine (indexFuncX_any A n c hn gf xv hg us p _ HC.out HP.out).mono ?_
  rintro e w2 ⟨r, rfl, hr, hb⟩
  have hr2 := hr.any
  rw [← HBV.out] at hr2
  have HB := Lib.hid hb
  clear hb hr
  go_wp2_with fail
  go_ret
  exact ⟨by first | rw [hr2] | rfl, HB.out⟩
theorem anyN_mem (sp : List (List Int)) (x : List Int) : anyN (fun i => eqB x (sp.getD i [])) sp.length = memB sp x := by
  unfold memB
  by_cases h : x ∈ sp
  · obtain ⟨i, hi, e⟩ := List.mem_iff_getElem.1 h
    rw [decide_eq_true h]
    exact anyN_yes hi (by
      have e2 : sp.getD i [] = sp[i] := by simp [List.getD, hi]
      rw [e2, e]; unfold eqB; simp)
  · rw [decide_eq_false h]
    refine anyN_no fun i hi => ?_
    have e2 : sp.getD i [] = sp[i] := by simp [List.getD, hi]
    rw [e2]
    by_cases e : eqB x sp[i] = true
    · have e3 : x = sp[i] := by unfold eqB at e; simpa using e
      exact absurd (e3 ▸ List.getElem_mem hi) h
    · simpa using e
/-- the places of the words of a basis among the first k words -/
def baT (n : Nat) (gs : List (List Int)) : Nat → List Nat
  | 0 => []
  | k + 1 => match spT n gs k with
    | none => baT n gs k
    | some sp => if memB sp (gs.getD k []) = true then baT n gs k else baT n gs k ++ [k]
theorem baT_in {n : Nat} {gs sp : List (List Int)} {k : Nat} (h : spT n gs k = some sp) (hm : memB sp (gs.getD k []) = true) : baT n gs (k + 1) = baT n gs k := by
  rw [baT, h]; show (if _ then _ else _) = _; rw [if_pos hm]
theorem baT_more {n : Nat} {gs sp : List (List Int)} {k : Nat} (h : spT n gs k = some sp) (hm : memB sp (gs.getD k []) = false) : baT n gs (k + 1) = baT n gs k ++ [k] := by
  rw [baT, h]; show (if _ then _ else _) = _; rw [if_neg (by rw [hm]; decide)]
theorem baT_len (n : Nat) (gs : List (List Int)) : ∀ k, (baT n gs k).length ≤ k
  | 0 => Nat.le_refl _
  | k + 1 => by
    have := baT_len n gs k
    rw [baT]
    split
    · omega
    · split
      · omega
      · rw [List.length_append]; simp; omega
theorem GW.other {W W' : World} {B : Nat} {s s1 : Value} {gs : List (List Int)} (h : GW W B s gs) (hg : W.grownBy W' s1.ownBlock) (hne : ∀ q, s1.ownBlock = some q → s.ownBlock ≠ some q) (hty : ∀ q, s1.ownBlock = some q → ∃ cur, W.heap[q]? = some (.cells cur 25 (0, 0))) : GW W' B s gs := by
  obtain ⟨us, vs, h1, h2, h3⟩ := h
  refine ⟨us, vs, h1.kept hg ?_, h2, ⟨fun i hi => ⟨(h3.1 i hi).1.grown_ws hg hty, fun hp k hk => Nat.lt_of_lt_of_le ((h3.1 i hi).2 hp k hk) hg.size⟩, h3.2⟩⟩
  cases e : s1.ownBlock with
  | none =>
    cases e2 : s.ownBlock with
    | none => exact .inl rfl
    | some q => exact .inr (by simp)
  | some q => exact .inr (hne q e)
theorem own_gbx {W W' : World} {B n g : Nat} {s : Value} {vs : List Value} (h : W.ownsRow B 25 1 s n vs) (hg : GBx W W' g) (hne : s.ownBlock ≠ some g) : W'.ownsRow B 25 1 s n vs := by
  refine ⟨h.1, ?_⟩
  rcases h.2 with hn | ⟨g1, cap, cur, rfl, hb, hgg, rest⟩
  · exact .inl hn
  · exact .inr ⟨g1, cap, cur, rfl, hb, (hg.2 g1 (Array.getElem?_eq_some_iff.1 hgg).1 (fun e => hne (by rw [← e]; rfl))).trans hgg, rest⟩
set_option maxHeartbeats 8000000 in
set_option maxRecDepth 100000 in
theorem spanOf_any (N : Nat) (hba : baB (N : Int) = true) (gs : List (List Int)) (hg0 : 0 < gs.length) (hg1 : gs.length ≤ 1048576) (l : Nat) (hl : 1 ≤ l ∧ l ≤ 7) (hgl : ∀ i, i < gs.length → (gs.getD i []).length = l) (hgb : ∀ i, i < gs.length → BWd (N : Int) l (gs.getD i []))
    (A : Option Addr) (c : Nat) (us : Nat → Value) (w : World) (hc : 0 < gs.length → ∃ b off, A = some ⟨b, off, none⟩ ∧ b < w.heap.size ∧ ∀ i, i < gs.length → w.cell? ⟨b, off + i, none⟩ = some (us i)) (hu : ∀ i, i < gs.length → NS w (us i) (gs.getD i [])) :
    Calls Try.prog 99 #[.int .i64 (N : Int), .slice A gs.length c] w fun e w' => ∃ r1 r2, e = .returned (.tuple #[r1, r2, .int .i64 (match spT N gs gs.length with | none => 7 | some _ => 0)]) ∧ Below w.heap.size w w' ∧
      match spT N gs gs.length with
      | none => r1 = .slice none 0 0 ∧ r2 = .slice none 0 0
      | some sp => GW w' w.heap.size r2 sp ∧ ∃ vb, w'.ownsRow w.heap.size 25 1 r1 (baT N gs gs.length).length vb ∧ vb = (baT N gs gs.length).map us := by
  have hmf : ∀ (fn : Fn) (first cap : Array Value) (w : World), (Instr.makeFunc fn first cap).run Try.prog w = .ok (.func fn first cap) w := fun _ _ _ _ => rfl
  obtain ⟨i0, hi, hz0, hz1, hz2⟩ := info_parts info25
  obtain ⟨i9, hi9, hz90, hz91, hz92⟩ := info_parts infoWord
  have hN : N ≤ 256 ∧ 1 < N := by rcases baB_cases hba with e | e | e | e <;> omega
  have hln0 := hgl 0 hg0
  have HST := Lib.hid (fun k sp hk h => spT_ok (n := N) hba (gs := gs) (l := l) hln0 hgb k sp hk h)
  have HS0 : Hid (spT N gs 0 = some [tab l fun _ => 0]) := Lib.hid (by rw [← hln0]; rfl)
  obtain ⟨b, off, rfl, hlb, hcell⟩ := hc hg0
  have q0 := hcell 0 hg0
  rw [Nat.add_zero] at q0
  obtain ⟨A0, c0, e0⟩ := (hu 0 hg0).form
  rw [e0, hln0] at q0
  have HCL := Lib.hid hcell
  have HU := Lib.hid hu
  have HGL := Lib.hid hgl
  have HGB := Lib.hid hgb
  have ig : (0 : Int) < (gs.length : Int) := by omega
  obtain ⟨fin, hfin⟩ : ∃ fin, fin = spT N gs gs.length := ⟨_, rfl⟩
  rw [← hfin]
  have HFIN := Lib.hid hfin
  obtain ⟨B0, hB0⟩ : ∃ B0, B0 = w.heap.size := ⟨_, rfl⟩
  have HB0 := Lib.hid hB0
  rw [← hB0]
  have hlb' : b < B0 := by rw [hB0]; exact hlb
  have HBA := Lib.hid hba
  have hs1' : w.heap.size ≤ B0 := Nat.le_of_eq HB0.out.symm
  clear hc hcell hu hgl hgb hln0 hfin e0 hB0 hba
  go_enter Try.func99, Try.ntmps99
  go_wp2_with (at_make; refine wpList_make_full _ rfl _ _ 25 rfl w.heap.size 39 i0 (.int .u16 0) 1 Try.underlying25 hi hz0 hz1 _ _ _ _ l rfl rfl rfl rfl (by rw [hz2]; omega) (by unfold maxLen; omega) (Nat.le_refl _) ?_)
  intro w2 hown hgrow
  rw [made_tab] at hown
  have hs1 : B0 ≤ w.heap.size := Nat.le_of_eq HB0.out
  have hpo := (RW.of_own hown).po (tab_in fun i _ => ⟨Int.le_refl 0, by decide⟩) hs1 (by rw [tab_len]; unfold maxLen; omega)
  rw [tab_len] at hpo
  have hb2 : Below B0 w w2 := (Below.refl _ w).grown hgrow hs1 (fun k hk => by cases hk)
  have hg1' := GW.one (B := B0) (Nat.le_trans hs1 hgrow.size) hpo
  have hb3 : Below B0 w (w2.alloc (.cells #[.slice (some ⟨w.heap.size, 0, none⟩) l l] 25)) := hb2.alloc (Nat.le_trans hs1 hgrow.size) _
  have HG0 := Lib.hid hg1'
  have HBB0 := Lib.hid hb3
  have HSZ : Hid (B0 < (w2.alloc (.cells #[.slice (some ⟨w.heap.size, 0, none⟩) l l] 25)).heap.size) := Lib.hid (by have := hgrow.size; rw [World.size_alloc]; omega)
  have HO0 : Hid ((w2.alloc (.cells #[.slice (some ⟨w.heap.size, 0, none⟩) l l] 25)).ownsRow B0 25 1 (.slice none 0 0) (baT N gs 0).length ((baT N gs 0).map us)) := Lib.hid ⟨rfl, .inl ⟨rfl, rfl⟩⟩
  clear hown hgrow hpo hb2 hg1' hb3 q0
  go_wp2_with fail
  go_loopw [17, 4, 5] (fun y s1 s2 wr => ∃ (i : Nat) (sp : List (List Int)), y = .int .i64 (i : Int) ∧ i ≤ gs.length ∧ Hid (spT N gs i = some sp) ∧ Hid (GW wr B0 s2 sp) ∧ Hid (Below B0 w wr) ∧ Hid (B0 < wr.heap.size) ∧ Hid (wr.ownsRow B0 25 1 s1 (baT N gs i).length ((baT N gs i).map us)) ∧ Hid (∀ q, s1.ownBlock = some q → s2.ownBlock ≠ some q)) (fun y _ _ _ => gs.length - (intOf y).toNat)
  case atStart => exact ⟨0, _, rfl, Nat.zero_le _, HS0, HG0, HBB0, HSZ, HO0, Lib.hid (fun q hq => by cases hq)⟩
  case round =>
    clear HG0 HBB0 HSZ HS0 HO0
    obtain ⟨i, sp, rfl, hi2, HSP, HG, HBW, HS, HO, HNE⟩ := hrel
    obtain ⟨A1, c1, rfl⟩ := HG.out.form
    obtain ⟨Ab, cb, eb, _⟩ := own_form HO.out
    by_cases hlt : i < gs.length
    · have i1 : (i : Int) < (gs.length : Int) := by omega
      have hok := HST.out i sp hi2 HSP.out
      have q1 : wr.cell? ⟨b, off + i, none⟩ = some (us i) := (HBW.out.cell (p := ⟨b, off + i, none⟩) hlb').trans (HCL.out i hlt)
      have hnx := (HU.out i hlt).below (HBW.out.mono hs1')
      have hxl := HGL.out i hlt
      have hnx0 := HU.out i hlt
      have hsl : ∀ j, j < sp.length → (sp.getD j []).length = l := fun j hj => by
        have e : sp.getD j [] = sp[j] := by simp [List.getD, hj]
        rw [e]; exact (hok.2.2 _ (List.getElem_mem hj)).1
      have HIN := Lib.hid (fun hm => And.intro (spT_in (n := N) (gs := gs) (k := i) HSP.out hm) (baT_in (n := N) (gs := gs) (k := i) HSP.out hm))
      have HMY := Lib.hid (fun hm h3 => spT_many (n := N) (gs := gs) (k := i) HSP.out hm h3)
      have HMO := Lib.hid (fun hm h3 => And.intro (spT_more (n := N) (gs := gs) (k := i) HSP.out hm h3) (baT_more (n := N) (gs := gs) (k := i) HSP.out hm))
      obtain ⟨x, hx⟩ : ∃ x, x = gs.getD i [] := ⟨_, rfl⟩
      rw [← hx] at HIN HMY HMO hnx hxl hnx0
      obtain ⟨Ax, cx, eux⟩ := hnx.form
      rw [hxl] at eux
      rw [eux] at q1 hnx hnx0
      have HNX0 := Lib.hid hnx0
      clear hnx0
      obtain ⟨A2, c2, us2, e2, hc2, hu2⟩ := HG.out.open
      cases e2
      have hcf := containsFuncX_any A1 sp.length c1 (by omega) 77 (.slice Ax l cx) (enters_of Try.func77 (by kernel_rfl) rfl) us2 (fun j => eqB x (sp.getD j [])) wr hc2 (fun j W hj hW => (equals_any (.slice Ax l cx) (us2 j) x (sp.getD j []) (by omega) (by rw [hsl j hj]; omega) W (hnx.below hW) ((hu2 j hj).below hW)).mono (by rintro e w' ⟨rfl, m, rfl⟩; exact ⟨rfl, bdrewN (Below.refl _ W) m⟩))
      rw [anyN_mem] at hcf
      obtain ⟨mv, hmv⟩ : ∃ mv, mv = memB sp x := ⟨_, rfl⟩
      rw [← hmv] at hcf HIN HMY HMO
      have HCF := Lib.hid hcf
      have HNX := Lib.hid hnx
      have HSL := Lib.hid hsl
      have HEU := Lib.hid eux
      obtain ⟨hok1, hok2, hok3⟩ := hok
      have HOK3 := Lib.hid hok3
      have hbl := baT_len N gs i
      subst eb
      clear hcf hnx hsl hx hmv eux hc2 hu2 hok3
      cases mv with
      | true =>
        obtain ⟨HIN1, HIN2⟩ := HIN.out (by first | rfl | trivial)
        have HI1 := Lib.hid HIN1
        have HI2 := Lib.hid HIN2
        clear HIN1 HIN2
        go_wp2_with fail
        refine HCF.out.mono ?_
        rintro e w4 ⟨rfl, hb4⟩
        have HG4 := Lib.hid (HG.out.below hb4)
        have HB4 : Hid (Below B0 w w4) := Lib.hid (HBW.out.trans (hb4.mono (by have := HS.out; omega)))
        have HS4 : Hid (B0 < w4.heap.size) := Lib.hid (Nat.lt_of_lt_of_le HS.out hb4.size)
        have HO4 := Lib.hid (own_below HO.out hb4)
        clear hb4
        go_wp2_with fail
        exact ⟨⟨i + 1, sp, by go_num, by omega, HI1, HG4, HB4, HS4, Lib.hid (by rw [HI2.out]; exact HO4.out), HNE⟩, by simp [intOf]; omega⟩
      | false =>
        obtain ⟨m, hm⟩ : ∃ m : Nat, m = sp.length * N := ⟨_, rfl⟩
        have hmul : (sp.length : Int) * (N : Int) = (m : Int) := by rw [hm, Int.natCast_mul]
        have hmb : m ≤ 300 * 256 := by rw [hm]; exact Nat.mul_le_mul hok2 hN.1
        have hwr : IntKind.i64.wrap ((sp.length : Int) * (N : Int)) = (m : Int) := by rw [hmul, IntKind.wrap_i64]; omega
        by_cases h3 : 300 < sp.length * N
        · have T1 : decide ((300 : Int) < (m : Int)) = true := by rw [decide_eq_true_iff]; omega
          have hnone := spT_none (HMY.out (by first | rfl | trivial) h3) (gs.length - (i + 1))
          rw [show i + 1 + (gs.length - (i + 1)) = gs.length from by omega] at hnone
          obtain rfl : fin = none := by rw [HFIN.out, hnone]
          clear h3 hnone hm hmul
          go_wp2_with fail
          refine HCF.out.mono ?_
          rintro e w4 ⟨rfl, hb4⟩
          have HB4 : Hid (Below B0 w w4) := Lib.hid (HBW.out.trans (hb4.mono (by have := HS.out; omega)))
          clear hb4
          go_wp2_with fail
          go_ret3
          exact ⟨_, _, rfl, HB4.out, rfl, rfl⟩
        · have T1 : decide ((300 : Int) < (m : Int)) = false := by rw [decide_eq_false_iff_not]; omega
          have HM3 := Lib.hid h3
          obtain ⟨hmo1, hmo2⟩ := HMO.out (by first | rfl | trivial) h3
          rw [show grP sp x N = grR sp x (N - 1) from by
            have h4 := grR_eq (sp := sp) (x := x) (fun y hy => by rw [(HOK3.out y hy).1, hxl]) (fun y hy z hz => ((HOK3.out y hy).mem z hz).1) (N - 1)
            rw [show N - 1 + 1 = N from by omega] at h4
            exact h4.symm] at hmo1
          have HMO1 := Lib.hid hmo1
          have HMO2 := Lib.hid hmo2
          clear h3 hm hmul hmo1 hmo2
          go_wp2_with fail
          refine HCF.out.mono ?_
          rintro e w4 ⟨rfl, hb4⟩
          have HG4 := Lib.hid (HG.out.below hb4)
          have HB4 : Hid (Below B0 w w4) := Lib.hid (HBW.out.trans (hb4.mono (by have := HS.out; omega)))
          have HS4 : Hid (B0 < w4.heap.size) := Lib.hid (Nat.lt_of_lt_of_le HS.out hb4.size)
          have HNX5 : Hid (∀ W, Below B0 w W → NS W (.slice Ax l cx) x) := Lib.hid (fun W hW => HNX0.out.below (hW.mono hs1'))
          have ho4 := own_below HO.out (hb4.alloc hb4.size (.cells #[.slice Ax l cx] 25))
          have HO4 := Lib.hid ho4
          have HSP4 := Lib.hid (own_spot ho4)
          have HTY4 := Lib.hid (fun k hk => own_tyw ho4 k hk)
          clear hb4 ho4
          go_wp2_with (at_builtin; go_loud (refine wpList_append_vl rfl _ _ 44 rfl B0 25 i9 (.slice none 0 0) Try.underlying44 hi9 hz90 hz91 hz92 rfl (.slice Ab (baT N gs i).length cb) (baT N gs i).length ((baT N gs i).map us) rfl HO4.out ⟨w4.heap.size, 0, none⟩ [.slice Ax l cx] 1 (by simp) rfl ?c1 ?c2 ?c3 ?c4 ?_))
          case c1 => exact row1_cells w4 _ _
          case c2 => exact fun u hu => by rw [List.mem_singleton] at hu; rw [hu]; rfl
          case c3 => simp; omega
          case c4 => have := HS4.out; simp; omega
          intro s' wy hown hgrow hob
          have hgw : GW wy B0 (.slice A1 sp.length c1) sp := GW.other (HG4.out.below ((Below.refl _ w4).alloc (Nat.le_refl _) (.cells #[.slice Ax l cx] 25))) hgrow HNE.out HTY4.out
          have hb5 : Below w4.heap.size w4 (w4.alloc (.cells #[.slice Ax l cx] 25)) := (Below.refl _ w4).alloc (Nat.le_refl _) _
          have hnx5 : NS wy (.slice Ax l cx) x := by
            refine HNX5.out wy ?_
            exact ((HB4.out.alloc (by have := HS4.out; omega) _).grown hgrow (by have := HS4.out; simp; omega) (fun q hq => (HSP4.out q hq).1))
          have hgn := grown_any N hN.1 hN.2 sp x hok2 hok1 HM3.out (by omega) (fun j hj => by rw [HSL.out j hj, hxl]) B0 (.slice A1 sp.length c1) (.slice Ax l cx) wy (by have := HS4.out; have := hgrow.size; simp at this; omega) hgw hnx5
          have HGN := Lib.hid hgn
          have HB5 : Hid (Below B0 w wy) := Lib.hid ((HB4.out.alloc (by have := HS4.out; omega) _).grown hgrow (by have := HS4.out; simp; omega) (fun q hq => (HSP4.out q hq).1))
          have hsy : w4.heap.size < wy.heap.size := by have := hgrow.size; simp at this; omega
          have hwn := Lib.hid hown
          obtain ⟨g, hgA, hgB, hgl2⟩ : ∃ g, A1 = some ⟨g, 0, none⟩ ∧ B0 ≤ g ∧ g < w4.heap.size := by
            obtain ⟨us7, vs7, h71, _⟩ := HG4.out
            obtain ⟨A7, c7, e7, _, h7⟩ := own_form h71
            cases e7
            exact h7 hok1
          subst hgA
          have HOB : Hid (s'.ownBlock ≠ some g ∧ ∀ q, s'.ownBlock = some q → q < wy.heap.size) := Lib.hid ⟨fun e => by
            rcases hob with e1 | e1
            · rw [e] at e1
              exact HNE.out g e1.symm rfl
            · rw [e] at e1
              have := Option.some.inj e1
              first | omega | (simp at this; omega), fun q hq => (own_spot hown q hq).2⟩
          clear hown hgrow hgw hb5 hnx5 hgn hob
          go_wp2_with fail
          refine HGN.out.mono ?_
          rintro e w6 ⟨r6, rfl, hg6, hb6, hx6⟩
          obtain ⟨A6, c6, rfl⟩ := hg6.form
          obtain ⟨hx61, hx62⟩ := hx6 g rfl
          have HG6 := Lib.hid hg6
          have HB6 : Hid (Below B0 w w6) := Lib.hid (HB5.out.trans hb6)
          have HS6 : Hid (B0 < w6.heap.size) := Lib.hid (by have := HS4.out; have := hb6.size; omega)
          have HO6 : Hid (w6.ownsRow B0 25 1 s' (baT N gs (i + 1)).length ((baT N gs (i + 1)).map us)) := Lib.hid (by
            have h7 := own_gbx hwn.out hx61 HOB.out.1
            rw [HMO2.out, List.length_append, List.map_append, List.map_cons, List.map_nil, HEU.out]
            exact h7)
          have HN6 : Hid (∀ q, s'.ownBlock = some q → (Value.slice A6 (grR sp x (N - 1)).length c6).ownBlock ≠ some q) := Lib.hid (fun q hq e => by
            have h8 := HOB.out.2 q hq
            rcases hx62 q e with h9 | h9
            · subst h9; exact HOB.out.1 hq
            · omega)
          clear hg6 hb6 hx6 hx61 hx62
          go_wp2_with fail
          exact ⟨⟨i + 1, grR sp x (N - 1), by go_num, by omega, HMO1, HG6, HB6, HS6, HO6, HN6⟩, by simp [intOf]; omega⟩
    · obtain rfl : i = gs.length := by omega
      have T6 : decide ((gs.length : Int) < (gs.length : Int)) = false := by simp
      obtain rfl : fin = some sp := by rw [HFIN.out, HSP.out]
      subst eb
      go_wp2_with fail
      go_ret3
      exact ⟨_, _, rfl, HBW.out, HG.out, HO.out⟩
end Go.Proofs.Ythhjhfkcgokffaa
