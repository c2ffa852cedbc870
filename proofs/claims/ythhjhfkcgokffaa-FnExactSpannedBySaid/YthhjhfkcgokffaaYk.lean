/-
  Codes that are taken greedily: of the program; GreedyCode.
-/
import Derived.Test.YthhjhfkcgokffaaYj
namespace Go.Proofs.Ythhjhfkcgokffaa
set_option linter.unusedVariables false
set_option linter.unusedSimpArgs false
open Go.ChangeShapes Go.WideShapes Go.ChangeAt Go.RowKit

theorem n1w (w : World) (A : Obj) : (w.alloc A).heap[w.heap.size]? = some A ∧ Below w.heap.size w (w.alloc A) ∧ (w.alloc A).heap.size = w.heap.size + 1 := ⟨heap_alloc_new _ _, (Below.refl _ w).alloc (Nat.le_refl _) A, World.size_alloc _ _⟩
set_option maxHeartbeats 1000000 in
/-- the test: is a word too near? -/
theorem isNear_any (g1 g2 : Nat) (x z : List Int) (ui zv : Value) (l d : Int) (hz : z.length ≤ 1048576) (hxz : x.length = z.length) (w : World) (h1 : w.cell? ⟨g1, 0, none⟩ = some zv) (h2 : w.cell? ⟨g2, 1, none⟩ = some (.int .i64 d)) (hx : NS w ui x) (hzs : NS w zv z) :
    Calls Try.prog 208 #[ui, .pointer (some ⟨g1, 0, none⟩), .pointer (some ⟨g2, 0, none⟩)] w fun e w' => e = .returned (.bool (decide ((apN x z : Int) < d))) ∧ Below w.heap.size w w' := by
  have hea : ∀ y, Calls Try.prog 82 #[zv, ui] (w.drewN y) fun e w'' => e = .returned (.int .i64 (apN x z : Int)) ∧ ∃ n, w'' = w.drewN n :=
    fun y => (apart_any zv ui z x hz hxz.symm (w.drewN y) (hzs.below (bdrewN (Below.refl _ w) y)) (hx.below (bdrewN (Below.refl _ w) y))).mono (by rintro e w' ⟨rfl, m, rfl⟩; exact ⟨by rw [apN_comm hxz.symm], y + m, by simp⟩)
  obtain ⟨a, ha⟩ : ∃ a, a = apN x z := ⟨_, rfl⟩
  rw [← ha] at hea ⊢
  have HEA := Lib.hid hea
  obtain ⟨bv, hbv⟩ : ∃ bv, bv = decide ((a : Int) < d) := ⟨_, rfl⟩
  have T1 := hbv.symm
  rw [← hbv]
  clear hea ha hbv hx hzs
  go_enter Try.func208, Try.ntmps208
  go_wp2_with fail
  go_quiet ((with_reducible exact HEA.out _))
  go_wp2_with fail
  go_ret
  exact ⟨by first | rfl | rw [T1], bdrewN (Below.refl _ w) nq⟩
theorem own_tyw {w : World} {B n : Nat} {s : Value} {vs : List Value} (h : w.ownsRow B 25 1 s n vs) (k : Nat) (hk : s.ownBlock = some k) : ∃ cur, w.heap[k]? = some (.cells cur 25 (0, 0)) := by
  rcases h.2 with ⟨e, _⟩ | ⟨g, _, cur, e, _, hg, _⟩
  · rw [e] at hk; simp [Value.ownBlock] at hk
  · rw [e] at hk
    have : g = k := by simpa [Value.ownBlock] using hk
    subst this
    exact ⟨cur, hg⟩
theorem WO.lower {w : World} {B B' T : Nat} {v : Value} {gs : List (List Int)} (h : WO w B T v gs) (hB : B' ≤ B) : WO w B' T v gs := by
  obtain ⟨A, c, us, e, q1, q2, q3, hc, hr⟩ := h
  refine ⟨A, c, us, e, q1, q2, q3, fun hn => ?_, ⟨fun i hi => ⟨(hr.1 i hi).1.lower hB, (hr.1 i hi).2⟩, hr.2⟩⟩
  obtain ⟨b, cur, hA, hB1, hT, hg, hcell⟩ := hc hn
  exact ⟨b, cur, hA, Nat.le_trans hB hB1, hT, hg, hcell⟩
/-- the code behind the checks of a greedy code's length and distance -/
def gkC (n l d : Int) : Int := if inB l 1 7 = true ∧ inB d 1 l = true then (if 5000 < n ^ l.toNat then 3 else 0) else 2
set_option maxHeartbeats 2000000 in
theorem check_any (n : Int) (hbn : baB n = true) (l d : Int) (hl : -9223372036854775808 ≤ l ∧ l ≤ 9223372036854775807) (hd : -9223372036854775808 ≤ d ∧ d ≤ 9223372036854775807) (w : World) :
    Calls Try.prog 158 #[.agg #[.int .i64 l, .int .i64 d], .int .i64 n] w fun e w' => e = .returned (.int .i64 (gkC n l d)) ∧ Below w.heap.size w w' := by
  have hIL := isLen2_any l
  have HIL := Lib.hid hIL
  obtain ⟨k1, hb1, s1⟩ := n1w w (.cells #[.int .i64 l, .int .i64 d] 91)
  obtain ⟨w1, hw1⟩ : ∃ w1, w1 = w.alloc (.cells #[.int .i64 l, .int .i64 d] 91) := ⟨_, rfl⟩
  rw [← hw1] at k1 hb1 s1
  have c0 : w1.cell? ⟨w.heap.size, 0, none⟩ = some (.int .i64 l) := (cell_of_row _ _ _ _ _ _ k1).trans rfl
  have c1 : w1.cell? ⟨w.heap.size, 1, none⟩ = some (.int .i64 d) := (cell_of_row _ _ _ _ _ _ k1).trans rfl
  have HB1 := Lib.hid hb1
  have HBN := Lib.hid hbn
  obtain ⟨gc, hgc⟩ : ∃ gc, gc = gkC n l d := ⟨_, rfl⟩
  rw [← hgc]
  have HGC := Lib.hid hgc
  have HW1 := Lib.hid hw1
  clear hIL k1 hb1 s1 hbn hgc hw1
  go_enter Try.func158, Try.ntmps158
  go_upto_region 1 with fail
  rw [← HW1.out]
  clear HW1
  by_cases h1 : inB l 1 7 = true
  case neg =>
    have h1' : inB l 1 7 = false := by simpa using h1
    have H1 := Lib.hid h1'
    have HR : Hid (gc = 2) := Lib.hid (by rw [HGC.out]; unfold gkC; rw [if_neg (fun h => h1 h.1)])
    clear h1 h1'
    go_wp2_with fail
    refine (HIL.out _).mono ?_
    rintro e w' ⟨rfl, rfl⟩
    rw [H1.out]
    go_wp2_with fail
    go_ret
    exact ⟨by rw [HR.out]; rfl, HB1.out⟩
  have H1 := Lib.hid h1
  have hl2 := inB_yes h1
  by_cases h2 : inB d 1 l = true
  case neg =>
    have HR : Hid (gc = 2) := Lib.hid (by rw [HGC.out]; unfold gkC; rw [if_neg (fun h => h2 h.2)])
    have hdl : d < 1 ∨ (¬ d < 1 ∧ l < d) := by
      by_cases e : d < 1
      · exact .inl e
      · refine .inr ⟨e, ?_⟩
        by_cases e2 : l < d
        · exact e2
        · exact absurd (show inB d 1 l = true from decide_eq_true (by omega)) h2
    clear h1 h2
    rcases hdl with e | ⟨e, e2⟩
    · have T1 : decide (d < 1) = true := decide_eq_true e
      go_wp2_with fail
      refine (HIL.out _).mono ?_
      rintro e w' ⟨rfl, rfl⟩
      rw [H1.out]
      go_wp2_with fail
      go_ret
      exact ⟨by rw [HR.out]; rfl, HB1.out⟩
    · have T1 : decide (d < 1) = false := decide_eq_false e
      have T2 : decide (l < d) = true := decide_eq_true e2
      go_wp2_with fail
      refine (HIL.out _).mono ?_
      rintro e w' ⟨rfl, rfl⟩
      rw [H1.out]
      go_wp2_with fail
      go_ret
      exact ⟨by rw [HR.out]; rfl, HB1.out⟩
  have hd2 := inB_yes h2
  have T1 : decide (d < 1) = false := decide_eq_false (by omega)
  have T2 : decide (l < d) = false := decide_eq_false (by omega)
  obtain ⟨N, hN⟩ : ∃ N : Nat, l = (N : Int) := ⟨l.toNat, by omega⟩
  subst hN
  have hN7 : N ≤ 7 := by omega
  have hpw := pw_b HBN.out N hN7
  obtain ⟨P, hP⟩ : ∃ P : Nat, n ^ N = (P : Int) := ⟨(n ^ N).toNat, by omega⟩
  have hcnt := count_any n HBN.out N hN7
  rw [hP] at hcnt
  have HCNT := Lib.hid hcnt
  have hPb : P ≤ 72057594037927936 := by omega
  have hgk : gc = if 5000 < (P : Int) then 3 else 0 := by
    rw [HGC.out]; unfold gkC
    rw [if_pos ⟨h1, h2⟩, show ((N : Int).toNat) = N from rfl, hP]
  by_cases h5 : 5000 < P
  · have T5 : decide ((5000 : Int) < (P : Int)) = true := by simp; omega
    have HR : Hid (gc = 3) := Lib.hid (by rw [hgk, if_pos (by omega)])
    clear h1 h2 hcnt hpw hP hgk h5
    go_wp2_with fail
    refine (HIL.out _).mono ?_
    rintro e w' ⟨rfl, rfl⟩
    rw [H1.out]
    go_wp2_with fail
    refine (HCNT.out _).mono ?_
    rintro e w' ⟨rfl, rfl⟩
    go_wp2_with fail
    go_ret
    exact ⟨by rw [HR.out]; rfl, HB1.out⟩
  · have T5 : decide ((5000 : Int) < (P : Int)) = false := by simp; omega
    have HR : Hid (gc = 0) := Lib.hid (by rw [hgk, if_neg (by omega)])
    clear h1 h2 hcnt hpw hP hgk h5
    go_wp2_with fail
    refine (HIL.out _).mono ?_
    rintro e w' ⟨rfl, rfl⟩
    rw [H1.out]
    go_wp2_with fail
    refine (HCNT.out _).mono ?_
    rintro e w' ⟨rfl, rfl⟩
    go_wp2_with fail
    go_ret
    exact ⟨by rw [HR.out]; rfl, HB1.out⟩
set_option maxHeartbeats 8000000 in
theorem greedyWords_any (n : Int) (hbn : baB n = true) (N : Nat) (hN1 : 1 ≤ N) (hN7 : N ≤ 7) (d : Int) (hd : -9223372036854775808 ≤ d ∧ d ≤ 9223372036854775807) (P : Nat) (hP : n ^ N = (P : Int)) (w : World) :
    Calls Try.prog 207 #[.agg #[.int .i64 (N : Int), .int .i64 d], .int .i64 n] w fun e w' => ∃ r, e = .returned (.tuple #[r, .int .i64 (if (grT n N d P).length ≤ 300 then 0 else 7)]) ∧ WO w' w.heap.size w'.heap.size r (if (grT n N d P).length ≤ 300 then grT n N d P else []) ∧ Below w.heap.size w w' := by
  have hmf : ∀ (fn : Fn) (first cap : Array Value) (w : World), (Instr.makeFunc fn first cap).run Try.prog w = .ok (.func fn first cap) w := fun _ _ _ _ => rfl
  obtain ⟨i0, hi, hz0, hz1, hz2⟩ := info_parts infoWord
  have hpw := pw_b hbn N hN7
  have hPb : P ≤ 72057594037927936 := by omega
  have HBN := Lib.hid hbn
  have hcnt := count_any n hbn N hN7
  rw [hP] at hcnt
  have HCNT := Lib.hid hcnt
  have hne : (GW w w.heap.size (.slice none 0 0) (grT n N d 0)) := GW.nil w w.heap.size
  obtain ⟨k1, hb1, s1⟩ := n1w w (.cells #[.int .i64 (N : Int), .int .i64 d] 91)
  obtain ⟨w1, hw1⟩ : ∃ w1, w1 = w.alloc (.cells #[.int .i64 (N : Int), .int .i64 d] 91) := ⟨_, rfl⟩
  rw [← hw1] at k1 hb1 s1
  have c0 : w1.cell? ⟨w.heap.size, 0, none⟩ = some (.int .i64 (N : Int)) := (cell_of_row _ _ _ _ _ _ k1).trans rfl
  obtain ⟨rc, hrc⟩ : ∃ rc : Int, rc = if (grT n N d P).length ≤ 300 then 0 else 7 := ⟨_, rfl⟩
  obtain ⟨ra, hra⟩ : ∃ ra, ra = if (grT n N d P).length ≤ 300 then grT n N d P else [] := ⟨_, rfl⟩
  rw [← hrc, ← hra]
  have HGO : Hid ((grT n N d P).length ≤ 300 → rc = 0 ∧ ra = grT n N d P) := Lib.hid (fun h => ⟨by rw [hrc, if_pos h], by rw [hra, if_pos h]⟩)
  have HGM : Hid (¬ (grT n N d P).length ≤ 300 → rc = 7 ∧ ra = []) := Lib.hid (fun h => ⟨by rw [hrc, if_neg h], by rw [hra, if_neg h]⟩)
  obtain ⟨B0, hB0⟩ : ∃ B0, B0 = w.heap.size := ⟨_, rfl⟩
  have hg0 : GW w1 B0 (.slice none 0 0) (grT n N d 0) := GW.nil w1 B0
  have HG0 := Lib.hid hg0
  have HBB0 : Hid (Below B0 w w1) := Lib.hid (by rw [hB0]; exact hb1)
  have HS0 : Hid (B0 < w1.heap.size) := Lib.hid (by rw [hB0, s1]; omega)
  have HKB : Hid (w1.heap[B0]? = some (.cells #[.int .i64 (N : Int), .int .i64 d] 91 (0, 0))) := Lib.hid (by rw [hB0]; exact k1)
  have HW1 := Lib.hid hw1
  have HBZ := Lib.hid hB0
  rw [← hB0] at c0 ⊢
  clear hne hcnt hpw hP hrc hra hg0 k1 hb1 s1 hw1
  go_enter Try.func207, Try.ntmps207
  go_upto_region 1 with fail
  rw [← HW1.out, ← HBZ.out]
  clear HW1 HBZ hB0
  go_wp2_with fail
  refine (HCNT.out _).mono ?_
  rintro e w' ⟨rfl, rfl⟩
  clear c0
  go_wp2_with fail
  go_loopw [14, 6] (fun y s wr => ∃ k : Nat, y = .int .i64 (k : Int) ∧ k ≤ P ∧ (grT n N d k).length ≤ 300 ∧ Hid (GW wr B0 s (grT n N d k)) ∧ Hid (Below B0 w wr) ∧ Hid (B0 < wr.heap.size) ∧ Hid (wr.heap[B0]? = some (.cells #[.int .i64 (N : Int), .int .i64 d] 91 (0, 0)))) (fun y _ _ => P - (intOf y).toNat)
  case atStart => exact ⟨0, rfl, Nat.zero_le _, by simp [grT], HG0, HBB0, HS0, HKB⟩
  case round =>
    clear HG0 HBB0 HS0 HKB
    obtain ⟨k, rfl, hk, h300, HG, HB, HS, HK⟩ := hrel
    obtain ⟨A, c, rfl⟩ := HG.out.form
    by_cases hlt : k < P
    · have i1 : (k : Int) < (P : Int) := by omega
      have hat := wordAt_any n HBN.out N hN1 hN7 (k : Int) (by omega) (by omega) wr
      have HAT := Lib.hid hat
      have HTK := Lib.hid (fun h => grT_take (b := n) (N := N) (d := d) (k := k) h)
      have HSK := Lib.hid (fun h => grT_skip (b := n) (N := N) (d := d) (k := k) h)
      have HOV := Lib.hid (fun h h3 => grT_over (b := n) (N := N) (d := d) (k := k) hlt h h3)
      obtain ⟨tk, htk⟩ : ∃ tk, tk = grT n N d k := ⟨_, rfl⟩
      obtain ⟨x, hx⟩ : ∃ x, x = waL n (k : Int) N := ⟨_, rfl⟩
      have HLT : Hid (∀ i, i < tk.length → (tk.getD i []).length = x.length) := Lib.hid (fun i hi => by rw [htk] at hi ⊢; rw [grT_at hi, hx, waL_len])
      have hxl : x.length = N := by rw [hx, waL_len]
      rw [← htk, ← hx] at HTK HSK HOV
      rw [← htk] at HG h300
      rw [← hx] at HAT
      have HTKE := Lib.hid htk
      obtain ⟨nv, hnv⟩ : ∃ nv, nv = anyN (nearG tk x d) tk.length := ⟨_, rfl⟩
      rw [← hnv] at HTK HSK HOV
      have HNV := Lib.hid hnv
      have ht0 : grT n N d k = tk := htk.symm
      rw [ht0]
      have q0 : wr.cell? ⟨B0, 0, none⟩ = some (.int .i64 (N : Int)) := (cell_of_row _ _ _ _ _ _ HK.out).trans rfl
      clear hat htk hx hnv ht0
      go_wp2_with fail
      refine HAT.out.mono ?_
      rintro e w2 ⟨r, rfl, hpo, hb2⟩
      obtain ⟨Ar, nr, cr, rfl⟩ := hpo.frm
      have HPO := Lib.hid hpo
      have HB2 := Lib.hid hb2
      obtain ⟨wx, hwx⟩ : ∃ wx, wx = w2.alloc (.cells #[.slice Ar nr cr] 25) := ⟨_, rfl⟩
      obtain ⟨kx, hbx, sx⟩ := n1w w2 (.cells #[.slice Ar nr cr] 25)
      rw [← hwx] at kx hbx sx
      have HBX := Lib.hid hbx
      have HSX := Lib.hid sx
      have hb3 : Below wr.heap.size wr wx := bchain hb2 hbx
      have hgn : GW wx B0 (.slice A tk.length c) tk := HG.out.below hb3
      have hkc : wx.heap[B0]? = some (.cells #[.int .i64 (N : Int), .int .i64 d] 91 (0, 0)) := (hb3.block B0 HS.out).trans HK.out
      have hcx : wx.cell? ⟨w2.heap.size, 0, none⟩ = some (.slice Ar nr cr) := (cell_of_row _ _ _ _ _ _ kx).trans rfl
      have hcd : wx.cell? ⟨B0, 1, none⟩ = some (.int .i64 d) := (cell_of_row _ _ _ _ _ _ hkc).trans rfl
      have hns : NS wx (.slice Ar nr cr) x := hpo.ns.below hbx
      obtain ⟨A', c', us, e', hc, hu⟩ := hgn.open
      injection e' with eA el ec
      subst eA
      subst ec
      have htest : TestAt 208 #[.pointer (some ⟨w2.heap.size, 0, none⟩), .pointer (some ⟨B0, 0, none⟩)] us (nearG tk x d) tk.length wx := by
        intro i W hi' hW
        have hsB : B0 < wx.heap.size := Nat.lt_of_lt_of_le HS.out hb3.size
        exact isNear_any w2.heap.size B0 (tk.getD i []) x (us i) _ (N : Int) d (by omega) (HLT.out i hi') W ((hW.cell (p := ⟨w2.heap.size, 0, none⟩) (by rw [sx]; show w2.heap.size < _; omega)).trans hcx) ((hW.cell (p := ⟨B0, 1, none⟩) hsB).trans hcd) ((hu i hi').below hW) (hns.below hW)
      have hcf := containsFuncW_any A tk.length c (by omega) 208 #[.pointer (some ⟨w2.heap.size, 0, none⟩), .pointer (some ⟨B0, 0, none⟩)] (enters_of Try.func208 (by kernel_rfl) rfl) us (nearG tk x d) wx hc htest
      rw [← HNV.out] at hcf
      have HCF := Lib.hid hcf
      have HGN := Lib.hid hgn
      have HKC := Lib.hid hkc
      have HCX := Lib.hid hcx
      have HWX := Lib.hid hwx
      clear hpo hb2 hwx kx hbx sx hb3 hgn hkc hcx hcd hns hc hu htest hcf q0 el
      go_wp2_with fail
      rw [← HWX.out]
      refine HCF.out.mono ?_
      rintro e w4 ⟨rfl, hb4⟩
      have HB4 := Lib.hid hb4
      have HBW : Hid (Below wr.heap.size wr w4) := Lib.hid (bchain (bchain HB2.out HBX.out) hb4)
      have HK4 : Hid (w4.heap[B0]? = some (.cells #[.int .i64 (N : Int), .int .i64 d] 91 (0, 0))) := Lib.hid ((HBW.out.block B0 HS.out).trans HK.out)
      have HB5 : Hid (Below B0 w w4) := Lib.hid (HB.out.trans (HBW.out.mono (by have := HS.out; omega)))
      have HS5 : Hid (B0 < w4.heap.size) := Lib.hid (Nat.lt_of_lt_of_le HS.out HBW.out.size)
      have hcx4 : w4.cell? ⟨w2.heap.size, 0, none⟩ = some (.slice Ar nr cr) := (hb4.cell (p := ⟨w2.heap.size, 0, none⟩) (by rw [HSX.out]; show w2.heap.size < _; omega)).trans HCX.out
      clear hb4 HWX HCF
      cases nv with
      | true =>
        have HSK2 := Lib.hid (HSK.out rfl)
        have HG5 := Lib.hid (HG.out.below HBW.out)
        clear hcx4
        go_wp2_with fail
        exact ⟨⟨k + 1, by go_num, by omega, by rw [HSK2.out]; exact h300, Lib.hid (by rw [HSK2.out]; exact HG5.out), HB5, HS5, HK4⟩, by simp [intOf]; omega⟩
      | false =>
        by_cases h3 : tk.length = 300
        · have T7 : ((tk.length : Int) == 300) = true := by rw [h3]; rfl
          obtain ⟨rfl, rfl⟩ := HGM.out (HOV.out rfl h3)
          clear h3 hcx4
          go_wp2_with fail
          go_ret2
          exact ⟨_, rfl, WO.nil0 _ _ _, HB5.out⟩
        · have T7 : ((tk.length : Int) == 300) = false := by rw [beq_eq_false_iff_ne]; omega
          have HTK2 := Lib.hid (HTK.out rfl)
          obtain ⟨vs0, ho0⟩ := HG.out.own
          have ho1 : (w4.alloc (.cells #[.slice Ar nr cr] 25)).ownsRow B0 25 1 (.slice A tk.length c) tk.length vs0 := own_below ho0 (bchain HBW.out ((Below.refl _ w4).alloc (Nat.le_refl _) _))
          have HO1 := Lib.hid ho1
          have hB6 : Below B0 w (w4.alloc (.cells #[.slice Ar nr cr] 25)) := HB5.out.alloc (by have := HS5.out; omega) _
          have HB6 := Lib.hid hB6
          have hsp := own_spot ho1
          have HSP := Lib.hid hsp
          clear ho0 ho1 hB6 hsp
          go_wp2_with (at_builtin; refine wpList_append_own _ rfl _ _ 44 rfl B0 25 i0 (.slice none 0 0) 1 24 Try.underlying44 hi hz0 hz1 hz2 rfl (by decide) _ tk.length vs0 rfl HO1.out ⟨w4.heap.size, 0, none⟩ 1 1 [.slice Ar nr cr] rfl rfl ?c1 ?c2 ?c3 ?c4 ?c5 ?_)
          case c1 => exact row1_cells w4 _ _
          case c2 => exact fun u hu => by rw [List.mem_singleton] at hu; rw [hu]; rfl
          case c3 => unfold maxLen; omega
          case c4 => omega
          case c5 => have := HS5.out; simp; omega
          intro s' wy hown hgrow _
          have hgw : GW wy B0 s' (tk ++ [x]) := HG.out.snoc (u := .slice Ar nr cr) (x := x) (by have := HS.out; omega) HB2.out HPO.out (w3 := w4.alloc (.cells #[.slice Ar nr cr] 25)) ((bchain HBX.out HB4.out).alloc (by have := HB4.out.size; have := HBX.out.size; omega) _) (fun vs h => by
            have ev : vs = vs0 := own_list h HO1.out
            rw [ev]; exact hown) hgrow
          have HGW := Lib.hid hgw
          have HB7 := Lib.hid (HB6.out.grown hgrow (by have := HS5.out; simp; omega) (fun q hq => (HSP.out q hq).1))
          have HS7 : Hid (B0 < wy.heap.size) := Lib.hid (by have := HS5.out; have := hgrow.size; simp at this; omega)
          have HK7 : Hid (wy.heap[B0]? = some (.cells #[.int .i64 (N : Int), .int .i64 d] 91 (0, 0))) := Lib.hid (by
            have e1 : (w4.alloc (.cells #[.slice Ar nr cr] 25)).heap[B0]? = some (.cells #[.int .i64 (N : Int), .int .i64 d] 91 (0, 0)) := (((Below.refl _ w4).alloc (Nat.le_refl _) _).block B0 HS5.out).trans HK4.out
            refine (hgrow.block B0 (by have := HS5.out; simp; omega) (fun e => ?_)).trans e1
            obtain ⟨cur, hcur⟩ := own_tyw HO1.out B0 e.symm
            rw [e1] at hcur
            exact absurd hcur (by intro e; injection e with e; injection e with e1 e2; exact absurd e2 (by decide)))
          clear hown hgrow hgw hcx4
          go_wp2_with fail
          exact ⟨⟨k + 1, by go_num, by omega, by rw [HTK2.out, List.length_append]; simp; omega, Lib.hid (by rw [HTK2.out]; exact HGW.out), HB7, HS7, HK7⟩, by simp [intOf]; omega⟩
    · obtain rfl : k = P := by omega
      have T6 : decide ((k : Int) < (k : Int)) = false := by simp
      obtain ⟨rfl, rfl⟩ := HGO.out h300
      go_wp2_with fail
      go_ret2
      exact ⟨_, rfl, HG.out.wo, HB.out⟩
/-- the code and the base behind the checks of a greedy code -/
theorem gk_gc {n l d : Int} (h : baB n = true) : gkC n l d = 0 → (baB n = true ∧ inB l 1 7 = true ∧ inB d 1 l = true) ∧ ¬ 5000 < n ^ l.toNat := by
  intro h1
  unfold gkC at h1
  split at h1
  · rename_i h2
    split at h1
    · omega
    · rename_i h3; exact ⟨⟨h, h2.1, h2.2⟩, h3⟩
  · omega
theorem gk_no {n l d : Int} (h : baB n = true) (h1 : ¬ gkC n l d = 0) : gcC n l d = gkC n l d ∧ gcA n l d = [] := by
  by_cases h2 : inB l 1 7 = true ∧ inB d 1 l = true
  · by_cases h3 : 5000 < n ^ l.toNat
    · have e : gkC n l d = 3 := by unfold gkC; rw [if_pos h2, if_pos h3]
      rw [e]; exact gc_limit ⟨h, h2.1, h2.2⟩ h3
    · exact absurd (show gkC n l d = 0 by unfold gkC; rw [if_pos h2, if_neg h3]) h1
  · have e : gkC n l d = 2 := by unfold gkC; rw [if_neg h2]
    rw [e]; exact gc_range (fun h => h2 ⟨h.2.1, h.2.2⟩)
set_option maxHeartbeats 4000000 in
theorem openCodeG_any (n l d : Int) (hl : -9223372036854775808 ≤ l ∧ l ≤ 9223372036854775807) (hd : -9223372036854775808 ≤ d ∧ d ≤ 9223372036854775807) (w : World) :
    Calls Try.prog 137 #[.int .i64 n, .iface 91 (.agg #[.int .i64 l, .int .i64 d])] w fun e w' => e = .returned (.tuple #[.int .i64 (if baB n then n else 0), .int .i64 (if baB n then gkC n l d else 2)]) ∧ Below w.heap.size w w' := by
  have hta : ∀ w, Sem.run Try.prog (Instr.typeAssert (Value.iface 91 (.agg #[.int .i64 l, .int .i64 d])) 134 91 true) w = .ok (.tuple #[.agg #[.int .i64 l, .int .i64 d], .bool true]) w := fun _ => by kernel_rfl
  have HOB := Lib.hid (fun w => openBase_nil n w)
  obtain ⟨k1, hb1, s1⟩ := n1w w (.cells #[.int .i64 l, .int .i64 d] 91)
  obtain ⟨w1, hw1⟩ : ∃ w1, w1 = w.alloc (.cells #[.int .i64 l, .int .i64 d] 91) := ⟨_, rfl⟩
  rw [← hw1] at k1 hb1 s1
  have HB1 := Lib.hid hb1
  have HS1 := Lib.hid s1
  have HK1 := Lib.hid k1
  have HW1 := Lib.hid hw1
  clear k1 hb1 s1 hw1
  by_cases hb : baB n = true
  · have HCK := Lib.hid (check_any n hb l d hl hd)
    have e0 : op0B n = n ∧ op0 n = 0 := by unfold op0B op0; rw [if_pos hb, if_pos hb]; exact ⟨rfl, rfl⟩
    rw [if_pos hb, if_pos hb]
    have HE := Lib.hid e0
    obtain ⟨gc, hgc⟩ : ∃ gc, gc = gkC n l d := ⟨_, rfl⟩
    rw [← hgc] at HCK ⊢
    clear hb e0 hgc
    go_enter Try.func137, Try.ntmps137
    go_wp2_with fail
    rw [← HW1.out]
    refine (HOB.out w1).mono ?_
    rintro e w2 ⟨rfl, hb2⟩
    rw [HE.out.1, HE.out.2]
    have HB2 := Lib.hid (bchain HB1.out hb2)
    have hk2 : w2.heap[w.heap.size]? = some (.cells #[.int .i64 l, .int .i64 d] 91 (0, 0)) := (hb2.block _ (by rw [HS1.out]; omega)).trans HK1.out
    have c0 : w2.cell? ⟨w.heap.size, 0, none⟩ = some (.int .i64 l) := (cell_of_row _ _ _ _ _ _ hk2).trans rfl
    have c1 : w2.cell? ⟨w.heap.size, 1, none⟩ = some (.int .i64 d) := (cell_of_row _ _ _ _ _ _ hk2).trans rfl
    clear hb2 hk2 HW1
    go_wp2_with fail
    refine (HCK.out w2).mono ?_
    rintro e w3 ⟨rfl, hb3⟩
    have HB3 := Lib.hid (bchain HB2.out hb3)
    clear hb3 c0 c1
    go_wp2_with fail
    go_ret2
    exact ⟨rfl, HB3.out⟩
  · have e0 : op0B n = 0 ∧ op0 n = 2 := by unfold op0B op0; rw [if_neg hb, if_neg hb]; exact ⟨rfl, rfl⟩
    rw [if_neg hb, if_neg hb]
    have HE := Lib.hid e0
    clear hb e0
    go_enter Try.func137, Try.ntmps137
    go_wp2_with fail
    rw [← HW1.out]
    refine (HOB.out w1).mono ?_
    rintro e w2 ⟨rfl, hb2⟩
    rw [HE.out.1, HE.out.2]
    have HB2 := Lib.hid (bchain HB1.out hb2)
    clear hb2 HW1
    go_wp2_with fail
    go_ret2
    exact ⟨rfl, HB2.out⟩
set_option maxHeartbeats 4000000 in
theorem wordsOfG_any (n l d : Int) (hb : -9223372036854775808 ≤ n ∧ n ≤ 9223372036854775807) (hl : -9223372036854775808 ≤ l ∧ l ≤ 9223372036854775807) (hd : -9223372036854775808 ≤ d ∧ d ≤ 9223372036854775807) (w : World) :
    Calls Try.prog 95 #[.int .i64 n, .iface 91 (.agg #[.int .i64 l, .int .i64 d])] w fun e w' => ∃ r, e = .returned (.tuple #[r, .int .i64 (gcC n l d)]) ∧ WO w' w.heap.size w'.heap.size r (gcA n l d) ∧ Below w.heap.size w w' := by
  have hm : ∀ (x : Value) w, (method 318 91 x "loop.example/g01307/impl.words").run Try.prog w = .ok (207, x) w := fun _ _ => by kernel_rfl
  have HOC := Lib.hid (openCodeG_any n l d hl hd w)
  by_cases hbn : baB n = true
  case neg =>
    rw [if_neg hbn, if_neg hbn] at HOC
    obtain ⟨e1, e2⟩ := gc_range (n := n) (l := l) (d := d) (fun h => hbn h.1)
    rw [e1, e2]
    clear e1 e2 hbn
    go_enter Try.func95, Try.ntmps95
    go_wp2_with fail
    refine HOC.out.mono ?_
    rintro e w2 ⟨rfl, hb2⟩
    have HB2 := Lib.hid hb2
    clear hb2
    go_wp2_with fail
    go_ret2
    exact ⟨_, rfl, WO.nil0 _ _ _, HB2.out⟩
  rw [if_pos hbn, if_pos hbn] at HOC
  by_cases h0 : gkC n l d = 0
  case neg =>
    obtain ⟨e1, e2⟩ := gk_no hbn h0
    rw [e1, e2]
    obtain ⟨gc, hgc⟩ : ∃ gc, gc = gkC n l d := ⟨_, rfl⟩
    rw [← hgc] at HOC h0 ⊢
    have T1 : (gc != 0) = true := by rw [bne_iff_ne]; exact h0
    clear e1 e2 hbn h0 hgc
    go_enter Try.func95, Try.ntmps95
    go_wp2_with fail
    refine HOC.out.mono ?_
    rintro e w2 ⟨rfl, hb2⟩
    have HB2 := Lib.hid hb2
    clear hb2
    go_wp2_with fail
    go_ret2
    exact ⟨_, rfl, WO.nil0 _ _ _, HB2.out⟩
  rw [h0] at HOC
  obtain ⟨hok, h5⟩ := gk_gc hbn h0
  have hl2 := inB_yes hok.2.1
  obtain ⟨N, hN⟩ : ∃ N : Nat, l = (N : Int) := ⟨l.toNat, by omega⟩
  subst hN
  have hpw := pw_b hbn N (by omega)
  obtain ⟨P, hP⟩ : ∃ P : Nat, n ^ N = (P : Int) := ⟨(n ^ N).toNat, by omega⟩
  have hPN : (n ^ N).toNat = P := by rw [hP]; rfl
  have hres : gcC n (N : Int) d = (if (grT n N d P).length ≤ 300 then 0 else 7) ∧ gcA n (N : Int) d = (if (grT n N d P).length ≤ 300 then grT n N d P else []) := by
    by_cases h : (grT n N d P).length ≤ 300
    · rw [if_pos h, if_pos h]
      have := gc_ok hok h5 (by rw [show ((N : Int).toNat) = N from rfl, hPN]; exact h)
      rw [show ((N : Int).toNat) = N from rfl, hPN] at this
      exact this
    · rw [if_neg h, if_neg h]
      exact gc_many hok h5 (by rw [show ((N : Int).toNat) = N from rfl, hPN]; exact h)
  rw [hres.1, hres.2]
  have HGW := Lib.hid (greedyWords_any n hbn N (by omega) (by omega) d hd P hP)
  obtain ⟨rc, hrc⟩ : ∃ rc : Int, rc = if (grT n N d P).length ≤ 300 then 0 else 7 := ⟨_, rfl⟩
  obtain ⟨ra, hra⟩ : ∃ ra, ra = if (grT n N d P).length ≤ 300 then grT n N d P else [] := ⟨_, rfl⟩
  rw [← hrc, ← hra] at HGW ⊢
  clear hres hrc hra hok h5 hpw hP hPN h0 hbn
  go_enter Try.func95, Try.ntmps95
  go_wp2_with fail
  refine HOC.out.mono ?_
  rintro e w2 ⟨rfl, hb2⟩
  have HB2 := Lib.hid hb2
  clear hb2
  go_wp2_with fail
  refine (HGW.out w2).mono ?_
  rintro e w3 ⟨r, rfl, hwo, hb3⟩
  obtain ⟨Ar, cr, us, er, hrest⟩ := id hwo
  have HWO := Lib.hid (hwo.lower HB2.out.size)
  have HB3 := Lib.hid (bchain HB2.out hb3)
  clear hb3 hwo hrest
  subst er
  go_wp2_with fail
  go_ret2
  exact ⟨_, rfl, HWO.out, HB3.out⟩
set_option maxHeartbeats 1000000 in
theorem impl_GreedyCode (n l d : Int) (hb : -9223372036854775808 ≤ n ∧ n ≤ 9223372036854775807) (hl : -9223372036854775808 ≤ l ∧ l ≤ 9223372036854775807) (hd : -9223372036854775808 ≤ d ∧ d ≤ 9223372036854775807) (w : World) :
    Calls Try.prog 44 #[.int .i64 n, .int .i64 l, .int .i64 d] w fun e w' => ∃ r, e = .returned (.tuple #[r, .int .i64 (gcC n l d)]) ∧ WO w' w.heap.size w'.heap.size r (gcA n l d) ∧ Below w.heap.size w w' := by
  have HWF := Lib.hid (wordsOfG_any n l d hb hl hd w)
  obtain ⟨rc, hrc⟩ : ∃ rc, rc = gcC n l d := ⟨_, rfl⟩
  obtain ⟨ra, hra⟩ : ∃ ra, ra = gcA n l d := ⟨_, rfl⟩
  rw [← hrc, ← hra] at HWF ⊢
  clear hrc hra
  go_enter Try.func44, Try.ntmps44
  go_wp2_with fail
  refine HWF.out.mono ?_
  rintro e w3 ⟨r, rfl, hwo, hb3⟩
  obtain ⟨Ar, cr, us, er, hrest⟩ := id hwo
  have HWO := Lib.hid hwo
  have HB3 := Lib.hid hb3
  clear hb3 hwo hrest
  subst er
  go_wp2_with fail
  go_ret2
  exact ⟨_, rfl, HWO.out, HB3.out⟩
theorem lensTo_small {gs : List (List Int)} (h : ∀ i, i < gs.length → (gs.getD i []).length ≤ 7) : ∀ k, k ≤ gs.length → lensTo gs k ≤ gs.length + 7 * k
  | 0, _ => Nat.le_refl _
  | k + 1, hk => by
    have h1 := lensTo_small h k (by omega)
    have h2 := h k (by omega)
    show lensTo gs k + (gs.getD k []).length ≤ _
    omega
theorem total_small {gs : List (List Int)} (h : ∀ i, i < gs.length → (gs.getD i []).length ≤ 7) : total gs ≤ 8 * gs.length := by
  have := lensTo_small h gs.length (Nat.le_refl _)
  unfold total
  omega
theorem gcA_all {n l d : Int} : (gcA n l d).length ≤ 300 ∧ ∀ i, i < (gcA n l d).length → ((gcA n l d).getD i []).length ≤ 7 := by
  by_cases h : gcC n l d = 0
  · have e : gcA n l d = grT n l.toNat d (n ^ l.toNat).toNat := by unfold gcA; rw [if_pos h]
    unfold gcC at h
    split at h
    · rename_i h1
      split at h
      · omega
      · split at h
        · rename_i h3
          have hl := inB_yes h1.2.1
          rw [e]
          exact ⟨h3, fun i hi => by rw [grT_at hi]; omega⟩
        · omega
    · omega
  · rw [gcA_no h]
    exact ⟨Nat.zero_le _, fun i hi => absurd hi (by simp)⟩
theorem gcA_total (n l d : Int) : total (gcA n l d) ≤ 1048576 := by
  have h := gcA_all (n := n) (l := l) (d := d)
  have := total_small h.2
  omega
end Go.Proofs.Ythhjhfkcgokffaa
