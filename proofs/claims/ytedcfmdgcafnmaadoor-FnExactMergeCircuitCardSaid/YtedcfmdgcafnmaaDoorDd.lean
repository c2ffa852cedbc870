/-
  The inputs of a circuit that is made.
-/
import Derived.Test.YtedcfmdgcafnmaaDoorDc
import Derived.Test.YtedcfmdgcafnmaaDoorAt
namespace Go.Proofs.YtedcfmdgcafnmaaDoor
set_option linter.unusedVariables false
set_option linter.unusedSimpArgs false
open Go.ChangeShapes Go.WideShapes Go.ChangeAt Go.RowKit Go.Deep
theorem results_cell_tmp2 {P : Program} {fn : Func} {p q r : Tmp} {ty : TypeId} (h : fn.results = #[.cell p ty, .tmp q, .tmp r]) (tmps : Array Value) (w : World) (g : Nat) (t : TypeId) (cs : Array Value) (fr : Nat × Nat) (d : TypeDesc) (v u : Value)
    (hp : tmps.getD p undef = .pointer (some ⟨g, 0, none⟩)) (hq : tmps.getD q undef = v) (hr : tmps.getD r undef = u) (hg : w.heap[g]? = some (.cells cs t fr))
    (hu : P.underlying ty = some d) (hd : (match d with | .struct _ | .array _ _ => true | _ => false) = true) (hi : (P.info? ty).map (·.size) = some cs.size) :
    (results fn tmps).run P w = .ok (.tuple #[.agg cs, v, u]) w := by
  have hp' : tmps[p]?.getD undef = .pointer (some ⟨g, 0, none⟩) := by simpa using hp
  have hq' : tmps[q]?.getD undef = v := by simpa using hq
  have hr' : tmps[r]?.getD undef = u := by simpa using hr
  simp [results, h, hp', hq', hr', asAddr, run_loadVar_row w g t ty cs fr d hg hu hd hi]
def inG (k : Nat) : List G3 := (List.range k).map fun i => (0, ((i : Nat) : Int), 0)
theorem inG_succ (k : Nat) : inG (k + 1) = inG k ++ [(0, ((k : Nat) : Int), 0)] := by simp [inG, List.range_succ]
theorem inG_len (k : Nat) : (inG k).length = k := by simp [inG]

set_option maxHeartbeats 4000000 in
set_option maxRecDepth 100000 in
theorem specInputs_any (B gp : Nat) (PT : TypeId) (hP : PT ≠ 67) (hP2 : 65 ≠ PT) (n : Nat) (hn : n ≤ 100) (w : World) (h : ST B gp PT w []) :
    Calls Tryd.prog 82 #[.pointer (some ⟨gp, 0, none⟩), .int .i64 (n : Int)] w fun e w' => ∃ r, e = .returned r ∧ ST B gp PT w' (inG n) ∧ w'.ownsRow w.heap.size 65 1 r n (i16s (outsL 0 n)) ∧ AD B gp PT w w' := by
  have H := Lib.hid h
  have HP := Lib.hid hP; have HP2 := Lib.hid hP2
  obtain ⟨B2, hB2⟩ : ∃ B2, B2 = w.heap.size := ⟨_, rfl⟩
  have HB2 := Lib.hid hB2
  clear h hP hP2 hB2
  obtain ⟨i0, hi, hz0, hz1, hz2⟩ := info_parts infoI16
  go_enter Tryd.func82, Tryd.ntmps82
  go_wp2_with fail
  have m1 : (w.alloc (.cells #[] 65)).ownsRow B2 65 1 (.slice (some ⟨w.heap.size, 0, none⟩) 0 0) 0 (i16s (outsL 0 0)) := World.ownsRow_made _ #[] 0 (by have := HB2.out; omega) (Nat.zero_le _) rfl
  have m2 : Below w.heap.size w (w.alloc (.cells #[] 65)) := (nw1 w _).2.1
  have HA0 := Lib.hid (AD.of_below (B := B) (gp := gp) (PT := PT) m2 H.out.1 H.out.lt); have HO0 := Lib.hid m1
  have HS0 : Hid (ST B gp PT (w.alloc (.cells #[] 65)) (inG 0)) := Lib.hid (by simpa [inG] using H.out.below m2)
  clear m1 m2
  generalize w.alloc (.cells #[] 65) = w1 at HA0 HO0 HS0 ⊢
  go_loopw [6, 5] (fun y ov wr => ∃ k : Nat, y = .int .i64 (k : Int) ∧ k ≤ n ∧ Hid (AD B gp PT w wr) ∧ Hid (ST B gp PT wr (inG k)) ∧ Hid (wr.ownsRow B2 65 1 ov k (i16s (outsL 0 k)))) (fun y _ _ => n - (intOf y).toNat)
  case atStart => exact ⟨0, rfl, Nat.zero_le _, HA0, HS0, HO0⟩
  case round =>
    obtain ⟨k, rfl, hk, HA, HS, HO⟩ := hrel
    clear HA0 HS0 HO0
    obtain ⟨AO, cO, rfl, _, _⟩ := own_formu HO.out
    by_cases hlt : k < n
    · have T1 : decide ((k : Int) < (n : Int)) = true := by simp; omega
      have hw := i16_small k (by omega)
      have HE := Lib.hid (inG_succ k).symm
      have HLN := Lib.hid (inG_len k)
      go_wp2_with fail
      refine (specAdd_any B gp PT HP.out 0 (k : Int) 0 _ (by rw [HLN.out]; omega) wr HS.out).mono ?_
      rintro e w2 ⟨rfl, hs2, ha2⟩
      rw [HLN.out]
      rw [HE.out] at hs2
      have HO2 := Lib.hid (own_ad gt_i16 HP2.out HO.out ha2)
      have HA2 := Lib.hid (HA.out.trans ha2)
      have HS2 := Lib.hid hs2
      have HOA := Lib.hid (owb HO2.out (nw1 w2 (.cells #[.int .i16 ((k : Nat) : Int)] 65)).2.1)
      have HAA := Lib.hid (HA2.out.trans (AD.of_below (nw1 w2 (.cells #[.int .i16 ((k : Nat) : Int)] 65)).2.1 H.out.1 HS2.out.lt))
      have HSA := Lib.hid (HS2.out.below (nw1 w2 (.cells #[.int .i16 ((k : Nat) : Int)] 65)).2.1)
      clear hs2 ha2 HA HS HO
      go_wp2_with (at_builtin; refine wpList_append_own _ rfl _ _ 24 rfl B2 65 i0 (.int .i16 0) 1 2 Tryd.underlying24 hi hz0 hz1 hz2 rfl (by decide) _ k _ rfl HOA.out ⟨w2.heap.size, 0, none⟩ 1 1 [.int .i16 (k : Int)] rfl rfl ?c1 ?c2 ?c3 ?c4 ?c5 ?_)
      case c1 => exact one_cellC _ _ _
      case c2 => simp [Value.oneCell']
      case c3 => unfold maxLen; omega
      case c4 => omega
      case c5 => have := HAA.out.size; have := HB2.out; omega
      intro s' wy hown hgrow _
      rw [show i16s (outsL 0 k) ++ [Value.int .i16 (k : Int)] = i16s (outsL 0 (k + 1)) from by rw [outsL_succ]; simp] at hown
      have HA3 := Lib.hid (HAA.out.after hgrow (fun z hz => by have := (own_block HOA.out z hz).1; have := HB2.out; omega) H.out.1 H.out.lt)
      have HS3 := Lib.hid (HSA.out.grown HP2.out hgrow (fun z hz => by obtain ⟨cr, h⟩ := own_type HOA.out z hz; exact ⟨cr, _, h⟩))
      have HO3 := Lib.hid hown
      clear hown hgrow HO2 HA2 HS2 HOA HAA HSA hw
      go_wp2_with fail
      exact ⟨⟨k + 1, by go_num, by omega, HA3, HS3, HO3⟩, by simp [intOf]; omega⟩
    · obtain rfl : k = n := by omega
      have T1 : decide ((k : Int) < (k : Int)) = false := by simp
      go_wp2_with fail
      go_ret
      exact ⟨_, rfl, HS.out, own_low HO.out (Nat.le_of_eq HB2.out.symm), HA.out⟩

set_option maxHeartbeats 2000000 in
theorem halves_any (b off c : Nat) (n : Nat) (h1 : 1 ≤ n) (hn : n + n ≤ c) (hc : c ≤ maxLen) (w : World) :
    Calls Tryd.prog 128 #[.slice (some ⟨b, off, none⟩) (n + n) c] w fun e w' => e = .returned (.tuple #[.slice (some ⟨b, off, none⟩) n c, .slice (some ⟨b, off + n, none⟩) n (c - n)]) ∧ Below w.heap.size w w' := by
  have hc2 : c ≤ 9223372036854775807 := by unfold maxLen at hc; omega
  obtain ⟨m, hm⟩ : ∃ m, m = n + n := ⟨_, rfl⟩
  have e1 : ((m : Nat) : Int).tdiv 2 = (n : Int) := by rw [Int.tdiv_eq_ediv_of_nonneg (by omega)]; omega
  have e2 : ((m : Nat) : Int) / 2 = (n : Int) := by omega
  have e3 : m - n = n := by omega
  have e4 : (n : Int) ≤ (m : Int) := by omega
  have e5 : (n : Int) ≤ (c : Int) := by omega
  have e6 : (m : Int) ≤ (c : Int) := by omega
  rw [← hm]
  have e7 : (c = n) = False := by simp; omega
  have HM := Lib.hid hm
  have HB := Lib.hid (Below.refl w.heap.size w)
  clear hm hn hc h1
  go_enter Tryd.func128, Tryd.ntmps128
  go_wp2_with fail
  go_quiet (fail)
  go_wp2_with fail
  go_ret2
  exact ⟨rfl, bdr HB.out nq⟩
set_option maxHeartbeats 4000000 in
set_option maxRecDepth 100000 in
theorem wiringFor_any (lv nb N : Nat) (hlv : lv ≤ 3) (hnb : nb ≤ 2) (hN : N = nb * 2 ^ lv) (w : World) :
    Calls Tryd.prog 88 #[.int .i64 (lv : Int), .int .i8 (nb : Int)] w fun e w' => ∃ v r, e = .returned (.tuple #[.agg #[v, .int .i8 (N : Int), .slice none 0 0], r, .nilIface]) ∧ Below w.heap.size w w' ∧ w'.ownsRow w.heap.size 67 3 v N (gcs (inG N)) ∧ w'.ownsRow w.heap.size 65 1 r N (i16s (outsL 0 N)) := by
  have T1 : decide ((lv : Int) < 0) = false := by simp
  have T2 : decide ((3 : Int) < (lv : Int)) = false := by simp; omega
  have hN16 : N ≤ 16 := by
    have h8 : 2 ^ lv ≤ 2 ^ 3 := Nat.pow_le_pow_right (by omega) hlv
    rw [hN]
    calc nb * 2 ^ lv ≤ 2 * 2 ^ 3 := Nat.mul_le_mul hnb h8
      _ = 16 := rfl
  have e1 : IntKind.wrap .i8 ((nb : Int) * 2 ^ lv) = (N : Int) := by
    rw [show (nb : Int) * 2 ^ lv = ((N : Nat) : Int) from by rw [hN]; push_cast; rfl]
    simp only [IntKind.wrap, show IntKind.i8.bits = 8 from rfl, show IntKind.i8.signed = true from rfl]
    simp
    omega
  obtain ⟨i0, hi, hz0, hz1, hz2⟩ := info_parts infoI16
  clear hN
  go_enter Tryd.func88, Tryd.ntmps88
  go_upto_region 4 with fail
  obtain ⟨a1, a2, hb1, s1⟩ := nw2 w (.cells #[.slice none 0 0, .int .i8 0, .slice none 0 0] 74) (.cells #[.slice none 0 0, .int .i8 (N : Int), .slice none 0 0] 74)
  generalize World.alloc (World.alloc w _) _ = w2 at a1 a2 hb1 s1 ⊢
  obtain ⟨gp, hgp⟩ : ∃ gp, gp = w.heap.size + 1 := ⟨_, rfl⟩
  rw [← hgp] at a2 ⊢
  have m2 : BX w2 gp (.slice none 0 0) (.int .i8 (N : Int)) (.slice none 0 0) := ⟨_, a2⟩
  have M1 : Hid (BX w2 w.heap.size (.slice none 0 0) (.int .i8 0) (.slice none 0 0)) := Lib.hid ⟨_, a1⟩
  have HGP := Lib.hid hgp; have HB1 := Lib.hid hb1; have HS1 := Lib.hid s1
  have HST : Hid (ST gp gp 74 w2 []) := Lib.hid ⟨Nat.le_refl _, ⟨_, a2, by simp⟩, .slice none 0 0, m2.c0, World.ownsRow_nil _ _ _ _⟩
  have k1 := m2.c1
  have M2 := Lib.hid m2
  clear a1 a2 hb1 s1 hgp m2
  go_wp2_with (at_make; refine wpList_make_full _ rfl _ _ 72 rfl w2.heap.size 65 i0 (.int .i16 0) 1 Tryd.underlying72 hi hz0 hz1 _ _ _ _ N rfl rfl rfl rfl (by rw [hz2]; omega) (by unfold maxLen; omega) (Nat.le_refl _) ?_)
  intro w3 hown hgrow
  have hb3 : Below w2.heap.size w2 w3 := (Below.refl _ w2).grown hgrow (Nat.le_refl _) (fun k hk => by cases hk)
  obtain ⟨g, hgs⟩ : ∃ g, g = w2.heap.size := ⟨_, rfl⟩
  rw [← hgs] at hown ⊢
  have hown1 : w3.ownsRow g 65 1 (.slice (some ⟨g, 0, none⟩) N N) N (i16s (rowF 0 N 0)) := by
    have e : (madeCells #[Value.int .i16 0] N).toList = i16s (rowF 0 N 0) := by
      rw [toList_madeCells_one, rowF_zero]; simp
    rw [← e]; simpa using hown
  clear hown hgrow k1
  have HG := Lib.hid hgs; clear hgs
  have HA0 := Lib.hid (AD.of_below (B := gp) (gp := gp) (PT := 74) hb3 (Nat.le_refl _) HST.out.lt); have HO0 := Lib.hid hown1
  have HS0 : Hid (ST gp gp 74 w3 (inG 0)) := Lib.hid (by simpa [inG] using HST.out.below hb3)
  clear hb3 hown1
  go_wp2_with fail
  go_loopw [28] (fun y wr => ∃ k : Nat, y = .int .i64 (k : Int) ∧ k ≤ N ∧ Hid (AD gp gp 74 w2 wr) ∧ Hid (ST gp gp 74 wr (inG k)) ∧ Hid (wr.ownsRow g 65 1 (.slice (some ⟨g, 0, none⟩) N N) N (i16s (rowF 0 N k)))) (fun y _ => N - (intOf y).toNat)
  case atStart => exact ⟨0, rfl, Nat.zero_le _, HA0, HS0, HO0⟩
  case round =>
    obtain ⟨k, rfl, hk, HA, HS, HO⟩ := hrel
    clear HA0 HS0 HO0
    by_cases hlt : k < N
    · have T1 : decide ((k : Int) < (N : Int)) = true := by simp; omega
      have i1 : (k : Int) < (N : Int) := by omega
      have hw := i16_small k (by omega)
      have HE := Lib.hid (inG_succ k).symm
      have HLN := Lib.hid (inG_len k)
      go_wp2_with fail
      refine (implAdd_any gp gp 74 (by decide) (0, (k : Int), 0) _ (by rw [HLN.out]; omega) wr HS.out).mono ?_
      rintro e w4 ⟨rfl, hs2, ha2⟩
      rw [HLN.out]
      rw [HE.out] at hs2
      have ho2 := own_ad gt_i16 (by decide) HO.out ha2
      obtain ⟨y0, hy0⟩ : ∃ y, (i16s (rowF 0 N k))[k]? = some y := ⟨_, List.getElem?_eq_getElem (by rw [List.length_map, rowF_len _ _ _ hk]; exact hlt)⟩
      have q2 : w4.cell? ⟨g, k, none⟩ = some y0 := (ho2.cellAt k (by omega)).trans hy0
      have q3 : w4.frozen? ⟨g, k, none⟩ = false := ho2.frozenAt k
      have h4 := (ho2.stored k (.int .i16 ((k : Nat) : Int))).1
      rw [← List.map_set, show (rowF 0 N k).set k ((k : Nat) : Int) = rowF 0 N (k + 1) from by have h := rowF_set 0 N k hlt; rwa [Nat.zero_add] at h] at h4
      have H4 := Lib.hid h4
      have H5 := Lib.hid ((HA.out.trans ha2).after (grown_putd w4 g k (.int .i16 ((k : Nat) : Int))) (fun z hz => by have := HG.out; cases hz; omega) (Nat.le_refl _) HST.out.lt)
      have H6 := Lib.hid (hs2.grown (by decide) (grown_putd w4 g k (.int .i16 ((k : Nat) : Int))) (fun z hz => by
        cases hz
        obtain ⟨cr, h⟩ := own_type ho2 g rfl
        exact ⟨cr, _, h⟩))
      clear hs2 ha2 ho2 h4 hy0 HA HS HO HE HLN hw
      go_wp2_with fail
      exact ⟨⟨k + 1, by go_num, by omega, H5, H6, H4⟩, by simp [intOf]; omega⟩
    · obtain rfl : k = N := by omega
      have T3 : decide ((k : Int) < (k : Int)) = false := by simp
      have hst := HS.out
      obtain ⟨_, _, v, hv, ho⟩ := hst
      obtain ⟨AV, cV, rfl, _, _⟩ := own_formu ho
      have c1 : wr.cell? ⟨gp, 1, none⟩ = some (.int .i8 (k : Int)) := (HA.out.off 1 (by decide)).trans M2.out.c1
      have c2 : wr.cell? ⟨gp, 2, none⟩ = some (.slice none 0 0) := (HA.out.off 2 (by decide)).trans M2.out.c2
      have mr := M1.out.belowB HA.out.toBelow (by have := HGP.out; omega)
      have r2 := mr.there
      have MR := Lib.hid mr
      have HOV := Lib.hid ho
      rw [inG_len] at HOV hv
      clear ho mr
      go_wp2_with (guard_target =~ wpList _ _ _ (⟨_, Op.store 74 _ _, _, _, _, _⟩ :: _) _ _; refine wpList_store_mid rfl 74 _ _ rfl w.heap.size 0 #[.slice AV k cV, .int .i8 (k : Int), .slice none 0 0] rfl rfl r2 (by kernel_rfl) (three_one rfl rfl rfl) ?_)
      obtain ⟨t8, h8⟩ := MR.out.puts (.slice AV k cV) (.int .i8 (k : Int)) (.slice none 0 0)
      have hbb : Below w.heap.size w wr := HB1.out.trans (HA.out.toBelow.mono (by have := HGP.out; omega))
      refine bodyPost_ret (v := .tuple #[.agg #[.slice AV k cV, .int .i8 (k : Int), .slice none 0 0], .slice (some ⟨g, 0, none⟩) k k, .nilIface]) ?_ rfl ⟨.slice AV k cV, .slice (some ⟨g, 0, none⟩) k k, rfl, bsets (Nat.le_refl _) _ 0 wr hbb, ?_, ?_⟩
      · exact results_cell_tmp2 rfl _ _ w.heap.size _ _ (0, 0) _ _ _ rfl rfl rfl h8 Tryd.underlying74 rfl (by kernel_rfl)
      · exact own_low (own_sets HOV.out (by have := HGP.out; omega) _ 0) (by have := HGP.out; omega)
      · have h := HO.out
        rw [rowF_end] at h
        exact own_low (own_sets h (by have := HG.out; have := HS1.out; omega) _ 0) (by have := HG.out; have := HS1.out; omega)
set_option maxHeartbeats 2000000 in
set_option maxRecDepth 100000 in
theorem wiringFor_bad (lv : Int) (hlv : lv < 0 ∨ 3 < lv) (nb : Int) (w : World) :
    Calls Tryd.prog 88 #[.int .i64 lv, .int .i8 nb] w fun e w' => e = .returned (.tuple #[.agg #[.slice none 0 0, .int .i8 0, .slice none 0 0], .slice none 0 0, .iface 151 (.agg #[.int .i64 2])]) ∧ Below w.heap.size w w' := by
  obtain ⟨a1, hb1, s1⟩ := nw1 w (.cells #[.slice none 0 0, .int .i8 0, .slice none 0 0] 74)
  have m1 : BX (w.alloc (.cells #[.slice none 0 0, .int .i8 0, .slice none 0 0] 74)) w.heap.size (.slice none 0 0) (.int .i8 0) (.slice none 0 0) := ⟨_, a1⟩
  have M1 := Lib.hid m1; have HB1 := Lib.hid hb1
  have r2 := m1.there
  clear a1 hb1 s1 m1
  by_cases h0 : lv < 0
  · have T1 : decide (lv < 0) = true := by simpa using h0
    clear hlv h0
    go_enter Tryd.func88, Tryd.ntmps88
    go_wp2_with (guard_target =~ wpList _ _ _ (⟨_, Op.store 74 _ _, _, _, _, _⟩ :: _) _ _; refine wpList_store_mid rfl 74 _ _ rfl w.heap.size 0 #[.slice none 0 0, .int .i8 0, .slice none 0 0] rfl rfl r2 (by kernel_rfl) (three_one rfl rfl rfl) ?_)
    obtain ⟨t8, h8⟩ := M1.out.puts (.slice none 0 0) (.int .i8 0) (.slice none 0 0)
    refine bodyPost_ret (v := .tuple #[.agg #[.slice none 0 0, .int .i8 0, .slice none 0 0], .slice none 0 0, .iface 151 (.agg #[.int .i64 2])]) ?_ rfl ⟨rfl, bsets (Nat.le_refl _) _ 0 _ HB1.out⟩
    exact results_cell_tmp2 rfl _ _ w.heap.size _ _ (0, 0) _ _ _ rfl rfl rfl h8 Tryd.underlying74 rfl (by kernel_rfl)
  · have T1 : decide (lv < 0) = false := by simpa using h0
    have T2 : decide (3 < lv) = true := by simp; omega
    clear hlv h0
    go_enter Tryd.func88, Tryd.ntmps88
    go_wp2_with (guard_target =~ wpList _ _ _ (⟨_, Op.store 74 _ _, _, _, _, _⟩ :: _) _ _; refine wpList_store_mid rfl 74 _ _ rfl w.heap.size 0 #[.slice none 0 0, .int .i8 0, .slice none 0 0] rfl rfl r2 (by kernel_rfl) (three_one rfl rfl rfl) ?_)
    obtain ⟨t8, h8⟩ := M1.out.puts (.slice none 0 0) (.int .i8 0) (.slice none 0 0)
    refine bodyPost_ret (v := .tuple #[.agg #[.slice none 0 0, .int .i8 0, .slice none 0 0], .slice none 0 0, .iface 151 (.agg #[.int .i64 2])]) ?_ rfl ⟨rfl, bsets (Nat.le_refl _) _ 0 _ HB1.out⟩
    exact results_cell_tmp2 rfl _ _ w.heap.size _ _ (0, 0) _ _ _ rfl rfl rfl h8 Tryd.underlying74 rfl (by kernel_rfl)

end Go.Proofs.YtedcfmdgcafnmaaDoor
