/-
  MergeCircuit of the program.
-/
import Derived.Test.YtedcfmdgcafnmaaDoorEn
namespace Go.Proofs.YtedcfmdgcafnmaaDoor
set_option linter.unusedVariables false
set_option linter.unusedSimpArgs false
open Go.ChangeShapes Go.WideShapes Go.ChangeAt Go.RowKit Go.Deep
def mcN (n : Int) (gs : List G3) (os : List Int) : Int := if circB n gs os then n else 0
def mcG (n : Int) (gs : List G3) (os : List Int) : List G3 := if circB n gs os then (mgT gs gs.length).2 else []
def mcO (n : Int) (gs : List G3) (os : List Int) : List Int := if circB n gs os then os.map (plc (mgT gs gs.length).1) else []
theorem mc_len (n : Int) (gs : List G3) (os : List Int) : (mcG n gs os).length + (mcO n gs os).length ≤ 1048576 := by
  unfold mcG mcO
  by_cases hc : circB n gs os = true
  · rw [if_pos hc, if_pos hc]
    have := (mgT_len gs gs.length).2
    have := head_of hc
    simp; omega
  · rw [if_neg hc, if_neg hc]; simp
theorem mc_end (n : Int) (gs : List G3) (os : List Int) (hc : circB n gs os = true) : mcN n gs os = n ∧ mcG n gs os = (mgT gs gs.length).2 ∧ mcO n gs os = os.map (plc (mgT gs gs.length).1) := by
  unfold mcN mcG mcO; rw [hc]; exact ⟨rfl, rfl, rfl⟩
theorem mc_gw {n : Int} {gs : List G3} {os : List Int} (hc : circB n gs os = true) (hg : ∀ g ∈ gs, GW g) : (∀ g ∈ (mgT gs gs.length).2, GW g) ∧ ∀ z ∈ os.map (plc (mgT gs gs.length).1), IW z := by
  have h := mgT_w gs (fun j => gw_getD hg j) gs.length (head_of hc).2.2.1
  refine ⟨h.2, fun z hz => ?_⟩
  obtain ⟨y, _, rfl⟩ := List.mem_map.1 hz
  exact h.1.w y

set_option maxHeartbeats 4000000 in
set_option maxRecDepth 100000 in
theorem impl_MergeCircuit (v : Value) (n : Int) (gs : List G3) (os : List Int) (w : World) (h : CI w v n gs os) (hE : ET w) :
    Calls Tryd.prog 12 #[v] w fun e w' => ∃ u, e = .returned (.tuple #[u, .int .i64 (okC n gs os)]) ∧ Below w.heap.size w w' ∧ CO w.heap.size w'.heap.size w' u (mcN n gs os) (mcG n gs os) (mcO n gs os) := by
  have HE := Lib.hid hE
  clear hE
  have H := Lib.hid h
  obtain ⟨G, O, rfl, hn, hg, ho⟩ := h
  have HG := Lib.hid hg; have HO := Lib.hid ho
  obtain ⟨A, c, rfl⟩ := hg.form
  obtain ⟨A2, c2, rfl⟩ := ho.form
  clear hg ho
  cases hc : circB n gs os with
  | false =>
    have eN : mcN n gs os = 0 := by unfold mcN; rw [hc]; rfl
    have eG : mcG n gs os = [] := by unfold mcG; rw [hc]; rfl
    have eO : mcO n gs os = [] := by unfold mcO; rw [hc]; rfl
    have eK : okC n gs os = 1 := by unfold okC; rw [hc]; rfl
    rw [eN, eG, eO, eK]
    have HCF := Lib.hid hc
    clear eN eG eO eK hc
    obtain ⟨a1, a2, hb1, s1⟩ := nw2 w (.cells #[.int .i8 n, .slice A gs.length c, .slice A2 os.length c2] 30) (.cells #[.int .i8 0, .slice none 0 0, .slice none 0 0] 30)
    go_enter Tryd.func12, Tryd.ntmps12
    go_wp2_with fail
    generalize World.alloc (World.alloc w _) _ = w1 at a1 a2 hb1 s1 ⊢
    refine (openCircuit_any n _ _ gs os w1 (H.out.below hb1)).mono ?_
    rintro e w2 ⟨rfl, hb⟩
    have M2 : Hid (BX w2 (w.heap.size + 1) (.int .i8 0) (.slice none 0 0) (.slice none 0 0)) := Lib.hid (BX.below ⟨_, a2⟩ hb)
    have HB2 := Lib.hid (hb1.trans (hb.mono hb1.size))
    have HS1 := Lib.hid s1
    have HWS : Hid (w.heap.size + 2 ≤ w2.heap.size) := Lib.hid (by have := hb.size; omega)
    clear hb hb1 a1 a2 s1
    simp only [opW, HCF.out, Bool.false_eq_true, if_false]
    have HB4 := Lib.hid (nw1 w2 (.cells #[.slice none 0 0, .int .i8 0, .slice none 0 0] 74)).2.1
    go_wp2_with fail
    refine (reasonOf_bad 1 _ (HE.out.below (HB2.out.trans (HB4.out.mono HB2.out.size)))).mono ?_
    rintro e w3 ⟨rfl, hb3⟩
    have m3 := (M2.out.below HB4.out).below hb3
    have HB3 := Lib.hid (HB2.out.trans ((HB4.out.trans (hb3.mono HB4.out.size)).mono HB2.out.size))
    have r3 := m3.there
    have M3 := Lib.hid m3
    clear m3 hb3
    go_wp2_with (guard_target =~ wpList _ _ _ (⟨_, Op.store 30 _ _, _, _, _, _⟩ :: _) _ _; refine wpList_store_mid rfl 30 _ _ rfl (w.heap.size + 1) 0 #[.int .i8 0, .slice none 0 0, .slice none 0 0] rfl rfl r3 (by kernel_rfl) (three_one rfl rfl rfl) ?_)
    obtain ⟨t8, h8⟩ := M3.out.puts (.int .i8 0) (.slice none 0 0) (.slice none 0 0)
    refine bodyPost_ret (v := .tuple #[.agg #[.int .i8 0, .slice none 0 0, .slice none 0 0], .int .i64 1]) ?_ rfl ⟨_, rfl, bsets (by omega) _ 0 w3 HB3.out, ⟨.slice none 0 0, .slice none 0 0, rfl, by omega, by simp, by simp, World.ownsRow_nil _ _ _ _, World.ownsRow_nil _ _ _ _, by simp [Value.ownBlock], by simp [Value.ownBlock], by simp [Value.ownBlock]⟩⟩
    exact results_cell_tmp rfl _ _ (w.heap.size + 1) _ _ (0, 0) _ _ rfl rfl h8 Tryd.underlying30 rfl (by kernel_rfl)
  | true =>
    obtain ⟨eN, eG, eO⟩ := mc_end n gs os hc
    have eK : okC n gs os = 0 := by unfold okC; rw [hc]; rfl
    have HGW := Lib.hid ((mc_gw hc HG.out.2).1)
    have HIW := Lib.hid ((mc_gw hc HG.out.2).2)
    rw [eN, eG, eO, eK]
    have HC := Lib.hid hc
    clear eN eG eO eK hc
    obtain ⟨a1, a2, hb1, s1⟩ := nw2 w (.cells #[.int .i8 n, .slice A gs.length c, .slice A2 os.length c2] 30) (.cells #[.int .i8 0, .slice none 0 0, .slice none 0 0] 30)
    go_enter Tryd.func12, Tryd.ntmps12
    go_wp2_with fail
    generalize World.alloc (World.alloc w _) _ = w1 at a1 a2 hb1 s1 ⊢
    refine (openCircuit_any n _ _ gs os w1 (H.out.below hb1)).mono ?_
    rintro e w2 ⟨rfl, hb⟩
    have M2 : Hid (BX w2 (w.heap.size + 1) (.int .i8 0) (.slice none 0 0) (.slice none 0 0)) := Lib.hid (BX.below ⟨_, a2⟩ hb)
    have HB2 := Lib.hid (hb1.trans (hb.mono hb1.size))
    have HS1 := Lib.hid s1
    have HWS : Hid (w.heap.size + 2 ≤ w2.heap.size) := Lib.hid (by have := hb.size; omega)
    clear hb hb1 a1 a2 s1
    simp only [opW, HC.out, if_true]
    have HB4 := Lib.hid (nw1 w2 (.cells #[.slice A gs.length c, .int .i8 n, .slice A2 os.length c2] 74)).2.1
    go_wp2_with fail
    have HB24 := Lib.hid (HB2.out.trans (HB4.out.mono HB2.out.size))
    refine (implMerged_any n _ _ gs os HC.out _ (HG.out.below HB24.out) (HO.out.below HB24.out)).mono ?_
    rintro e w5 ⟨G5, O5, rfl, hb5, hg5, ho5⟩
    obtain ⟨AG, cG, rfl, _, _⟩ := own_formu hg5
    obtain ⟨AO, cO, rfl, _, _⟩ := own_formu ho5
    obtain ⟨na, hna⟩ : ∃ na, na = (mgT gs gs.length).2.length := ⟨_, rfl⟩
    rw [← hna] at hg5 ⊢
    have HNA := Lib.hid hna
    have HG5 := Lib.hid hg5; have HO5 := Lib.hid ho5
    have M5 := Lib.hid ((M2.out.below HB4.out).below hb5)
    have B5 := Lib.hid (HB24.out.trans (hb5.mono HB24.out.size))
    have HW4 := Lib.hid (show w.heap.size + 2 ≤ (w2.alloc (.cells #[.slice A gs.length c, .int .i8 n, .slice A2 os.length c2] 74)).heap.size from by rw [World.size_alloc]; have := HWS.out; omega)
    clear hb5 hg5 ho5 hna
    go_wp2_with fail
    refine (circuit_any _ _ _ _ _ _ _ _ _ rfl rfl w5).mono ?_
    rintro e w7 ⟨rfl, hb7⟩
    have m7 := M5.out.below hb7
    have r7 := m7.there
    have M7 := Lib.hid m7
    have B7 := Lib.hid (B5.out.trans (hb7.mono B5.out.size))
    have O7 := Lib.hid (owb HG5.out hb7); have P7 := Lib.hid (owb HO5.out hb7)
    have TYP := Lib.hid (show ∀ k, (Value.slice AG na cG).ownBlock = some k → (Value.slice AO os.length cO).ownBlock ≠ some k from fun k hk hk2 => by
      obtain ⟨c1, h1⟩ := own_type O7.out k hk
      obtain ⟨c2, h2⟩ := own_type P7.out k hk2
      rw [h1] at h2; cases h2)
    clear m7 hb7
    go_wp2_with (guard_target =~ wpList _ _ _ (⟨_, Op.store 30 _ _, _, _, _, _⟩ :: _) _ _; refine wpList_store_mid rfl 30 _ _ rfl (w.heap.size + 1) 0 #[.int .i8 n, .slice AG na cG, .slice AO os.length cO] rfl rfl r7 (by kernel_rfl) (three_one rfl rfl rfl) ?_)
    obtain ⟨t8, h8⟩ := M7.out.puts (.int .i8 n) (.slice AG na cG) (.slice AO os.length cO)
    have HON := Lib.hid (show (os.map (plc (mgT gs gs.length).1)).length = os.length from List.length_map _)
    refine bodyPost_ret (v := .tuple #[.agg #[.int .i8 n, .slice AG na cG, .slice AO os.length cO], .int .i64 0]) ?_ rfl ⟨_, rfl, bsets (by omega) _ 0 w7 B7.out, _, _, rfl, hn, HGW.out, HIW.out, ?_, ?_, ?_, ?_, ?_⟩
    · exact results_cell_tmp rfl _ _ (w.heap.size + 1) _ _ (0, 0) _ _ rfl rfl h8 Tryd.underlying30 rfl (by kernel_rfl)
    · rw [← HNA.out]; exact own_low (own_sets O7.out (by have := HW4.out; omega) _ 0) (by have := HW4.out; omega)
    · rw [HON.out]; exact own_low (own_sets P7.out (by have := HW4.out; omega) _ 0) (by have := HW4.out; omega)
    · intro k hk; exact (own_block (own_sets O7.out (show w.heap.size + 1 < _ from by have := HW4.out; omega) _ 0) k hk).2
    · intro k hk; exact (own_block (own_sets P7.out (show w.heap.size + 1 < _ from by have := HW4.out; omega) _ 0) k hk).2
    · exact TYP.out

end Go.Proofs.YtedcfmdgcafnmaaDoor
