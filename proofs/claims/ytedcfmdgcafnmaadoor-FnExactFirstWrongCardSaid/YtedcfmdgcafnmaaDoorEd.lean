/-
  CheckCircuit, FirstWrong.
-/
import Derived.Test.YtedcfmdgcafnmaaDoorEc
import Derived.Test.YtedcfmdgcafnmaaDoorCj
namespace Go.Proofs.YtedcfmdgcafnmaaDoor
set_option linter.unusedVariables false
set_option linter.unusedSimpArgs false
open Go.ChangeShapes Go.WideShapes Go.ChangeAt Go.RowKit Go.Deep

set_option maxHeartbeats 2000000 in
set_option maxRecDepth 100000 in
theorem ckI_bad (r : Int) (v : Value) (nn cl level : Int) (gs : List G3) (os : List Int) (w : World) (h : CI w v nn gs os) (hE : ET w) (hV : ccE nn gs os cl level = .iface 151 (.agg #[.int .i64 r])) :
    Calls Tryd.prog 17 #[v, .int .i64 cl, .int .i64 level] w fun e w' => e = .returned (.tuple #[.bool false, .int .i64 r]) ∧ Below w.heap.size w w' := by
  have HE := Lib.hid hE; have H := Lib.hid h; have HV := Lib.hid hV
  clear hE hV
  obtain ⟨G, O, rfl, hn, hg, ho⟩ := h
  have HG := Lib.hid hg; have HO := Lib.hid ho
  obtain ⟨A, c, rfl⟩ := hg.form
  obtain ⟨A2, c2, rfl⟩ := ho.form
  clear hg ho
  obtain ⟨z1, z2, z3⟩ := nw1 w (.cells #[.int .i8 nn, .slice A gs.length c, .slice A2 os.length c2] 30)
  go_enter Tryd.func17, Tryd.ntmps17
  go_wp2_with fail
  generalize World.alloc w _ = w1 at z1 z2 z3 ⊢
  refine (check_any _ nn cl level gs os w1 (H.out.below z2)).mono ?_
  rintro e w2 ⟨rfl, hb⟩
  rw [HV.out]
  have HB2 := Lib.hid (z2.trans (hb.mono z2.size))
  clear z1 z2 z3 hb
  go_upto_region 2 with fail
  refine wp_region_held_drew (S := fun _ => True) (by kernel_rfl) ?hS0 (fun hS => ?_)
  case hS0 => trivial
  have HB3 := Lib.hid (HB2.out.trans ((bdrew1 w2).mono HB2.out.size))
  generalize w2.drew = wd at hS HB3 ⊢
  refine takeHd (i := 0) (v := ?v0) rfl rfl (by kernel_rfl) (by kernel_rfl) (by kernel_rfl) (fun _ _ _ h => h) rfl ?hy0 hS ?rs0
  case hy0 => (intro wq hq; go_simp; try (with_reducible rfl))
  simp only [Act.put, List.setIfInBounds_toArray, List.set_cons_zero, List.set_cons_succ]
  refine takeHd (i := 1) (v := ?v1) rfl rfl (by kernel_rfl) (by kernel_rfl) (by kernel_rfl) (fun _ _ _ h => h) rfl ?hy1 hS ?rs1
  case hy1 => (intro wq hq; go_simp; try (with_reducible rfl))
  simp only [Act.put, List.setIfInBounds_toArray, List.set_cons_zero, List.set_cons_succ]
  refine takeHd (i := 2) (v := ?v2) rfl rfl (by kernel_rfl) (by kernel_rfl) (by kernel_rfl) (fun _ _ _ h => h) rfl ?hy2 hS ?rs2
  case hy2 => (intro wq hq; go_simp; try (with_reducible rfl))
  simp only [Act.put, List.setIfInBounds_toArray, List.set_cons_zero, List.set_cons_succ]
  refine wpAnyH_ready (rs := [3]) (by kernel_rfl) (by simp) ?_
  refine AllReadyH.cons rfl (fun K hK => ?_) AllReadyH.nil
  go_simp
  refine (reasonOf_bad r wd (HE.out.below HB3.out)).mono ?_
  rintro e w4 ⟨rfl, hb4⟩
  have HB4 := Lib.hid (HB3.out.trans (hb4.mono HB3.out.size))
  clear hb4
  refine hK.out _ w4 trivial (fun hS => ?_)
  clear hK
  try simp only [Act.put, List.setIfInBounds_toArray, List.set_cons_zero, List.set_cons_succ]
  refine takeHd (i := 4) (v := ?v4) rfl rfl (by kernel_rfl) (by kernel_rfl) (by kernel_rfl) (fun _ _ _ h => h) rfl ?hy4 hS ?rs4
  case hy4 => (intro wq hq; go_simp; try (with_reducible rfl))
  simp only [Act.put, List.setIfInBounds_toArray, List.set_cons_zero, List.set_cons_succ]
  refine takeHd (i := 5) (v := ?v5) rfl rfl (by kernel_rfl) (by kernel_rfl) (by kernel_rfl) (fun _ _ _ h => h) rfl ?hy5 hS ?rs5
  case hy5 => (intro wq hq; go_simp; try (with_reducible rfl))
  simp only [Act.put, List.setIfInBounds_toArray, List.set_cons_zero, List.set_cons_succ]
  refine wpAnyH_done (by kernel_rfl) ?_ _
  go_wp2_with fail
  go_ret2
  exact ⟨rfl, HB4.out⟩

set_option maxHeartbeats 2000000 in
set_option maxRecDepth 100000 in
theorem ckI_misfit  (v : Value) (nn cl level : Int) (gs : List G3) (os : List Int) (w : World) (h : CI w v nn gs os) (hE : ET w) (hV : ccE nn gs os cl level = .iface 93 (.agg #[])) :
    Calls Tryd.prog 17 #[v, .int .i64 cl, .int .i64 level] w fun e w' => e = .returned (.tuple #[.bool false, .int .i64 0]) ∧ Below w.heap.size w w' := by
  have HE := Lib.hid hE; have H := Lib.hid h; have HV := Lib.hid hV
  clear hE hV
  obtain ⟨G, O, rfl, hn, hg, ho⟩ := h
  have HG := Lib.hid hg; have HO := Lib.hid ho
  obtain ⟨A, c, rfl⟩ := hg.form
  obtain ⟨A2, c2, rfl⟩ := ho.form
  clear hg ho
  obtain ⟨z1, z2, z3⟩ := nw1 w (.cells #[.int .i8 nn, .slice A gs.length c, .slice A2 os.length c2] 30)
  go_enter Tryd.func17, Tryd.ntmps17
  go_wp2_with fail
  generalize World.alloc w _ = w1 at z1 z2 z3 ⊢
  refine (check_any _ nn cl level gs os w1 (H.out.below z2)).mono ?_
  rintro e w2 ⟨rfl, hb⟩
  rw [HV.out]
  have HB2 := Lib.hid (z2.trans (hb.mono z2.size))
  clear z1 z2 z3 hb
  go_upto_region 2 with fail
  refine wp_region_held_drew (S := fun _ => True) (by kernel_rfl) ?hS0 (fun hS => ?_)
  case hS0 => trivial
  have HB3 := Lib.hid (HB2.out.trans ((bdrew1 w2).mono HB2.out.size))
  generalize w2.drew = wd at hS HB3 ⊢
  refine takeHd (i := 0) (v := ?v0) rfl rfl (by kernel_rfl) (by kernel_rfl) (by kernel_rfl) (fun _ _ _ h => h) rfl ?hy0 hS ?rs0
  case hy0 => (intro wq hq; go_simp; try (with_reducible rfl))
  simp only [Act.put, List.setIfInBounds_toArray, List.set_cons_zero, List.set_cons_succ]
  refine takeHd (i := 1) (v := ?v1) rfl rfl (by kernel_rfl) (by kernel_rfl) (by kernel_rfl) (fun _ _ _ h => h) rfl ?hy1 hS ?rs1
  case hy1 => (intro wq hq; go_simp; try (with_reducible rfl))
  simp only [Act.put, List.setIfInBounds_toArray, List.set_cons_zero, List.set_cons_succ]
  refine takeHd (i := 2) (v := ?v2) rfl rfl (by kernel_rfl) (by kernel_rfl) (by kernel_rfl) (fun _ _ _ h => h) rfl ?hy2 hS ?rs2
  case hy2 => (intro wq hq; go_simp; try (with_reducible rfl))
  simp only [Act.put, List.setIfInBounds_toArray, List.set_cons_zero, List.set_cons_succ]
  refine wpAnyH_ready (rs := [3]) (by kernel_rfl) (by simp) ?_
  refine AllReadyH.cons rfl (fun K hK => ?_) AllReadyH.nil
  go_simp
  refine (reasonOf_misfit wd (HE.out.below HB3.out)).mono ?_
  rintro e w4 ⟨rfl, hb4⟩
  have HB4 := Lib.hid (HB3.out.trans (hb4.mono HB3.out.size))
  clear hb4
  refine hK.out _ w4 trivial (fun hS => ?_)
  clear hK
  try simp only [Act.put, List.setIfInBounds_toArray, List.set_cons_zero, List.set_cons_succ]
  refine takeHd (i := 4) (v := ?v4) rfl rfl (by kernel_rfl) (by kernel_rfl) (by kernel_rfl) (fun _ _ _ h => h) rfl ?hy4 hS ?rs4
  case hy4 => (intro wq hq; go_simp; try (with_reducible rfl))
  simp only [Act.put, List.setIfInBounds_toArray, List.set_cons_zero, List.set_cons_succ]
  refine takeHd (i := 5) (v := ?v5) rfl rfl (by kernel_rfl) (by kernel_rfl) (by kernel_rfl) (fun _ _ _ h => h) rfl ?hy5 hS ?rs5
  case hy5 => (intro wq hq; go_simp; try (with_reducible rfl))
  simp only [Act.put, List.setIfInBounds_toArray, List.set_cons_zero, List.set_cons_succ]
  refine wpAnyH_done (by kernel_rfl) ?_ _
  go_wp2_with fail
  go_ret2
  exact ⟨rfl, HB4.out⟩

set_option maxHeartbeats 2000000 in
set_option maxRecDepth 100000 in
theorem ckI_wrong (a b : Int) (v : Value) (nn cl level : Int) (gs : List G3) (os : List Int) (w : World) (h : CI w v nn gs os) (hE : ET w) (hV : ccE nn gs os cl level = .iface 91 (.agg #[.int .u16 a, .int .u16 b])) :
    Calls Tryd.prog 17 #[v, .int .i64 cl, .int .i64 level] w fun e w' => e = .returned (.tuple #[.bool false, .int .i64 0]) ∧ Below w.heap.size w w' := by
  have HE := Lib.hid hE; have H := Lib.hid h; have HV := Lib.hid hV
  clear hE hV
  obtain ⟨G, O, rfl, hn, hg, ho⟩ := h
  have HG := Lib.hid hg; have HO := Lib.hid ho
  obtain ⟨A, c, rfl⟩ := hg.form
  obtain ⟨A2, c2, rfl⟩ := ho.form
  clear hg ho
  obtain ⟨z1, z2, z3⟩ := nw1 w (.cells #[.int .i8 nn, .slice A gs.length c, .slice A2 os.length c2] 30)
  go_enter Tryd.func17, Tryd.ntmps17
  go_wp2_with fail
  generalize World.alloc w _ = w1 at z1 z2 z3 ⊢
  refine (check_any _ nn cl level gs os w1 (H.out.below z2)).mono ?_
  rintro e w2 ⟨rfl, hb⟩
  rw [HV.out]
  have HB2 := Lib.hid (z2.trans (hb.mono z2.size))
  clear z1 z2 z3 hb
  go_upto_region 2 with fail
  refine wp_region_held_drew (S := fun _ => True) (by kernel_rfl) ?hS0 (fun hS => ?_)
  case hS0 => trivial
  have HB3 := Lib.hid (HB2.out.trans ((bdrew1 w2).mono HB2.out.size))
  generalize w2.drew = wd at hS HB3 ⊢
  refine takeHd (i := 0) (v := ?v0) rfl rfl (by kernel_rfl) (by kernel_rfl) (by kernel_rfl) (fun _ _ _ h => h) rfl ?hy0 hS ?rs0
  case hy0 => (intro wq hq; go_simp; try (with_reducible rfl))
  simp only [Act.put, List.setIfInBounds_toArray, List.set_cons_zero, List.set_cons_succ]
  refine takeHd (i := 1) (v := ?v1) rfl rfl (by kernel_rfl) (by kernel_rfl) (by kernel_rfl) (fun _ _ _ h => h) rfl ?hy1 hS ?rs1
  case hy1 => (intro wq hq; go_simp; try (with_reducible rfl))
  simp only [Act.put, List.setIfInBounds_toArray, List.set_cons_zero, List.set_cons_succ]
  refine takeHd (i := 2) (v := ?v2) rfl rfl (by kernel_rfl) (by kernel_rfl) (by kernel_rfl) (fun _ _ _ h => h) rfl ?hy2 hS ?rs2
  case hy2 => (intro wq hq; go_simp; try (with_reducible rfl))
  simp only [Act.put, List.setIfInBounds_toArray, List.set_cons_zero, List.set_cons_succ]
  refine wpAnyH_ready (rs := [3]) (by kernel_rfl) (by simp) ?_
  refine AllReadyH.cons rfl (fun K hK => ?_) AllReadyH.nil
  go_simp
  refine (reasonOf_wrong a b wd (HE.out.below HB3.out)).mono ?_
  rintro e w4 ⟨rfl, hb4⟩
  have HB4 := Lib.hid (HB3.out.trans (hb4.mono HB3.out.size))
  clear hb4
  refine hK.out _ w4 trivial (fun hS => ?_)
  clear hK
  try simp only [Act.put, List.setIfInBounds_toArray, List.set_cons_zero, List.set_cons_succ]
  refine takeHd (i := 4) (v := ?v4) rfl rfl (by kernel_rfl) (by kernel_rfl) (by kernel_rfl) (fun _ _ _ h => h) rfl ?hy4 hS ?rs4
  case hy4 => (intro wq hq; go_simp; try (with_reducible rfl))
  simp only [Act.put, List.setIfInBounds_toArray, List.set_cons_zero, List.set_cons_succ]
  refine takeHd (i := 5) (v := ?v5) rfl rfl (by kernel_rfl) (by kernel_rfl) (by kernel_rfl) (fun _ _ _ h => h) rfl ?hy5 hS ?rs5
  case hy5 => (intro wq hq; go_simp; try (with_reducible rfl))
  simp only [Act.put, List.setIfInBounds_toArray, List.set_cons_zero, List.set_cons_succ]
  refine wpAnyH_done (by kernel_rfl) ?_ _
  go_wp2_with fail
  go_ret2
  exact ⟨rfl, HB4.out⟩

set_option maxHeartbeats 2000000 in
set_option maxRecDepth 100000 in
theorem ckI_nil  (v : Value) (nn cl level : Int) (gs : List G3) (os : List Int) (w : World) (h : CI w v nn gs os) (hE : ET w) (hV : ccE nn gs os cl level = .nilIface) :
    Calls Tryd.prog 17 #[v, .int .i64 cl, .int .i64 level] w fun e w' => e = .returned (.tuple #[.bool true, .int .i64 0]) ∧ Below w.heap.size w w' := by
  have HE := Lib.hid hE; have H := Lib.hid h; have HV := Lib.hid hV
  clear hE hV
  obtain ⟨G, O, rfl, hn, hg, ho⟩ := h
  have HG := Lib.hid hg; have HO := Lib.hid ho
  obtain ⟨A, c, rfl⟩ := hg.form
  obtain ⟨A2, c2, rfl⟩ := ho.form
  clear hg ho
  obtain ⟨z1, z2, z3⟩ := nw1 w (.cells #[.int .i8 nn, .slice A gs.length c, .slice A2 os.length c2] 30)
  go_enter Tryd.func17, Tryd.ntmps17
  go_wp2_with fail
  generalize World.alloc w _ = w1 at z1 z2 z3 ⊢
  refine (check_any _ nn cl level gs os w1 (H.out.below z2)).mono ?_
  rintro e w2 ⟨rfl, hb⟩
  rw [HV.out]
  have HB2 := Lib.hid (z2.trans (hb.mono z2.size))
  clear z1 z2 z3 hb
  go_upto_region 2 with fail
  refine wp_region_held_drew (S := fun _ => True) (by kernel_rfl) ?hS0 (fun hS => ?_)
  case hS0 => trivial
  have HB3 := Lib.hid (HB2.out.trans ((bdrew1 w2).mono HB2.out.size))
  generalize w2.drew = wd at hS HB3 ⊢
  refine takeHd (i := 0) (v := ?v0) rfl rfl (by kernel_rfl) (by kernel_rfl) (by kernel_rfl) (fun _ _ _ h => h) rfl ?hy0 hS ?rs0
  case hy0 => (intro wq hq; go_simp; try (with_reducible rfl))
  simp only [Act.put, List.setIfInBounds_toArray, List.set_cons_zero, List.set_cons_succ]
  refine takeHd (i := 1) (v := ?v1) rfl rfl (by kernel_rfl) (by kernel_rfl) (by kernel_rfl) (fun _ _ _ h => h) rfl ?hy1 hS ?rs1
  case hy1 => (intro wq hq; go_simp; try (with_reducible rfl))
  simp only [Act.put, List.setIfInBounds_toArray, List.set_cons_zero, List.set_cons_succ]
  refine takeHd (i := 2) (v := ?v2) rfl rfl (by kernel_rfl) (by kernel_rfl) (by kernel_rfl) (fun _ _ _ h => h) rfl ?hy2 hS ?rs2
  case hy2 => (intro wq hq; go_simp; try (with_reducible rfl))
  simp only [Act.put, List.setIfInBounds_toArray, List.set_cons_zero, List.set_cons_succ]
  refine wpAnyH_ready (rs := [3]) (by kernel_rfl) (by simp) ?_
  refine AllReadyH.cons rfl (fun K hK => ?_) AllReadyH.nil
  go_simp
  refine (reasonOf_nil wd (HE.out.below HB3.out)).mono ?_
  rintro e w4 ⟨rfl, hb4⟩
  have HB4 := Lib.hid (HB3.out.trans (hb4.mono HB3.out.size))
  clear hb4
  refine hK.out _ w4 trivial (fun hS => ?_)
  clear hK
  try simp only [Act.put, List.setIfInBounds_toArray, List.set_cons_zero, List.set_cons_succ]
  refine takeHd (i := 4) (v := ?v4) rfl rfl (by kernel_rfl) (by kernel_rfl) (by kernel_rfl) (fun _ _ _ h => h) rfl ?hy4 hS ?rs4
  case hy4 => (intro wq hq; go_simp; try (with_reducible rfl))
  simp only [Act.put, List.setIfInBounds_toArray, List.set_cons_zero, List.set_cons_succ]
  refine takeHd (i := 5) (v := ?v5) rfl rfl (by kernel_rfl) (by kernel_rfl) (by kernel_rfl) (fun _ _ _ h => h) rfl ?hy5 hS ?rs5
  case hy5 => (intro wq hq; go_simp; try (with_reducible rfl))
  simp only [Act.put, List.setIfInBounds_toArray, List.set_cons_zero, List.set_cons_succ]
  refine wpAnyH_done (by kernel_rfl) ?_ _
  go_wp2_with fail
  go_ret2
  exact ⟨rfl, HB4.out⟩

theorem there_below {w w1 : World} {g o n : Nat} (h : w.there g o n) (hlt : g < w.heap.size) (hb : Below w.heap.size w w1) : w1.there g o n := fun j hj => by
  have h0 := h j hj
  refine ⟨?_, ?_⟩
  · rw [hb.cell (p := ⟨g, o + j, none⟩) hlt]; exact h0.1
  · rw [hb.frozen (p := ⟨g, o + j, none⟩) hlt]; exact h0.2
theorem there2 {w : World} {g : Nat} {a b : Value} {t : TypeId} (h : w.heap[g]? = some (.cells #[a, b] t (0, 0))) : w.there g 0 2 := fun j hj => by
  have hc : j = 0 ∨ j = 1 := by omega
  rcases hc with rfl | rfl
  · refine ⟨?_, ?_⟩
    · rw [cell_of_row _ _ _ _ _ _ h]; rfl
    · unfold World.frozen?; rw [h]; simp
  · refine ⟨?_, ?_⟩
    · rw [cell_of_row _ _ _ _ _ _ h]; rfl
    · unfold World.frozen?; rw [h]; simp
theorem there0 (w : World) (g : Nat) : w.there g 0 0 := fun j hj => by omega

set_option maxHeartbeats 2000000 in
set_option maxRecDepth 100000 in
theorem fwI_bad (r : Int) (v : Value) (nn cl level : Int) (gs : List G3) (os : List Int) (w : World) (h : CI w v nn gs os) (hE : ET w) (hV : ccE nn gs os cl level = .iface 151 (.agg #[.int .i64 r])) :
    Calls Tryd.prog 19 #[v, .int .i64 cl, .int .i64 level] w fun e w' => e = .returned (.tuple #[.int .u16 0, .int .u16 0, .int .i64 r]) ∧ Below w.heap.size w w' := by
  have HE := Lib.hid hE; have H := Lib.hid h; have HV := Lib.hid hV
  clear hE hV
  obtain ⟨G, O, rfl, hn, hg, ho⟩ := h
  have HG := Lib.hid hg; have HO := Lib.hid ho
  obtain ⟨A, c, rfl⟩ := hg.form
  obtain ⟨A2, c2, rfl⟩ := ho.form
  clear hg ho
  obtain ⟨z1, z2, z3⟩ := nw1 w (.cells #[.int .i8 nn, .slice A gs.length c, .slice A2 os.length c2] 30)
  go_enter Tryd.func19, Tryd.ntmps19
  go_wp2_with fail
  generalize World.alloc w _ = w1 at z1 z2 z3 ⊢
  refine (check_any _ nn cl level gs os w1 (H.out.below z2)).mono ?_
  rintro e w2 ⟨rfl, hb⟩
  rw [HV.out]
  have HB2 := Lib.hid (z2.trans (hb.mono z2.size))
  clear z1 z2 z3 hb
  obtain ⟨y1, y2, y3, y4⟩ := nw2 w2 (.cells #[.int .u16 0, .int .u16 0] 91) (.cells #[] 93)
  go_upto_region 4 with fail
  generalize World.alloc (World.alloc w2 _) _ = w3 at y1 y2 y3 y4 ⊢
  have HB3 := Lib.hid (HB2.out.trans (y3.mono HB2.out.size))
  have HT := Lib.hid (there2 y1)
  have HLT : Hid (w2.heap.size < w3.heap.size) := Lib.hid (by omega)
  clear y1 y2 y3 y4
  go_wp2_with fail
  refine (asMiss_bad_wrong r w2.heap.size w3 (HE.out.below HB3.out)).mono ?_
  rintro e w4 ⟨rfl, hb4⟩
  have HB4 := Lib.hid (HB3.out.trans (hb4.mono HB3.out.size))
  clear hb4
  go_wp2_with fail
  refine (asMiss_bad_misfit r (w2.heap.size + 1) w4 (HE.out.below HB4.out)).mono ?_
  rintro e w5 ⟨rfl, hb5⟩
  have HB5 := Lib.hid (HB4.out.trans (hb5.mono HB4.out.size))
  clear hb5
  go_wp2_with fail
  refine (reasonOf_bad r w5 (HE.out.below HB5.out)).mono ?_
  rintro e w6 ⟨rfl, hb6⟩
  have HB6 := Lib.hid (HB5.out.trans (hb6.mono HB5.out.size))
  clear hb6
  go_wp2_with fail
  go_ret3
  exact ⟨rfl, HB6.out⟩

set_option maxHeartbeats 2000000 in
set_option maxRecDepth 100000 in
theorem fwI_misfit  (v : Value) (nn cl level : Int) (gs : List G3) (os : List Int) (w : World) (h : CI w v nn gs os) (hE : ET w) (hV : ccE nn gs os cl level = .iface 93 (.agg #[])) :
    Calls Tryd.prog 19 #[v, .int .i64 cl, .int .i64 level] w fun e w' => e = .returned (.tuple #[.int .u16 0, .int .u16 0, .int .i64 4]) ∧ Below w.heap.size w w' := by
  have HE := Lib.hid hE; have H := Lib.hid h; have HV := Lib.hid hV
  clear hE hV
  obtain ⟨G, O, rfl, hn, hg, ho⟩ := h
  have HG := Lib.hid hg; have HO := Lib.hid ho
  obtain ⟨A, c, rfl⟩ := hg.form
  obtain ⟨A2, c2, rfl⟩ := ho.form
  clear hg ho
  obtain ⟨z1, z2, z3⟩ := nw1 w (.cells #[.int .i8 nn, .slice A gs.length c, .slice A2 os.length c2] 30)
  go_enter Tryd.func19, Tryd.ntmps19
  go_wp2_with fail
  generalize World.alloc w _ = w1 at z1 z2 z3 ⊢
  refine (check_any _ nn cl level gs os w1 (H.out.below z2)).mono ?_
  rintro e w2 ⟨rfl, hb⟩
  rw [HV.out]
  have HB2 := Lib.hid (z2.trans (hb.mono z2.size))
  clear z1 z2 z3 hb
  obtain ⟨y1, y2, y3, y4⟩ := nw2 w2 (.cells #[.int .u16 0, .int .u16 0] 91) (.cells #[] 93)
  go_upto_region 4 with fail
  generalize World.alloc (World.alloc w2 _) _ = w3 at y1 y2 y3 y4 ⊢
  have HB3 := Lib.hid (HB2.out.trans (y3.mono HB2.out.size))
  have HT := Lib.hid (there2 y1)
  have HLT : Hid (w2.heap.size < w3.heap.size) := Lib.hid (by omega)
  clear y1 y2 y3 y4
  go_wp2_with fail
  refine (asMiss_misfit_wrong  w2.heap.size w3 (HE.out.below HB3.out)).mono ?_
  rintro e w4 ⟨rfl, hb4⟩
  have HB4 := Lib.hid (HB3.out.trans (hb4.mono HB3.out.size))
  clear hb4
  go_wp2_with fail
  refine (as_misfit (w2.heap.size + 1) w4 (HE.out.below HB4.out) (there0 _ _)).mono ?_
  rintro e w5 ⟨rfl, w6, hb6, rfl⟩
  have HB6 := Lib.hid (HB4.out.trans (hb6.mono HB4.out.size))
  clear hb6
  simp only [World.setCells]
  go_wp2_with fail
  go_ret3
  exact ⟨rfl, HB6.out⟩

set_option maxHeartbeats 2000000 in
set_option maxRecDepth 100000 in
theorem fwI_wrong (a b : Int) (v : Value) (nn cl level : Int) (gs : List G3) (os : List Int) (w : World) (h : CI w v nn gs os) (hE : ET w) (hV : ccE nn gs os cl level = .iface 91 (.agg #[.int .u16 a, .int .u16 b])) :
    Calls Tryd.prog 19 #[v, .int .i64 cl, .int .i64 level] w fun e w' => e = .returned (.tuple #[.int .u16 a, .int .u16 b, .int .i64 0]) ∧ Below w.heap.size w w' := by
  have HE := Lib.hid hE; have H := Lib.hid h; have HV := Lib.hid hV
  clear hE hV
  obtain ⟨G, O, rfl, hn, hg, ho⟩ := h
  have HG := Lib.hid hg; have HO := Lib.hid ho
  obtain ⟨A, c, rfl⟩ := hg.form
  obtain ⟨A2, c2, rfl⟩ := ho.form
  clear hg ho
  obtain ⟨z1, z2, z3⟩ := nw1 w (.cells #[.int .i8 nn, .slice A gs.length c, .slice A2 os.length c2] 30)
  go_enter Tryd.func19, Tryd.ntmps19
  go_wp2_with fail
  generalize World.alloc w _ = w1 at z1 z2 z3 ⊢
  refine (check_any _ nn cl level gs os w1 (H.out.below z2)).mono ?_
  rintro e w2 ⟨rfl, hb⟩
  rw [HV.out]
  have HB2 := Lib.hid (z2.trans (hb.mono z2.size))
  clear z1 z2 z3 hb
  obtain ⟨y1, y2, y3, y4⟩ := nw2 w2 (.cells #[.int .u16 0, .int .u16 0] 91) (.cells #[] 93)
  go_upto_region 4 with fail
  generalize World.alloc (World.alloc w2 _) _ = w3 at y1 y2 y3 y4 ⊢
  have HB3 := Lib.hid (HB2.out.trans (y3.mono HB2.out.size))
  have HT := Lib.hid (there2 y1)
  have HLT : Hid (w2.heap.size < w3.heap.size) := Lib.hid (by omega)
  clear y1 y2 y3 y4
  go_wp2_with fail
  refine (as_wrong a b w2.heap.size w3 (HE.out.below HB3.out) HT.out).mono ?_
  rintro e w4 ⟨rfl, w5, hb5, rfl⟩
  have hr := World.rangeAt_setCells_same w5 w2.heap.size 0 [.int .u16 a, .int .u16 b] (there_below HT.out HLT.out hb5)
  have HQ := Lib.hid (And.intro (show _ = some (Value.int .u16 a) from hr 0 _ rfl) (show _ = some (Value.int .u16 b) from hr 1 _ rfl))
  have HB5 := Lib.hid (bsets (g := w2.heap.size) HB2.out.size [.int .u16 a, .int .u16 b] 0 w5 (HB3.out.trans (hb5.mono HB3.out.size)))
  clear hb5 hr
  go_upto_region 7 with fail
  generalize w5.setCells _ _ _ = w6 at HQ HB5 ⊢
  refine wp_region_held_drew (S := fun u => u.cell? ⟨w2.heap.size, 0, none⟩ = some (.int .u16 a) ∧ u.cell? ⟨w2.heap.size, 1, none⟩ = some (.int .u16 b)) (by kernel_rfl) ?hS0 (fun hS => ?_)
  case hS0 => exact HQ.out
  have HB7 := Lib.hid (HB5.out.trans ((bdrew1 w6).mono HB5.out.size))
  generalize w6.drew = wd at hS HB7 ⊢
  refine takeHd (i := 0) (v := ?v0) rfl rfl (by kernel_rfl) (by kernel_rfl) (by kernel_rfl) (fun _ _ _ h => h) rfl ?hy0 hS ?rs0
  case hy0 => (intro wq hq; obtain ⟨hq1, hq2⟩ := hq; go_simp; try (with_reducible rfl))
  simp only [Act.put, List.setIfInBounds_toArray, List.set_cons_zero, List.set_cons_succ]
  refine takeHd (i := 1) (v := ?v1) rfl rfl (by kernel_rfl) (by kernel_rfl) (by kernel_rfl) (fun _ _ _ h => h) rfl ?hy1 hS ?rs1
  case hy1 => (intro wq hq; obtain ⟨hq1, hq2⟩ := hq; go_simp; try (with_reducible rfl))
  simp only [Act.put, List.setIfInBounds_toArray, List.set_cons_zero, List.set_cons_succ]
  refine takeHd (i := 2) (v := ?v2) rfl rfl (by kernel_rfl) (by kernel_rfl) (by kernel_rfl) (fun _ _ _ h => h) rfl ?hy2 hS ?rs2
  case hy2 => (intro wq hq; obtain ⟨hq1, hq2⟩ := hq; go_simp; try (with_reducible rfl))
  simp only [Act.put, List.setIfInBounds_toArray, List.set_cons_zero, List.set_cons_succ]
  refine takeHd (i := 3) (v := ?v3) rfl rfl (by kernel_rfl) (by kernel_rfl) (by kernel_rfl) (fun _ _ _ h => h) rfl ?hy3 hS ?rs3
  case hy3 => (intro wq hq; obtain ⟨hq1, hq2⟩ := hq; go_simp; try (with_reducible rfl))
  simp only [Act.put, List.setIfInBounds_toArray, List.set_cons_zero, List.set_cons_succ]
  refine takeHd (i := 4) (v := ?v4) rfl rfl (by kernel_rfl) (by kernel_rfl) (by kernel_rfl) (fun _ _ _ h => h) rfl ?hy4 hS ?rs4
  case hy4 => (intro wq hq; obtain ⟨hq1, hq2⟩ := hq; go_simp; try (with_reducible rfl))
  simp only [Act.put, List.setIfInBounds_toArray, List.set_cons_zero, List.set_cons_succ]
  refine takeHd (i := 5) (v := ?v5) rfl rfl (by kernel_rfl) (by kernel_rfl) (by kernel_rfl) (fun _ _ _ h => h) rfl ?hy5 hS ?rs5
  case hy5 => (intro wq hq; obtain ⟨hq1, hq2⟩ := hq; go_simp; try (with_reducible rfl))
  simp only [Act.put, List.setIfInBounds_toArray, List.set_cons_zero, List.set_cons_succ]
  refine takeHd (i := 6) (v := ?v6) rfl rfl (by kernel_rfl) (by kernel_rfl) (by kernel_rfl) (fun _ _ _ h => h) rfl ?hy6 hS ?rs6
  case hy6 => (intro wq hq; obtain ⟨hq1, hq2⟩ := hq; go_simp; try (with_reducible rfl))
  simp only [Act.put, List.setIfInBounds_toArray, List.set_cons_zero, List.set_cons_succ]
  refine wpAnyH_done (by kernel_rfl) ?_ _
  go_wp2_with fail
  go_ret3
  exact ⟨rfl, HB7.out⟩

set_option maxHeartbeats 2000000 in
set_option maxRecDepth 100000 in
theorem fwI_nil  (v : Value) (nn cl level : Int) (gs : List G3) (os : List Int) (w : World) (h : CI w v nn gs os) (hE : ET w) (hV : ccE nn gs os cl level = .nilIface) :
    Calls Tryd.prog 19 #[v, .int .i64 cl, .int .i64 level] w fun e w' => e = .returned (.tuple #[.int .u16 0, .int .u16 0, .int .i64 6]) ∧ Below w.heap.size w w' := by
  have HE := Lib.hid hE; have H := Lib.hid h; have HV := Lib.hid hV
  clear hE hV
  obtain ⟨G, O, rfl, hn, hg, ho⟩ := h
  have HG := Lib.hid hg; have HO := Lib.hid ho
  obtain ⟨A, c, rfl⟩ := hg.form
  obtain ⟨A2, c2, rfl⟩ := ho.form
  clear hg ho
  obtain ⟨z1, z2, z3⟩ := nw1 w (.cells #[.int .i8 nn, .slice A gs.length c, .slice A2 os.length c2] 30)
  go_enter Tryd.func19, Tryd.ntmps19
  go_wp2_with fail
  generalize World.alloc w _ = w1 at z1 z2 z3 ⊢
  refine (check_any _ nn cl level gs os w1 (H.out.below z2)).mono ?_
  rintro e w2 ⟨rfl, hb⟩
  rw [HV.out]
  have HB2 := Lib.hid (z2.trans (hb.mono z2.size))
  clear z1 z2 z3 hb
  obtain ⟨y1, y2, y3, y4⟩ := nw2 w2 (.cells #[.int .u16 0, .int .u16 0] 91) (.cells #[] 93)
  go_upto_region 4 with fail
  generalize World.alloc (World.alloc w2 _) _ = w3 at y1 y2 y3 y4 ⊢
  have HB3 := Lib.hid (HB2.out.trans (y3.mono HB2.out.size))
  have HT := Lib.hid (there2 y1)
  have HLT : Hid (w2.heap.size < w3.heap.size) := Lib.hid (by omega)
  clear y1 y2 y3 y4
  go_wp2_with fail
  go_ret3
  exact ⟨rfl, HB3.out⟩

def ckB (nn : Int) (gs : List G3) (os : List Int) (cl level : Int) : Bool := circB nn gs os && (clB cl level && (fitB nn os level && (fstW cl gs os (2 ^ level.toNat)).isNone))
def fwO (nn : Int) (gs : List G3) (os : List Int) (cl level : Int) : Int × Int × Int :=
  if circB nn gs os then (if clB cl level then (if fitB nn os level then (match fstW cl gs os (2 ^ level.toNat) with | none => (0, 0, 6) | some t => (((t / 2 ^ (2 ^ level.toNat) : Nat) : Int), ((t % 2 ^ (2 ^ level.toNat) : Nat) : Int), 0)) else (0, 0, 4)) else (0, 0, 2)) else (0, 0, 1)

theorem impl_CheckCircuit (v : Value) (nn : Int) (gs : List G3) (os : List Int) (cl level : Int) (hb1 : -9223372036854775808 ≤ cl ∧ cl ≤ 9223372036854775807) (hb2 : -9223372036854775808 ≤ level ∧ level ≤ 9223372036854775807) (w : World) (h : CI w v nn gs os) (hE : ET w) :
    Calls Tryd.prog 17 #[v, .int .i64 cl, .int .i64 level] w fun e w' => e = .returned (.tuple #[.bool (ckB nn gs os cl level), .int .i64 (clK nn gs os cl level)]) ∧ Below w.heap.size w w' := by
  cases hc : circB nn gs os with
  | false =>
    have hV : ccE nn gs os cl level = .iface 151 (.agg #[.int .i64 1]) := by unfold ccE; rw [hc]; rfl
    refine (ckI_bad 1 v nn cl level gs os w h hE hV).mono ?_
    rintro e w' ⟨rfl, hb⟩
    exact ⟨by first | (unfold ckB clK; rw [hc]; rfl) | (unfold fwO; rw [hc]; rfl), hb⟩
  | true =>
    cases hcl : clB cl level with
    | false =>
      have hV : ccE nn gs os cl level = .iface 151 (.agg #[.int .i64 2]) := by unfold ccE; rw [hc, hcl]; rfl
      refine (ckI_bad 2 v nn cl level gs os w h hE hV).mono ?_
      rintro e w' ⟨rfl, hb⟩
      exact ⟨by first | (unfold ckB clK; rw [hc, hcl]; rfl) | (unfold fwO; rw [hc, hcl]; rfl), hb⟩
    | true =>
      cases hf : fitB nn os level with
      | false =>
        have hV : ccE nn gs os cl level = .iface 93 (.agg #[]) := by unfold ccE; rw [hc, hcl, hf]; rfl
        refine (ckI_misfit v nn cl level gs os w h hE hV).mono ?_
        rintro e w' ⟨rfl, hb⟩
        exact ⟨by first | (unfold ckB clK; rw [hc, hcl, hf]; rfl) | (unfold fwO; rw [hc, hcl, hf]; rfl), hb⟩
      | true =>
        cases hw : fstW cl gs os (2 ^ level.toNat) with
        | none =>
          have hV : ccE nn gs os cl level = .nilIface := by unfold ccE; rw [hc, hcl, hf, hw]; rfl
          refine (ckI_nil v nn cl level gs os w h hE hV).mono ?_
          rintro e w' ⟨rfl, hb⟩
          exact ⟨by first | (unfold ckB clK; rw [hc, hcl, hf, hw]; rfl) | (unfold fwO; rw [hc, hcl, hf, hw]; rfl), hb⟩
        | some t =>
          have hV : ccE nn gs os cl level = .iface 91 (.agg #[.int .u16 ((t / 2 ^ (2 ^ level.toNat) : Nat) : Int), .int .u16 ((t % 2 ^ (2 ^ level.toNat) : Nat) : Int)]) := by unfold ccE; rw [hc, hcl, hf, hw]; rfl
          refine (ckI_wrong _ _ v nn cl level gs os w h hE hV).mono ?_
          rintro e w' ⟨rfl, hb⟩
          exact ⟨by first | (unfold ckB clK; rw [hc, hcl, hf, hw]; rfl) | (unfold fwO; rw [hc, hcl, hf, hw]; rfl), hb⟩

theorem impl_FirstWrong (v : Value) (nn : Int) (gs : List G3) (os : List Int) (cl level : Int) (hb1 : -9223372036854775808 ≤ cl ∧ cl ≤ 9223372036854775807) (hb2 : -9223372036854775808 ≤ level ∧ level ≤ 9223372036854775807) (w : World) (h : CI w v nn gs os) (hE : ET w) :
    Calls Tryd.prog 19 #[v, .int .i64 cl, .int .i64 level] w fun e w' => e = .returned (.tuple #[.int .u16 (fwO nn gs os cl level).1, .int .u16 (fwO nn gs os cl level).2.1, .int .i64 (fwO nn gs os cl level).2.2]) ∧ Below w.heap.size w w' := by
  cases hc : circB nn gs os with
  | false =>
    have hV : ccE nn gs os cl level = .iface 151 (.agg #[.int .i64 1]) := by unfold ccE; rw [hc]; rfl
    refine (fwI_bad 1 v nn cl level gs os w h hE hV).mono ?_
    rintro e w' ⟨rfl, hb⟩
    exact ⟨by first | (unfold ckB clK; rw [hc]; rfl) | (unfold fwO; rw [hc]; rfl), hb⟩
  | true =>
    cases hcl : clB cl level with
    | false =>
      have hV : ccE nn gs os cl level = .iface 151 (.agg #[.int .i64 2]) := by unfold ccE; rw [hc, hcl]; rfl
      refine (fwI_bad 2 v nn cl level gs os w h hE hV).mono ?_
      rintro e w' ⟨rfl, hb⟩
      exact ⟨by first | (unfold ckB clK; rw [hc, hcl]; rfl) | (unfold fwO; rw [hc, hcl]; rfl), hb⟩
    | true =>
      cases hf : fitB nn os level with
      | false =>
        have hV : ccE nn gs os cl level = .iface 93 (.agg #[]) := by unfold ccE; rw [hc, hcl, hf]; rfl
        refine (fwI_misfit v nn cl level gs os w h hE hV).mono ?_
        rintro e w' ⟨rfl, hb⟩
        exact ⟨by first | (unfold ckB clK; rw [hc, hcl, hf]; rfl) | (unfold fwO; rw [hc, hcl, hf]; rfl), hb⟩
      | true =>
        cases hw : fstW cl gs os (2 ^ level.toNat) with
        | none =>
          have hV : ccE nn gs os cl level = .nilIface := by unfold ccE; rw [hc, hcl, hf, hw]; rfl
          refine (fwI_nil v nn cl level gs os w h hE hV).mono ?_
          rintro e w' ⟨rfl, hb⟩
          exact ⟨by first | (unfold ckB clK; rw [hc, hcl, hf, hw]; rfl) | (unfold fwO; rw [hc, hcl, hf, hw]; rfl), hb⟩
        | some t =>
          have hV : ccE nn gs os cl level = .iface 91 (.agg #[.int .u16 ((t / 2 ^ (2 ^ level.toNat) : Nat) : Int), .int .u16 ((t % 2 ^ (2 ^ level.toNat) : Nat) : Int)]) := by unfold ccE; rw [hc, hcl, hf, hw]; rfl
          refine (fwI_wrong _ _ v nn cl level gs os w h hE hV).mono ?_
          rintro e w' ⟨rfl, hb⟩
          exact ⟨by first | (unfold ckB clK; rw [hc, hcl, hf, hw]; rfl) | (unfold fwO; rw [hc, hcl, hf, hw]; rfl), hb⟩

set_option maxHeartbeats 2000000 in
set_option maxRecDepth 100000 in
theorem spec_CheckCircuit (v : Value) (nn : Int) (gs : List G3) (os : List Int) (cl level : Int) (hb1 : -9223372036854775808 ≤ cl ∧ cl ≤ 9223372036854775807) (hb2 : -9223372036854775808 ≤ level ∧ level ≤ 9223372036854775807) (w : World) (h : CI w v nn gs os) :
    Calls Tryd.prog 16 #[v, .int .i64 cl, .int .i64 level] w fun e w' => e = .returned (.tuple #[.bool (ckB nn gs os cl level), .int .i64 (clK nn gs os cl level)]) ∧ Below w.heap.size w w' := by
  clear hb1 hb2
  obtain ⟨G, O, rfl, hn, hg, ho⟩ := h
  have HG := Lib.hid hg; have HO := Lib.hid ho
  obtain ⟨A, c, rfl⟩ := hg.form
  obtain ⟨A2, c2, rfl⟩ := ho.form
  clear hg ho
  cases hc : circB nn gs os with
  | false =>
    have HKK := Lib.hid (show clK nn gs os cl level = 1 from by unfold clK; rw [hc]; rfl)
    have HP := Lib.hid (show ((.tuple #[.bool (ckB nn gs os cl level), .int .i64 (clK nn gs os cl level)]) : Value) = .tuple #[.bool false, .int .i64 1] from by unfold ckB clK; rw [hc]; rfl)
    clear hc
    obtain ⟨z1, z2, z3⟩ := nw1 w (.cells #[.int .i8 nn, .slice A gs.length c, .slice A2 os.length c2] 30)
    go_enter Tryd.func16, Tryd.ntmps16
    go_wp2_with fail
    generalize World.alloc w _ = w1 at z1 z2 z3 ⊢
    have x1 : BX w1 w.heap.size (.int .i8 nn) (.slice A gs.length c) (.slice A2 os.length c2) := ⟨_, z1⟩
    refine (claimedS_any w.heap.size nn cl level _ _ gs os hn w1 x1 (HG.out.below z2) (HO.out.below z2)).mono ?_
    rintro e w2 ⟨rfl, hb⟩
    rw [HKK.out]
    have HB2 := Lib.hid (z2.trans (hb.mono z2.size))
    have X2 := Lib.hid (x1.below hb)
    clear z1 z2 z3 hb x1
    go_wp2_with fail
    go_ret2
    exact ⟨by rw [HP.out]; first | done | rfl, HB2.out⟩
  | true =>
    cases hcl : clB cl level with
    | false =>
      have HKK := Lib.hid (show clK nn gs os cl level = 2 from by unfold clK; rw [hc, hcl]; rfl)
      have HP := Lib.hid (show ((.tuple #[.bool (ckB nn gs os cl level), .int .i64 (clK nn gs os cl level)]) : Value) = .tuple #[.bool false, .int .i64 2] from by unfold ckB clK; rw [hc, hcl]; rfl)
      clear hc hcl
      obtain ⟨z1, z2, z3⟩ := nw1 w (.cells #[.int .i8 nn, .slice A gs.length c, .slice A2 os.length c2] 30)
      go_enter Tryd.func16, Tryd.ntmps16
      go_wp2_with fail
      generalize World.alloc w _ = w1 at z1 z2 z3 ⊢
      have x1 : BX w1 w.heap.size (.int .i8 nn) (.slice A gs.length c) (.slice A2 os.length c2) := ⟨_, z1⟩
      refine (claimedS_any w.heap.size nn cl level _ _ gs os hn w1 x1 (HG.out.below z2) (HO.out.below z2)).mono ?_
      rintro e w2 ⟨rfl, hb⟩
      rw [HKK.out]
      have HB2 := Lib.hid (z2.trans (hb.mono z2.size))
      have X2 := Lib.hid (x1.below hb)
      clear z1 z2 z3 hb x1
      go_wp2_with fail
      go_ret2
      exact ⟨by rw [HP.out]; first | done | rfl, HB2.out⟩
    | true =>
      have HKK := Lib.hid (show clK nn gs os cl level = 0 from by unfold clK; rw [hc, hcl]; rfl)
      have HC := Lib.hid hc; have HCL := Lib.hid hcl
      cases hf : fitB nn os level with
      | false =>
        have HF := Lib.hid hf
        have HP := Lib.hid (show ((.tuple #[.bool (ckB nn gs os cl level), .int .i64 (clK nn gs os cl level)]) : Value) = .tuple #[.bool false, .int .i64 0] from by unfold ckB clK; rw [hc, hcl, hf]; rfl)
        clear hc hcl hf
        obtain ⟨z1, z2, z3⟩ := nw1 w (.cells #[.int .i8 nn, .slice A gs.length c, .slice A2 os.length c2] 30)
        go_enter Tryd.func16, Tryd.ntmps16
        go_wp2_with fail
        generalize World.alloc w _ = w1 at z1 z2 z3 ⊢
        have x1 : BX w1 w.heap.size (.int .i8 nn) (.slice A gs.length c) (.slice A2 os.length c2) := ⟨_, z1⟩
        refine (claimedS_any w.heap.size nn cl level _ _ gs os hn w1 x1 (HG.out.below z2) (HO.out.below z2)).mono ?_
        rintro e w2 ⟨rfl, hb⟩
        rw [HKK.out]
        have HB2 := Lib.hid (z2.trans (hb.mono z2.size))
        have X2 := Lib.hid (x1.below hb)
        clear z1 z2 z3 hb x1
        go_wp2_with fail
        refine (fitsS_any w.heap.size nn cl level HCL.out hn A2 _ os c2 w2 X2.out).mono ?_
        rintro e w3 ⟨rfl, hww⟩
        subst hww
        rw [HF.out]
        go_wp2_with fail
        go_ret2
        exact ⟨by rw [HP.out]; first | done | rfl, HB2.out⟩
      | true =>
        have HF := Lib.hid hf
        cases hw : fstW cl gs os (2 ^ level.toNat) with
        | none =>
          have HP := Lib.hid (show ((.tuple #[.bool (ckB nn gs os cl level), .int .i64 (clK nn gs os cl level)]) : Value) = .tuple #[.bool true, .int .i64 0] from by unfold ckB clK; rw [hc, hcl, hf, hw]; rfl)
          have HW := Lib.hid hw
          clear hc hcl hf hw
          obtain ⟨z1, z2, z3⟩ := nw1 w (.cells #[.int .i8 nn, .slice A gs.length c, .slice A2 os.length c2] 30)
          go_enter Tryd.func16, Tryd.ntmps16
          go_wp2_with fail
          generalize World.alloc w _ = w1 at z1 z2 z3 ⊢
          have x1 : BX w1 w.heap.size (.int .i8 nn) (.slice A gs.length c) (.slice A2 os.length c2) := ⟨_, z1⟩
          refine (claimedS_any w.heap.size nn cl level _ _ gs os hn w1 x1 (HG.out.below z2) (HO.out.below z2)).mono ?_
          rintro e w2 ⟨rfl, hb⟩
          rw [HKK.out]
          have HB2 := Lib.hid (z2.trans (hb.mono z2.size))
          have X2 := Lib.hid (x1.below hb)
          clear z1 z2 z3 hb x1
          go_wp2_with fail
          refine (fitsS_any w.heap.size nn cl level HCL.out hn A2 _ os c2 w2 X2.out).mono ?_
          rintro e w3 ⟨rfl, hww⟩
          subst hww
          rw [HF.out]
          go_wp2_with fail
          refine (wrongS_any w.heap.size nn cl level _ _ gs os HCL.out HC.out w3 X2.out (HG.out.below HB2.out) (HO.out.below HB2.out)).mono ?_
          rintro e w4 ⟨rfl, hb4⟩
          rw [HW.out]
          have HB4 := Lib.hid (HB2.out.trans (hb4.mono HB2.out.size))
          clear hb4
          simp only [wrV]
          go_wp2_with fail
          go_ret2
          exact ⟨by rw [HP.out]; first | done | rfl, HB4.out⟩
        | some t =>
          have HP := Lib.hid (show ((.tuple #[.bool (ckB nn gs os cl level), .int .i64 (clK nn gs os cl level)]) : Value) = .tuple #[.bool false, .int .i64 0] from by unfold ckB clK; rw [hc, hcl, hf, hw]; rfl)
          have HW := Lib.hid hw
          clear hc hcl hf hw
          obtain ⟨z1, z2, z3⟩ := nw1 w (.cells #[.int .i8 nn, .slice A gs.length c, .slice A2 os.length c2] 30)
          go_enter Tryd.func16, Tryd.ntmps16
          go_wp2_with fail
          generalize World.alloc w _ = w1 at z1 z2 z3 ⊢
          have x1 : BX w1 w.heap.size (.int .i8 nn) (.slice A gs.length c) (.slice A2 os.length c2) := ⟨_, z1⟩
          refine (claimedS_any w.heap.size nn cl level _ _ gs os hn w1 x1 (HG.out.below z2) (HO.out.below z2)).mono ?_
          rintro e w2 ⟨rfl, hb⟩
          rw [HKK.out]
          have HB2 := Lib.hid (z2.trans (hb.mono z2.size))
          have X2 := Lib.hid (x1.below hb)
          clear z1 z2 z3 hb x1
          go_wp2_with fail
          refine (fitsS_any w.heap.size nn cl level HCL.out hn A2 _ os c2 w2 X2.out).mono ?_
          rintro e w3 ⟨rfl, hww⟩
          subst hww
          rw [HF.out]
          go_wp2_with fail
          refine (wrongS_any w.heap.size nn cl level _ _ gs os HCL.out HC.out w3 X2.out (HG.out.below HB2.out) (HO.out.below HB2.out)).mono ?_
          rintro e w4 ⟨rfl, hb4⟩
          rw [HW.out]
          have HB4 := Lib.hid (HB2.out.trans (hb4.mono HB2.out.size))
          clear hb4
          simp only [wrV]
          obtain ⟨xa, hxa⟩ : ∃ xa : Int, xa = ((t / 2 ^ (2 ^ level.toNat) : Nat) : Int) := ⟨_, rfl⟩
          obtain ⟨xb, hxb⟩ : ∃ xb : Int, xb = ((t % 2 ^ (2 ^ level.toNat) : Nat) : Int) := ⟨_, rfl⟩
          rw [← hxa, ← hxb]
          have HXA := Lib.hid hxa; have HXB := Lib.hid hxb
          clear hxa hxb
          go_wp2_with fail
          go_ret2
          exact ⟨by rw [HP.out]; first | done | rfl, HB4.out⟩

set_option maxHeartbeats 2000000 in
set_option maxRecDepth 100000 in
theorem spec_FirstWrong (v : Value) (nn : Int) (gs : List G3) (os : List Int) (cl level : Int) (hb1 : -9223372036854775808 ≤ cl ∧ cl ≤ 9223372036854775807) (hb2 : -9223372036854775808 ≤ level ∧ level ≤ 9223372036854775807) (w : World) (h : CI w v nn gs os) :
    Calls Tryd.prog 18 #[v, .int .i64 cl, .int .i64 level] w fun e w' => e = .returned (.tuple #[.int .u16 (fwO nn gs os cl level).1, .int .u16 (fwO nn gs os cl level).2.1, .int .i64 (fwO nn gs os cl level).2.2]) ∧ Below w.heap.size w w' := by
  clear hb1 hb2
  obtain ⟨G, O, rfl, hn, hg, ho⟩ := h
  have HG := Lib.hid hg; have HO := Lib.hid ho
  obtain ⟨A, c, rfl⟩ := hg.form
  obtain ⟨A2, c2, rfl⟩ := ho.form
  clear hg ho
  cases hc : circB nn gs os with
  | false =>
    have HKK := Lib.hid (show clK nn gs os cl level = 1 from by unfold clK; rw [hc]; rfl)
    have HP := Lib.hid (show ((.tuple #[.int .u16 (fwO nn gs os cl level).1, .int .u16 (fwO nn gs os cl level).2.1, .int .i64 (fwO nn gs os cl level).2.2]) : Value) = .tuple #[.int .u16 0, .int .u16 0, .int .i64 1] from by unfold fwO; rw [hc]; rfl)
    clear hc
    obtain ⟨z1, z2, z3⟩ := nw1 w (.cells #[.int .i8 nn, .slice A gs.length c, .slice A2 os.length c2] 30)
    go_enter Tryd.func18, Tryd.ntmps18
    go_wp2_with fail
    generalize World.alloc w _ = w1 at z1 z2 z3 ⊢
    have x1 : BX w1 w.heap.size (.int .i8 nn) (.slice A gs.length c) (.slice A2 os.length c2) := ⟨_, z1⟩
    refine (claimedS_any w.heap.size nn cl level _ _ gs os hn w1 x1 (HG.out.below z2) (HO.out.below z2)).mono ?_
    rintro e w2 ⟨rfl, hb⟩
    rw [HKK.out]
    have HB2 := Lib.hid (z2.trans (hb.mono z2.size))
    have X2 := Lib.hid (x1.below hb)
    clear z1 z2 z3 hb x1
    go_wp2_with fail
    go_ret3
    exact ⟨by rw [HP.out]; first | done | rfl, HB2.out⟩
  | true =>
    cases hcl : clB cl level with
    | false =>
      have HKK := Lib.hid (show clK nn gs os cl level = 2 from by unfold clK; rw [hc, hcl]; rfl)
      have HP := Lib.hid (show ((.tuple #[.int .u16 (fwO nn gs os cl level).1, .int .u16 (fwO nn gs os cl level).2.1, .int .i64 (fwO nn gs os cl level).2.2]) : Value) = .tuple #[.int .u16 0, .int .u16 0, .int .i64 2] from by unfold fwO; rw [hc, hcl]; rfl)
      clear hc hcl
      obtain ⟨z1, z2, z3⟩ := nw1 w (.cells #[.int .i8 nn, .slice A gs.length c, .slice A2 os.length c2] 30)
      go_enter Tryd.func18, Tryd.ntmps18
      go_wp2_with fail
      generalize World.alloc w _ = w1 at z1 z2 z3 ⊢
      have x1 : BX w1 w.heap.size (.int .i8 nn) (.slice A gs.length c) (.slice A2 os.length c2) := ⟨_, z1⟩
      refine (claimedS_any w.heap.size nn cl level _ _ gs os hn w1 x1 (HG.out.below z2) (HO.out.below z2)).mono ?_
      rintro e w2 ⟨rfl, hb⟩
      rw [HKK.out]
      have HB2 := Lib.hid (z2.trans (hb.mono z2.size))
      have X2 := Lib.hid (x1.below hb)
      clear z1 z2 z3 hb x1
      go_wp2_with fail
      go_ret3
      exact ⟨by rw [HP.out]; first | done | rfl, HB2.out⟩
    | true =>
      have HKK := Lib.hid (show clK nn gs os cl level = 0 from by unfold clK; rw [hc, hcl]; rfl)
      have HC := Lib.hid hc; have HCL := Lib.hid hcl
      cases hf : fitB nn os level with
      | false =>
        have HF := Lib.hid hf
        have HP := Lib.hid (show ((.tuple #[.int .u16 (fwO nn gs os cl level).1, .int .u16 (fwO nn gs os cl level).2.1, .int .i64 (fwO nn gs os cl level).2.2]) : Value) = .tuple #[.int .u16 0, .int .u16 0, .int .i64 4] from by unfold fwO; rw [hc, hcl, hf]; rfl)
        clear hc hcl hf
        obtain ⟨z1, z2, z3⟩ := nw1 w (.cells #[.int .i8 nn, .slice A gs.length c, .slice A2 os.length c2] 30)
        go_enter Tryd.func18, Tryd.ntmps18
        go_wp2_with fail
        generalize World.alloc w _ = w1 at z1 z2 z3 ⊢
        have x1 : BX w1 w.heap.size (.int .i8 nn) (.slice A gs.length c) (.slice A2 os.length c2) := ⟨_, z1⟩
        refine (claimedS_any w.heap.size nn cl level _ _ gs os hn w1 x1 (HG.out.below z2) (HO.out.below z2)).mono ?_
        rintro e w2 ⟨rfl, hb⟩
        rw [HKK.out]
        have HB2 := Lib.hid (z2.trans (hb.mono z2.size))
        have X2 := Lib.hid (x1.below hb)
        clear z1 z2 z3 hb x1
        go_wp2_with fail
        refine (fitsS_any w.heap.size nn cl level HCL.out hn A2 _ os c2 w2 X2.out).mono ?_
        rintro e w3 ⟨rfl, hww⟩
        subst hww
        rw [HF.out]
        go_wp2_with fail
        go_ret3
        exact ⟨by rw [HP.out]; first | done | rfl, HB2.out⟩
      | true =>
        have HF := Lib.hid hf
        cases hw : fstW cl gs os (2 ^ level.toNat) with
        | none =>
          have HP := Lib.hid (show ((.tuple #[.int .u16 (fwO nn gs os cl level).1, .int .u16 (fwO nn gs os cl level).2.1, .int .i64 (fwO nn gs os cl level).2.2]) : Value) = .tuple #[.int .u16 0, .int .u16 0, .int .i64 6] from by unfold fwO; rw [hc, hcl, hf, hw]; rfl)
          have HW := Lib.hid hw
          clear hc hcl hf hw
          obtain ⟨z1, z2, z3⟩ := nw1 w (.cells #[.int .i8 nn, .slice A gs.length c, .slice A2 os.length c2] 30)
          go_enter Tryd.func18, Tryd.ntmps18
          go_wp2_with fail
          generalize World.alloc w _ = w1 at z1 z2 z3 ⊢
          have x1 : BX w1 w.heap.size (.int .i8 nn) (.slice A gs.length c) (.slice A2 os.length c2) := ⟨_, z1⟩
          refine (claimedS_any w.heap.size nn cl level _ _ gs os hn w1 x1 (HG.out.below z2) (HO.out.below z2)).mono ?_
          rintro e w2 ⟨rfl, hb⟩
          rw [HKK.out]
          have HB2 := Lib.hid (z2.trans (hb.mono z2.size))
          have X2 := Lib.hid (x1.below hb)
          clear z1 z2 z3 hb x1
          go_wp2_with fail
          refine (fitsS_any w.heap.size nn cl level HCL.out hn A2 _ os c2 w2 X2.out).mono ?_
          rintro e w3 ⟨rfl, hww⟩
          subst hww
          rw [HF.out]
          go_wp2_with fail
          refine (wrongS_any w.heap.size nn cl level _ _ gs os HCL.out HC.out w3 X2.out (HG.out.below HB2.out) (HO.out.below HB2.out)).mono ?_
          rintro e w4 ⟨rfl, hb4⟩
          rw [HW.out]
          have HB4 := Lib.hid (HB2.out.trans (hb4.mono HB2.out.size))
          clear hb4
          simp only [wrV]
          go_wp2_with fail
          go_ret3
          exact ⟨by rw [HP.out]; first | done | rfl, HB4.out⟩
        | some t =>
          have HP := Lib.hid (show ((.tuple #[.int .u16 (fwO nn gs os cl level).1, .int .u16 (fwO nn gs os cl level).2.1, .int .i64 (fwO nn gs os cl level).2.2]) : Value) = .tuple #[.int .u16 ((t / 2 ^ (2 ^ level.toNat) : Nat) : Int), .int .u16 ((t % 2 ^ (2 ^ level.toNat) : Nat) : Int), .int .i64 0] from by unfold fwO; rw [hc, hcl, hf, hw]; rfl)
          have HW := Lib.hid hw
          clear hc hcl hf hw
          obtain ⟨z1, z2, z3⟩ := nw1 w (.cells #[.int .i8 nn, .slice A gs.length c, .slice A2 os.length c2] 30)
          go_enter Tryd.func18, Tryd.ntmps18
          go_wp2_with fail
          generalize World.alloc w _ = w1 at z1 z2 z3 ⊢
          have x1 : BX w1 w.heap.size (.int .i8 nn) (.slice A gs.length c) (.slice A2 os.length c2) := ⟨_, z1⟩
          refine (claimedS_any w.heap.size nn cl level _ _ gs os hn w1 x1 (HG.out.below z2) (HO.out.below z2)).mono ?_
          rintro e w2 ⟨rfl, hb⟩
          rw [HKK.out]
          have HB2 := Lib.hid (z2.trans (hb.mono z2.size))
          have X2 := Lib.hid (x1.below hb)
          clear z1 z2 z3 hb x1
          go_wp2_with fail
          refine (fitsS_any w.heap.size nn cl level HCL.out hn A2 _ os c2 w2 X2.out).mono ?_
          rintro e w3 ⟨rfl, hww⟩
          subst hww
          rw [HF.out]
          go_wp2_with fail
          refine (wrongS_any w.heap.size nn cl level _ _ gs os HCL.out HC.out w3 X2.out (HG.out.below HB2.out) (HO.out.below HB2.out)).mono ?_
          rintro e w4 ⟨rfl, hb4⟩
          rw [HW.out]
          have HB4 := Lib.hid (HB2.out.trans (hb4.mono HB2.out.size))
          clear hb4
          simp only [wrV]
          obtain ⟨xa, hxa⟩ : ∃ xa : Int, xa = ((t / 2 ^ (2 ^ level.toNat) : Nat) : Int) := ⟨_, rfl⟩
          obtain ⟨xb, hxb⟩ : ∃ xb : Int, xb = ((t % 2 ^ (2 ^ level.toNat) : Nat) : Int) := ⟨_, rfl⟩
          rw [← hxa, ← hxb]
          have HXA := Lib.hid hxa; have HXB := Lib.hid hxb
          clear hxa hxb
          go_wp2_with fail
          go_ret3
          exact ⟨by rw [HP.out]; rw [← HXA.out, ← HXB.out]; first | done | rfl, HB4.out⟩

end Go.Proofs.YtedcfmdgcafnmaaDoor
