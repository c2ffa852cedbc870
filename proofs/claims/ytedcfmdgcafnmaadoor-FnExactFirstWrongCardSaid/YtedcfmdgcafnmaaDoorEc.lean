/-
  Claims about circuits: both sides' answers.
-/
import Derived.Test.YtedcfmdgcafnmaaDoorEb
namespace Go.Proofs.YtedcfmdgcafnmaaDoor
set_option linter.unusedVariables false
set_option linter.unusedSimpArgs false
open Go.ChangeShapes Go.WideShapes Go.ChangeAt Go.RowKit Go.Deep

def clK (nn : Int) (gs : List G3) (os : List Int) (cl level : Int) : Int := if circB nn gs os then (if clB cl level then 0 else 2) else 1
/-- what the program's check of a claim answers -/
def ccE (nn : Int) (gs : List G3) (os : List Int) (cl level : Int) : Value :=
  if circB nn gs os then (if clB cl level then (if fitB nn os level then ccW (2 ^ level.toNat) (fstW cl gs os (2 ^ level.toNat)) else .iface 93 (.agg #[])) else .iface 151 (.agg #[.int .i64 2])) else .iface 151 (.agg #[.int .i64 1])
theorem cl_cases {cl level : Int} (h : clB cl level = true) : (cl = 0 ∨ cl = 1) ∧ (level = 0 ∨ level = 1 ∨ level = 2) := by
  have := of_decide_eq_true h
  exact ⟨this.1, by omega⟩
theorem wrongS_any (gb : Nat) (nn cl level : Int) (G O : Value) (gs : List G3) (os : List Int) (hcl : clB cl level = true) (hc : circB nn gs os = true) (w : World) (hX : BX w gb (.int .i8 nn) G O) (hg : GL w G gs) (ho : IL w O os) :
    Calls Tryd.prog 59 #[.pointer (some ⟨gb, 0, none⟩), .int .i64 cl, .int .i64 level] w fun e w' => e = .returned (wrV (2 ^ level.toNat) (fstW cl gs os (2 ^ level.toNat))) ∧ Below w.heap.size w w' := by
  obtain ⟨h1, h2⟩ := cl_cases hcl
  rcases h1 with rfl | rfl
  · rcases h2 with rfl | rfl | rfl
    · exact wrongS_0_0 gb nn G O gs os hc w hX hg ho
    · exact wrongS_0_1 gb nn G O gs os hc w hX hg ho
    · exact wrongS_0_2 gb nn G O gs os hc w hX hg ho
  · rcases h2 with rfl | rfl | rfl
    · exact wrongS_1_0 gb nn G O gs os hc w hX hg ho
    · exact wrongS_1_1 gb nn G O gs os hc w hX hg ho
    · exact wrongS_1_2 gb nn G O gs os hc w hX hg ho
set_option maxHeartbeats 2000000 in
theorem claimedS_any (gb : Nat) (nn cl level : Int) (G O : Value) (gs : List G3) (os : List Int) (hn : -128 ≤ nn ∧ nn < 128) (w : World) (hX : BX w gb (.int .i8 nn) G O) (hg : GL w G gs) (ho : IL w O os) :
    Calls Tryd.prog 57 #[.pointer (some ⟨gb, 0, none⟩), .int .i64 cl, .int .i64 level] w fun e w' => e = .returned (.int .i64 (clK nn gs os cl level)) ∧ Below w.heap.size w w' := by
  have HX := Lib.hid hX; have HG := Lib.hid hg; have HO := Lib.hid ho
  clear hX hg ho
  cases hc : circB nn gs os with
  | false =>
    have HK := Lib.hid (show clK nn gs os cl level = 1 from by unfold clK; rw [hc]; rfl)
    have HC := Lib.hid hc
    clear hc
    go_enter Tryd.func57, Tryd.ntmps57
    go_wp2_with fail
    refine (l07Ok_any gb nn _ _ gs os w HX.out hn HG.out HO.out).mono ?_
    rintro e w2 ⟨rfl, hb⟩
    rw [HC.out]
    have HB := Lib.hid hb
    clear hb
    go_wp2_with fail
    go_ret
    exact ⟨by rw [HK.out]; first | done | rfl, HB.out⟩
  | true =>
    have HC := Lib.hid hc
    cases h1 : decide (0 ≤ cl ∧ cl ≤ 1) with
    | false =>
      have HK := Lib.hid (show clK nn gs os cl level = 2 from by unfold clK; rw [hc, if_pos rfl, if_neg]; unfold clB; have := of_decide_eq_false h1; simp; omega)
      have H1 := Lib.hid h1
      clear hc h1
      go_enter Tryd.func57, Tryd.ntmps57
      go_wp2_with fail
      refine (l07Ok_any gb nn _ _ gs os w HX.out hn HG.out HO.out).mono ?_
      rintro e w2 ⟨rfl, hb⟩
      rw [HC.out]
      have HB := Lib.hid hb
      clear hb
      go_wp2_with fail
      refine (inC_any cl 0 1 w2).mono ?_
      rintro e w3 ⟨rfl, hww⟩
      subst hww
      rw [H1.out]
      go_wp2_with fail
      go_ret
      exact ⟨by rw [HK.out]; first | done | rfl, HB.out⟩
    | true =>
      cases h2 : decide (0 ≤ level ∧ level ≤ 2) with
      | false =>
        have HK := Lib.hid (show clK nn gs os cl level = 2 from by unfold clK; rw [hc, if_pos rfl, if_neg]; unfold clB; have := of_decide_eq_false h2; simp; omega)
        have H1 := Lib.hid h1; have H2 := Lib.hid h2
        clear hc h1 h2
        go_enter Tryd.func57, Tryd.ntmps57
        go_wp2_with fail
        refine (l07Ok_any gb nn _ _ gs os w HX.out hn HG.out HO.out).mono ?_
        rintro e w2 ⟨rfl, hb⟩
        rw [HC.out]
        have HB := Lib.hid hb
        clear hb
        go_wp2_with fail
        refine (inC_any cl 0 1 w2).mono ?_
        rintro e w3 ⟨rfl, hww⟩
        subst hww
        rw [H1.out]
        go_wp2_with fail
        refine (inC_any level 0 2 w3).mono ?_
        rintro e w4 ⟨rfl, hww⟩
        subst hww
        rw [H2.out]
        go_wp2_with fail
        go_ret
        exact ⟨by rw [HK.out]; first | done | rfl, HB.out⟩
      | true =>
        have HK := Lib.hid (show clK nn gs os cl level = 0 from by unfold clK; rw [hc, if_pos rfl, if_pos]; unfold clB; have := of_decide_eq_true h1; have := of_decide_eq_true h2; simp; omega)
        have H1 := Lib.hid h1; have H2 := Lib.hid h2
        clear hc h1 h2
        go_enter Tryd.func57, Tryd.ntmps57
        go_wp2_with fail
        refine (l07Ok_any gb nn _ _ gs os w HX.out hn HG.out HO.out).mono ?_
        rintro e w2 ⟨rfl, hb⟩
        rw [HC.out]
        have HB := Lib.hid hb
        clear hb
        go_wp2_with fail
        refine (inC_any cl 0 1 w2).mono ?_
        rintro e w3 ⟨rfl, hww⟩
        subst hww
        rw [H1.out]
        go_wp2_with fail
        refine (inC_any level 0 2 w3).mono ?_
        rintro e w4 ⟨rfl, hww⟩
        subst hww
        rw [H2.out]
        go_wp2_with fail
        go_ret
        exact ⟨by rw [HK.out]; first | done | rfl, HB.out⟩

set_option maxHeartbeats 2000000 in
theorem fitsS_0 (gb : Nat) (nn : Int) (hn : -128 ≤ nn ∧ nn < 128) (A2 : Option Addr) (G : Value) (os : List Int) (d : Nat) (w : World) (hX : BX w gb (.int .i8 nn) G (.slice A2 os.length d)) :
    Calls Tryd.prog 58 #[.pointer (some ⟨gb, 0, none⟩), .int .i64 0] w fun e w' => e = .returned (.bool (fitB nn os 0)) ∧ w' = w := by
  have c0 := hX.c0; have c2 := hX.c2
  clear hX
  have hwn : wrap64 nn = nn := by unfold wrap64; omega
  cases h1 : (nn == 2) with
  | false =>
    have e1 : nn ≠ 2 := by simpa using h1
    have HK := Lib.hid (show fitB nn os 0 = false from decide_eq_false (fun h => e1 (h.1.trans rfl)))
    clear e1
    go_enter Tryd.func58, Tryd.ntmps58
    go_wp2_with fail
    refine (l07BitsL_0 w).mono ?_
    rintro e w2 ⟨rfl, hww⟩
    subst hww
    go_wp2_with fail
    go_ret
    exact ⟨by rw [HK.out]; first | done | rfl, rfl⟩
  | true =>
    have e1 : nn = 2 := by simpa using h1
    cases h2 : ((os.length : Int) == 1) with
    | false =>
      have e2 : (os.length : Int) ≠ 1 := by simpa using h2
      have HK := Lib.hid (show fitB nn os 0 = false from decide_eq_false (fun h => e2 (by have h3 : os.length = 1 := h.2; omega)))
      clear e1 e2
      go_enter Tryd.func58, Tryd.ntmps58
      go_wp2_with fail
      refine (l07BitsL_0 w).mono ?_
      rintro e w2 ⟨rfl, hww⟩
      subst hww
      go_wp2_with fail
      go_ret
      exact ⟨by rw [HK.out]; first | done | rfl, rfl⟩
    | true =>
      have e2 : (os.length : Int) = 1 := by simpa using h2
      have HK := Lib.hid (show fitB nn os 0 = true from decide_eq_true ⟨e1.trans rfl, show os.length = 1 by omega⟩)
      clear e1 e2
      go_enter Tryd.func58, Tryd.ntmps58
      go_wp2_with fail
      refine (l07BitsL_0 w).mono ?_
      rintro e w2 ⟨rfl, hww⟩
      subst hww
      go_wp2_with fail
      go_ret
      exact ⟨by rw [HK.out]; first | done | rfl, rfl⟩

set_option maxHeartbeats 2000000 in
theorem fitsS_1 (gb : Nat) (nn : Int) (hn : -128 ≤ nn ∧ nn < 128) (A2 : Option Addr) (G : Value) (os : List Int) (d : Nat) (w : World) (hX : BX w gb (.int .i8 nn) G (.slice A2 os.length d)) :
    Calls Tryd.prog 58 #[.pointer (some ⟨gb, 0, none⟩), .int .i64 1] w fun e w' => e = .returned (.bool (fitB nn os 1)) ∧ w' = w := by
  have c0 := hX.c0; have c2 := hX.c2
  clear hX
  have hwn : wrap64 nn = nn := by unfold wrap64; omega
  cases h1 : (nn == 4) with
  | false =>
    have e1 : nn ≠ 4 := by simpa using h1
    have HK := Lib.hid (show fitB nn os 1 = false from decide_eq_false (fun h => e1 (h.1.trans rfl)))
    clear e1
    go_enter Tryd.func58, Tryd.ntmps58
    go_wp2_with fail
    refine (l07BitsL_1 w).mono ?_
    rintro e w2 ⟨rfl, hww⟩
    subst hww
    go_wp2_with fail
    go_ret
    exact ⟨by rw [HK.out]; first | done | rfl, rfl⟩
  | true =>
    have e1 : nn = 4 := by simpa using h1
    cases h2 : ((os.length : Int) == 2) with
    | false =>
      have e2 : (os.length : Int) ≠ 2 := by simpa using h2
      have HK := Lib.hid (show fitB nn os 1 = false from decide_eq_false (fun h => e2 (by have h3 : os.length = 2 := h.2; omega)))
      clear e1 e2
      go_enter Tryd.func58, Tryd.ntmps58
      go_wp2_with fail
      refine (l07BitsL_1 w).mono ?_
      rintro e w2 ⟨rfl, hww⟩
      subst hww
      go_wp2_with fail
      go_ret
      exact ⟨by rw [HK.out]; first | done | rfl, rfl⟩
    | true =>
      have e2 : (os.length : Int) = 2 := by simpa using h2
      have HK := Lib.hid (show fitB nn os 1 = true from decide_eq_true ⟨e1.trans rfl, show os.length = 2 by omega⟩)
      clear e1 e2
      go_enter Tryd.func58, Tryd.ntmps58
      go_wp2_with fail
      refine (l07BitsL_1 w).mono ?_
      rintro e w2 ⟨rfl, hww⟩
      subst hww
      go_wp2_with fail
      go_ret
      exact ⟨by rw [HK.out]; first | done | rfl, rfl⟩

set_option maxHeartbeats 2000000 in
theorem fitsS_2 (gb : Nat) (nn : Int) (hn : -128 ≤ nn ∧ nn < 128) (A2 : Option Addr) (G : Value) (os : List Int) (d : Nat) (w : World) (hX : BX w gb (.int .i8 nn) G (.slice A2 os.length d)) :
    Calls Tryd.prog 58 #[.pointer (some ⟨gb, 0, none⟩), .int .i64 2] w fun e w' => e = .returned (.bool (fitB nn os 2)) ∧ w' = w := by
  have c0 := hX.c0; have c2 := hX.c2
  clear hX
  have hwn : wrap64 nn = nn := by unfold wrap64; omega
  cases h1 : (nn == 8) with
  | false =>
    have e1 : nn ≠ 8 := by simpa using h1
    have HK := Lib.hid (show fitB nn os 2 = false from decide_eq_false (fun h => e1 (h.1.trans rfl)))
    clear e1
    go_enter Tryd.func58, Tryd.ntmps58
    go_wp2_with fail
    refine (l07BitsL_2 w).mono ?_
    rintro e w2 ⟨rfl, hww⟩
    subst hww
    go_wp2_with fail
    go_ret
    exact ⟨by rw [HK.out]; first | done | rfl, rfl⟩
  | true =>
    have e1 : nn = 8 := by simpa using h1
    cases h2 : ((os.length : Int) == 4) with
    | false =>
      have e2 : (os.length : Int) ≠ 4 := by simpa using h2
      have HK := Lib.hid (show fitB nn os 2 = false from decide_eq_false (fun h => e2 (by have h3 : os.length = 4 := h.2; omega)))
      clear e1 e2
      go_enter Tryd.func58, Tryd.ntmps58
      go_wp2_with fail
      refine (l07BitsL_2 w).mono ?_
      rintro e w2 ⟨rfl, hww⟩
      subst hww
      go_wp2_with fail
      go_ret
      exact ⟨by rw [HK.out]; first | done | rfl, rfl⟩
    | true =>
      have e2 : (os.length : Int) = 4 := by simpa using h2
      have HK := Lib.hid (show fitB nn os 2 = true from decide_eq_true ⟨e1.trans rfl, show os.length = 4 by omega⟩)
      clear e1 e2
      go_enter Tryd.func58, Tryd.ntmps58
      go_wp2_with fail
      refine (l07BitsL_2 w).mono ?_
      rintro e w2 ⟨rfl, hww⟩
      subst hww
      go_wp2_with fail
      go_ret
      exact ⟨by rw [HK.out]; first | done | rfl, rfl⟩

theorem fitsS_any (gb : Nat) (nn cl level : Int) (hcl : clB cl level = true) (hn : -128 ≤ nn ∧ nn < 128) (A2 : Option Addr) (G : Value) (os : List Int) (d : Nat) (w : World) (hX : BX w gb (.int .i8 nn) G (.slice A2 os.length d)) :
    Calls Tryd.prog 58 #[.pointer (some ⟨gb, 0, none⟩), .int .i64 level] w fun e w' => e = .returned (.bool (fitB nn os level)) ∧ w' = w := by
  obtain ⟨_, h2⟩ := cl_cases hcl
  rcases h2 with rfl | rfl | rfl
  · exact fitsS_0 gb nn hn A2 G os d w hX
  · exact fitsS_1 gb nn hn A2 G os d w hX
  · exact fitsS_2 gb nn hn A2 G os d w hX

set_option maxHeartbeats 2000000 in
set_option maxRecDepth 100000 in
theorem unfit_0_0 (v : Value) (nn : Int) (gs : List G3) (os : List Int) (hc : circB nn gs os = true) (hf : fitB nn os 0 = false) (w : World) (h : CI w v nn gs os) :
    Calls Tryd.prog 60 #[v, .int .i64 0, .int .i64 0] w fun e w' => e = .returned (.iface 93 (.agg #[])) ∧ Below w.heap.size w w' := by
  have H := Lib.hid h
  have HC := Lib.hid hc
  obtain ⟨G, O, rfl, hn, hg, ho⟩ := h
  have HG := Lib.hid hg; have HO := Lib.hid ho
  obtain ⟨A, c, rfl⟩ := hg.form
  obtain ⟨A2, c2, rfl⟩ := ho.form
  clear hg ho
  have hf2 : ¬ (nn = 2 ∧ os.length = 1) := fun q => by
    have := of_decide_eq_false hf
    exact this ⟨by rw [q.1]; rfl, by rw [q.2]; rfl⟩
  clear hf hc
  cases q1 : (nn != 2) with
  | true =>
    clear hf2
    obtain ⟨z1, z2, z3⟩ := nw1 w (.cells #[.int .i8 nn, .slice A gs.length c, .slice A2 os.length c2] 30)
    go_enter Tryd.func60, Tryd.ntmps60
    go_wp2_with fail
    generalize World.alloc w _ = w1 at z1 z2 z3 ⊢
    refine (openCircuit_any nn _ _ gs os w1 (H.out.below z2)).mono ?_
    rintro e w2 ⟨rfl, hb⟩
    have HB2 := Lib.hid (z2.trans (hb.mono z2.size))
    simp only [opW, HC.out, if_true]
    clear z1 z2 z3 hb
    obtain ⟨y1, y2, y3⟩ := nw1 w2 (.cells #[.slice A gs.length c, .int .i8 nn, .slice A2 os.length c2] 74)
    go_upto_region 6 with fail
    generalize World.alloc w2 _ = w3 at y1 y2 y3 ⊢
    have x3 : BX w3 w2.heap.size (.slice A gs.length c) (.int .i8 nn) (.slice A2 os.length c2) := ⟨_, y1⟩
    have HB3 := Lib.hid (HB2.out.trans (y2.mono HB2.out.size))
    have c0 := x3.c0; have c1 := x3.c1; have c2' := x3.c2
    clear y1 y2 y3 x3
    go_wp2_with fail
    go_ret
    exact ⟨rfl, HB3.out⟩
  | false =>
    have q2 : ((os.length : Int) != 1) = true := by
      have : nn = 2 := by simpa using q1
      have : os.length ≠ 1 := fun e => hf2 ⟨this, e⟩
      simp; omega
    clear hf2
    obtain ⟨z1, z2, z3⟩ := nw1 w (.cells #[.int .i8 nn, .slice A gs.length c, .slice A2 os.length c2] 30)
    go_enter Tryd.func60, Tryd.ntmps60
    go_wp2_with fail
    generalize World.alloc w _ = w1 at z1 z2 z3 ⊢
    refine (openCircuit_any nn _ _ gs os w1 (H.out.below z2)).mono ?_
    rintro e w2 ⟨rfl, hb⟩
    have HB2 := Lib.hid (z2.trans (hb.mono z2.size))
    simp only [opW, HC.out, if_true]
    clear z1 z2 z3 hb
    obtain ⟨y1, y2, y3⟩ := nw1 w2 (.cells #[.slice A gs.length c, .int .i8 nn, .slice A2 os.length c2] 74)
    go_upto_region 6 with fail
    generalize World.alloc w2 _ = w3 at y1 y2 y3 ⊢
    have x3 : BX w3 w2.heap.size (.slice A gs.length c) (.int .i8 nn) (.slice A2 os.length c2) := ⟨_, y1⟩
    have HB3 := Lib.hid (HB2.out.trans (y2.mono HB2.out.size))
    have c0 := x3.c0; have c1 := x3.c1; have c2' := x3.c2
    clear y1 y2 y3 x3
    go_wp2_with fail
    go_ret
    exact ⟨rfl, HB3.out⟩

set_option maxHeartbeats 2000000 in
set_option maxRecDepth 100000 in
theorem unfit_0_1 (v : Value) (nn : Int) (gs : List G3) (os : List Int) (hc : circB nn gs os = true) (hf : fitB nn os 1 = false) (w : World) (h : CI w v nn gs os) :
    Calls Tryd.prog 60 #[v, .int .i64 0, .int .i64 1] w fun e w' => e = .returned (.iface 93 (.agg #[])) ∧ Below w.heap.size w w' := by
  have H := Lib.hid h
  have HC := Lib.hid hc
  obtain ⟨G, O, rfl, hn, hg, ho⟩ := h
  have HG := Lib.hid hg; have HO := Lib.hid ho
  obtain ⟨A, c, rfl⟩ := hg.form
  obtain ⟨A2, c2, rfl⟩ := ho.form
  clear hg ho
  have hf2 : ¬ (nn = 4 ∧ os.length = 2) := fun q => by
    have := of_decide_eq_false hf
    exact this ⟨by rw [q.1]; rfl, by rw [q.2]; rfl⟩
  clear hf hc
  cases q1 : (nn != 4) with
  | true =>
    clear hf2
    obtain ⟨z1, z2, z3⟩ := nw1 w (.cells #[.int .i8 nn, .slice A gs.length c, .slice A2 os.length c2] 30)
    go_enter Tryd.func60, Tryd.ntmps60
    go_wp2_with fail
    generalize World.alloc w _ = w1 at z1 z2 z3 ⊢
    refine (openCircuit_any nn _ _ gs os w1 (H.out.below z2)).mono ?_
    rintro e w2 ⟨rfl, hb⟩
    have HB2 := Lib.hid (z2.trans (hb.mono z2.size))
    simp only [opW, HC.out, if_true]
    clear z1 z2 z3 hb
    obtain ⟨y1, y2, y3⟩ := nw1 w2 (.cells #[.slice A gs.length c, .int .i8 nn, .slice A2 os.length c2] 74)
    go_upto_region 6 with fail
    generalize World.alloc w2 _ = w3 at y1 y2 y3 ⊢
    have x3 : BX w3 w2.heap.size (.slice A gs.length c) (.int .i8 nn) (.slice A2 os.length c2) := ⟨_, y1⟩
    have HB3 := Lib.hid (HB2.out.trans (y2.mono HB2.out.size))
    have c0 := x3.c0; have c1 := x3.c1; have c2' := x3.c2
    clear y1 y2 y3 x3
    go_wp2_with fail
    go_ret
    exact ⟨rfl, HB3.out⟩
  | false =>
    have q2 : ((os.length : Int) != 2) = true := by
      have : nn = 4 := by simpa using q1
      have : os.length ≠ 2 := fun e => hf2 ⟨this, e⟩
      simp; omega
    clear hf2
    obtain ⟨z1, z2, z3⟩ := nw1 w (.cells #[.int .i8 nn, .slice A gs.length c, .slice A2 os.length c2] 30)
    go_enter Tryd.func60, Tryd.ntmps60
    go_wp2_with fail
    generalize World.alloc w _ = w1 at z1 z2 z3 ⊢
    refine (openCircuit_any nn _ _ gs os w1 (H.out.below z2)).mono ?_
    rintro e w2 ⟨rfl, hb⟩
    have HB2 := Lib.hid (z2.trans (hb.mono z2.size))
    simp only [opW, HC.out, if_true]
    clear z1 z2 z3 hb
    obtain ⟨y1, y2, y3⟩ := nw1 w2 (.cells #[.slice A gs.length c, .int .i8 nn, .slice A2 os.length c2] 74)
    go_upto_region 6 with fail
    generalize World.alloc w2 _ = w3 at y1 y2 y3 ⊢
    have x3 : BX w3 w2.heap.size (.slice A gs.length c) (.int .i8 nn) (.slice A2 os.length c2) := ⟨_, y1⟩
    have HB3 := Lib.hid (HB2.out.trans (y2.mono HB2.out.size))
    have c0 := x3.c0; have c1 := x3.c1; have c2' := x3.c2
    clear y1 y2 y3 x3
    go_wp2_with fail
    go_ret
    exact ⟨rfl, HB3.out⟩

set_option maxHeartbeats 2000000 in
set_option maxRecDepth 100000 in
theorem unfit_0_2 (v : Value) (nn : Int) (gs : List G3) (os : List Int) (hc : circB nn gs os = true) (hf : fitB nn os 2 = false) (w : World) (h : CI w v nn gs os) :
    Calls Tryd.prog 60 #[v, .int .i64 0, .int .i64 2] w fun e w' => e = .returned (.iface 93 (.agg #[])) ∧ Below w.heap.size w w' := by
  have H := Lib.hid h
  have HC := Lib.hid hc
  obtain ⟨G, O, rfl, hn, hg, ho⟩ := h
  have HG := Lib.hid hg; have HO := Lib.hid ho
  obtain ⟨A, c, rfl⟩ := hg.form
  obtain ⟨A2, c2, rfl⟩ := ho.form
  clear hg ho
  have hf2 : ¬ (nn = 8 ∧ os.length = 4) := fun q => by
    have := of_decide_eq_false hf
    exact this ⟨by rw [q.1]; rfl, by rw [q.2]; rfl⟩
  clear hf hc
  cases q1 : (nn != 8) with
  | true =>
    clear hf2
    obtain ⟨z1, z2, z3⟩ := nw1 w (.cells #[.int .i8 nn, .slice A gs.length c, .slice A2 os.length c2] 30)
    go_enter Tryd.func60, Tryd.ntmps60
    go_wp2_with fail
    generalize World.alloc w _ = w1 at z1 z2 z3 ⊢
    refine (openCircuit_any nn _ _ gs os w1 (H.out.below z2)).mono ?_
    rintro e w2 ⟨rfl, hb⟩
    have HB2 := Lib.hid (z2.trans (hb.mono z2.size))
    simp only [opW, HC.out, if_true]
    clear z1 z2 z3 hb
    obtain ⟨y1, y2, y3⟩ := nw1 w2 (.cells #[.slice A gs.length c, .int .i8 nn, .slice A2 os.length c2] 74)
    go_upto_region 6 with fail
    generalize World.alloc w2 _ = w3 at y1 y2 y3 ⊢
    have x3 : BX w3 w2.heap.size (.slice A gs.length c) (.int .i8 nn) (.slice A2 os.length c2) := ⟨_, y1⟩
    have HB3 := Lib.hid (HB2.out.trans (y2.mono HB2.out.size))
    have c0 := x3.c0; have c1 := x3.c1; have c2' := x3.c2
    clear y1 y2 y3 x3
    go_wp2_with fail
    go_ret
    exact ⟨rfl, HB3.out⟩
  | false =>
    have q2 : ((os.length : Int) != 4) = true := by
      have : nn = 8 := by simpa using q1
      have : os.length ≠ 4 := fun e => hf2 ⟨this, e⟩
      simp; omega
    clear hf2
    obtain ⟨z1, z2, z3⟩ := nw1 w (.cells #[.int .i8 nn, .slice A gs.length c, .slice A2 os.length c2] 30)
    go_enter Tryd.func60, Tryd.ntmps60
    go_wp2_with fail
    generalize World.alloc w _ = w1 at z1 z2 z3 ⊢
    refine (openCircuit_any nn _ _ gs os w1 (H.out.below z2)).mono ?_
    rintro e w2 ⟨rfl, hb⟩
    have HB2 := Lib.hid (z2.trans (hb.mono z2.size))
    simp only [opW, HC.out, if_true]
    clear z1 z2 z3 hb
    obtain ⟨y1, y2, y3⟩ := nw1 w2 (.cells #[.slice A gs.length c, .int .i8 nn, .slice A2 os.length c2] 74)
    go_upto_region 6 with fail
    generalize World.alloc w2 _ = w3 at y1 y2 y3 ⊢
    have x3 : BX w3 w2.heap.size (.slice A gs.length c) (.int .i8 nn) (.slice A2 os.length c2) := ⟨_, y1⟩
    have HB3 := Lib.hid (HB2.out.trans (y2.mono HB2.out.size))
    have c0 := x3.c0; have c1 := x3.c1; have c2' := x3.c2
    clear y1 y2 y3 x3
    go_wp2_with fail
    go_ret
    exact ⟨rfl, HB3.out⟩

set_option maxHeartbeats 2000000 in
set_option maxRecDepth 100000 in
theorem unfit_1_0 (v : Value) (nn : Int) (gs : List G3) (os : List Int) (hc : circB nn gs os = true) (hf : fitB nn os 0 = false) (w : World) (h : CI w v nn gs os) :
    Calls Tryd.prog 60 #[v, .int .i64 1, .int .i64 0] w fun e w' => e = .returned (.iface 93 (.agg #[])) ∧ Below w.heap.size w w' := by
  have H := Lib.hid h
  have HC := Lib.hid hc
  obtain ⟨G, O, rfl, hn, hg, ho⟩ := h
  have HG := Lib.hid hg; have HO := Lib.hid ho
  obtain ⟨A, c, rfl⟩ := hg.form
  obtain ⟨A2, c2, rfl⟩ := ho.form
  clear hg ho
  have hf2 : ¬ (nn = 2 ∧ os.length = 1) := fun q => by
    have := of_decide_eq_false hf
    exact this ⟨by rw [q.1]; rfl, by rw [q.2]; rfl⟩
  clear hf hc
  cases q1 : (nn != 2) with
  | true =>
    clear hf2
    obtain ⟨z1, z2, z3⟩ := nw1 w (.cells #[.int .i8 nn, .slice A gs.length c, .slice A2 os.length c2] 30)
    go_enter Tryd.func60, Tryd.ntmps60
    go_wp2_with fail
    generalize World.alloc w _ = w1 at z1 z2 z3 ⊢
    refine (openCircuit_any nn _ _ gs os w1 (H.out.below z2)).mono ?_
    rintro e w2 ⟨rfl, hb⟩
    have HB2 := Lib.hid (z2.trans (hb.mono z2.size))
    simp only [opW, HC.out, if_true]
    clear z1 z2 z3 hb
    obtain ⟨y1, y2, y3⟩ := nw1 w2 (.cells #[.slice A gs.length c, .int .i8 nn, .slice A2 os.length c2] 74)
    go_upto_region 6 with fail
    generalize World.alloc w2 _ = w3 at y1 y2 y3 ⊢
    have x3 : BX w3 w2.heap.size (.slice A gs.length c) (.int .i8 nn) (.slice A2 os.length c2) := ⟨_, y1⟩
    have HB3 := Lib.hid (HB2.out.trans (y2.mono HB2.out.size))
    have c0 := x3.c0; have c1 := x3.c1; have c2' := x3.c2
    clear y1 y2 y3 x3
    go_wp2_with fail
    go_ret
    exact ⟨rfl, HB3.out⟩
  | false =>
    have q2 : ((os.length : Int) != 1) = true := by
      have : nn = 2 := by simpa using q1
      have : os.length ≠ 1 := fun e => hf2 ⟨this, e⟩
      simp; omega
    clear hf2
    obtain ⟨z1, z2, z3⟩ := nw1 w (.cells #[.int .i8 nn, .slice A gs.length c, .slice A2 os.length c2] 30)
    go_enter Tryd.func60, Tryd.ntmps60
    go_wp2_with fail
    generalize World.alloc w _ = w1 at z1 z2 z3 ⊢
    refine (openCircuit_any nn _ _ gs os w1 (H.out.below z2)).mono ?_
    rintro e w2 ⟨rfl, hb⟩
    have HB2 := Lib.hid (z2.trans (hb.mono z2.size))
    simp only [opW, HC.out, if_true]
    clear z1 z2 z3 hb
    obtain ⟨y1, y2, y3⟩ := nw1 w2 (.cells #[.slice A gs.length c, .int .i8 nn, .slice A2 os.length c2] 74)
    go_upto_region 6 with fail
    generalize World.alloc w2 _ = w3 at y1 y2 y3 ⊢
    have x3 : BX w3 w2.heap.size (.slice A gs.length c) (.int .i8 nn) (.slice A2 os.length c2) := ⟨_, y1⟩
    have HB3 := Lib.hid (HB2.out.trans (y2.mono HB2.out.size))
    have c0 := x3.c0; have c1 := x3.c1; have c2' := x3.c2
    clear y1 y2 y3 x3
    go_wp2_with fail
    go_ret
    exact ⟨rfl, HB3.out⟩

set_option maxHeartbeats 2000000 in
set_option maxRecDepth 100000 in
theorem unfit_1_1 (v : Value) (nn : Int) (gs : List G3) (os : List Int) (hc : circB nn gs os = true) (hf : fitB nn os 1 = false) (w : World) (h : CI w v nn gs os) :
    Calls Tryd.prog 60 #[v, .int .i64 1, .int .i64 1] w fun e w' => e = .returned (.iface 93 (.agg #[])) ∧ Below w.heap.size w w' := by
  have H := Lib.hid h
  have HC := Lib.hid hc
  obtain ⟨G, O, rfl, hn, hg, ho⟩ := h
  have HG := Lib.hid hg; have HO := Lib.hid ho
  obtain ⟨A, c, rfl⟩ := hg.form
  obtain ⟨A2, c2, rfl⟩ := ho.form
  clear hg ho
  have hf2 : ¬ (nn = 4 ∧ os.length = 2) := fun q => by
    have := of_decide_eq_false hf
    exact this ⟨by rw [q.1]; rfl, by rw [q.2]; rfl⟩
  clear hf hc
  cases q1 : (nn != 4) with
  | true =>
    clear hf2
    obtain ⟨z1, z2, z3⟩ := nw1 w (.cells #[.int .i8 nn, .slice A gs.length c, .slice A2 os.length c2] 30)
    go_enter Tryd.func60, Tryd.ntmps60
    go_wp2_with fail
    generalize World.alloc w _ = w1 at z1 z2 z3 ⊢
    refine (openCircuit_any nn _ _ gs os w1 (H.out.below z2)).mono ?_
    rintro e w2 ⟨rfl, hb⟩
    have HB2 := Lib.hid (z2.trans (hb.mono z2.size))
    simp only [opW, HC.out, if_true]
    clear z1 z2 z3 hb
    obtain ⟨y1, y2, y3⟩ := nw1 w2 (.cells #[.slice A gs.length c, .int .i8 nn, .slice A2 os.length c2] 74)
    go_upto_region 6 with fail
    generalize World.alloc w2 _ = w3 at y1 y2 y3 ⊢
    have x3 : BX w3 w2.heap.size (.slice A gs.length c) (.int .i8 nn) (.slice A2 os.length c2) := ⟨_, y1⟩
    have HB3 := Lib.hid (HB2.out.trans (y2.mono HB2.out.size))
    have c0 := x3.c0; have c1 := x3.c1; have c2' := x3.c2
    clear y1 y2 y3 x3
    go_wp2_with fail
    go_ret
    exact ⟨rfl, HB3.out⟩
  | false =>
    have q2 : ((os.length : Int) != 2) = true := by
      have : nn = 4 := by simpa using q1
      have : os.length ≠ 2 := fun e => hf2 ⟨this, e⟩
      simp; omega
    clear hf2
    obtain ⟨z1, z2, z3⟩ := nw1 w (.cells #[.int .i8 nn, .slice A gs.length c, .slice A2 os.length c2] 30)
    go_enter Tryd.func60, Tryd.ntmps60
    go_wp2_with fail
    generalize World.alloc w _ = w1 at z1 z2 z3 ⊢
    refine (openCircuit_any nn _ _ gs os w1 (H.out.below z2)).mono ?_
    rintro e w2 ⟨rfl, hb⟩
    have HB2 := Lib.hid (z2.trans (hb.mono z2.size))
    simp only [opW, HC.out, if_true]
    clear z1 z2 z3 hb
    obtain ⟨y1, y2, y3⟩ := nw1 w2 (.cells #[.slice A gs.length c, .int .i8 nn, .slice A2 os.length c2] 74)
    go_upto_region 6 with fail
    generalize World.alloc w2 _ = w3 at y1 y2 y3 ⊢
    have x3 : BX w3 w2.heap.size (.slice A gs.length c) (.int .i8 nn) (.slice A2 os.length c2) := ⟨_, y1⟩
    have HB3 := Lib.hid (HB2.out.trans (y2.mono HB2.out.size))
    have c0 := x3.c0; have c1 := x3.c1; have c2' := x3.c2
    clear y1 y2 y3 x3
    go_wp2_with fail
    go_ret
    exact ⟨rfl, HB3.out⟩

set_option maxHeartbeats 2000000 in
set_option maxRecDepth 100000 in
theorem unfit_1_2 (v : Value) (nn : Int) (gs : List G3) (os : List Int) (hc : circB nn gs os = true) (hf : fitB nn os 2 = false) (w : World) (h : CI w v nn gs os) :
    Calls Tryd.prog 60 #[v, .int .i64 1, .int .i64 2] w fun e w' => e = .returned (.iface 93 (.agg #[])) ∧ Below w.heap.size w w' := by
  have H := Lib.hid h
  have HC := Lib.hid hc
  obtain ⟨G, O, rfl, hn, hg, ho⟩ := h
  have HG := Lib.hid hg; have HO := Lib.hid ho
  obtain ⟨A, c, rfl⟩ := hg.form
  obtain ⟨A2, c2, rfl⟩ := ho.form
  clear hg ho
  have hf2 : ¬ (nn = 8 ∧ os.length = 4) := fun q => by
    have := of_decide_eq_false hf
    exact this ⟨by rw [q.1]; rfl, by rw [q.2]; rfl⟩
  clear hf hc
  cases q1 : (nn != 8) with
  | true =>
    clear hf2
    obtain ⟨z1, z2, z3⟩ := nw1 w (.cells #[.int .i8 nn, .slice A gs.length c, .slice A2 os.length c2] 30)
    go_enter Tryd.func60, Tryd.ntmps60
    go_wp2_with fail
    generalize World.alloc w _ = w1 at z1 z2 z3 ⊢
    refine (openCircuit_any nn _ _ gs os w1 (H.out.below z2)).mono ?_
    rintro e w2 ⟨rfl, hb⟩
    have HB2 := Lib.hid (z2.trans (hb.mono z2.size))
    simp only [opW, HC.out, if_true]
    clear z1 z2 z3 hb
    obtain ⟨y1, y2, y3⟩ := nw1 w2 (.cells #[.slice A gs.length c, .int .i8 nn, .slice A2 os.length c2] 74)
    go_upto_region 6 with fail
    generalize World.alloc w2 _ = w3 at y1 y2 y3 ⊢
    have x3 : BX w3 w2.heap.size (.slice A gs.length c) (.int .i8 nn) (.slice A2 os.length c2) := ⟨_, y1⟩
    have HB3 := Lib.hid (HB2.out.trans (y2.mono HB2.out.size))
    have c0 := x3.c0; have c1 := x3.c1; have c2' := x3.c2
    clear y1 y2 y3 x3
    go_wp2_with fail
    go_ret
    exact ⟨rfl, HB3.out⟩
  | false =>
    have q2 : ((os.length : Int) != 4) = true := by
      have : nn = 8 := by simpa using q1
      have : os.length ≠ 4 := fun e => hf2 ⟨this, e⟩
      simp; omega
    clear hf2
    obtain ⟨z1, z2, z3⟩ := nw1 w (.cells #[.int .i8 nn, .slice A gs.length c, .slice A2 os.length c2] 30)
    go_enter Tryd.func60, Tryd.ntmps60
    go_wp2_with fail
    generalize World.alloc w _ = w1 at z1 z2 z3 ⊢
    refine (openCircuit_any nn _ _ gs os w1 (H.out.below z2)).mono ?_
    rintro e w2 ⟨rfl, hb⟩
    have HB2 := Lib.hid (z2.trans (hb.mono z2.size))
    simp only [opW, HC.out, if_true]
    clear z1 z2 z3 hb
    obtain ⟨y1, y2, y3⟩ := nw1 w2 (.cells #[.slice A gs.length c, .int .i8 nn, .slice A2 os.length c2] 74)
    go_upto_region 6 with fail
    generalize World.alloc w2 _ = w3 at y1 y2 y3 ⊢
    have x3 : BX w3 w2.heap.size (.slice A gs.length c) (.int .i8 nn) (.slice A2 os.length c2) := ⟨_, y1⟩
    have HB3 := Lib.hid (HB2.out.trans (y2.mono HB2.out.size))
    have c0 := x3.c0; have c1 := x3.c1; have c2' := x3.c2
    clear y1 y2 y3 x3
    go_wp2_with fail
    go_ret
    exact ⟨rfl, HB3.out⟩

set_option maxHeartbeats 2000000 in
set_option maxRecDepth 100000 in
theorem refused_cl (v : Value) (nn cl level : Int) (gs : List G3) (os : List Int) (hc : circB nn gs os = true) (hh : cl ≠ 0 ∧ cl ≠ 1) (w : World) (h : CI w v nn gs os) :
    Calls Tryd.prog 60 #[v, .int .i64 cl, .int .i64 level] w fun e w' => e = .returned (.iface 151 (.agg #[.int .i64 2])) ∧ Below w.heap.size w w' := by
  have H := Lib.hid h
  have HC := Lib.hid hc
  obtain ⟨G, O, rfl, hn, hg, ho⟩ := h
  have HG := Lib.hid hg; have HO := Lib.hid ho
  obtain ⟨A, c, rfl⟩ := hg.form
  obtain ⟨A2, c2, rfl⟩ := ho.form
  clear hg ho
  clear hc
  have t0 : (cl != 0) = true := by simp; omega
  have t1 : (cl != 1) = true := by simp; omega
  clear hh
  obtain ⟨z1, z2, z3⟩ := nw1 w (.cells #[.int .i8 nn, .slice A gs.length c, .slice A2 os.length c2] 30)
  go_enter Tryd.func60, Tryd.ntmps60
  go_wp2_with fail
  generalize World.alloc w _ = w1 at z1 z2 z3 ⊢
  refine (openCircuit_any nn _ _ gs os w1 (H.out.below z2)).mono ?_
  rintro e w2 ⟨rfl, hb⟩
  have HB2 := Lib.hid (z2.trans (hb.mono z2.size))
  simp only [opW, HC.out, if_true]
  clear z1 z2 z3 hb
  have HB3 := Lib.hid (HB2.out.trans ((nw1 w2 (.cells #[.slice A gs.length c, .int .i8 nn, .slice A2 os.length c2] 74)).2.1.mono HB2.out.size))
  go_wp2_with fail
  go_ret
  exact ⟨rfl, HB3.out⟩

set_option maxHeartbeats 2000000 in
set_option maxRecDepth 100000 in
theorem refused_lo0 (v : Value) (nn cl level : Int) (gs : List G3) (os : List Int) (hc : circB nn gs os = true) (hcl : cl = 0) (hh : level < 0) (w : World) (h : CI w v nn gs os) :
    Calls Tryd.prog 60 #[v, .int .i64 cl, .int .i64 level] w fun e w' => e = .returned (.iface 151 (.agg #[.int .i64 2])) ∧ Below w.heap.size w w' := by
  have H := Lib.hid h
  have HC := Lib.hid hc
  obtain ⟨G, O, rfl, hn, hg, ho⟩ := h
  have HG := Lib.hid hg; have HO := Lib.hid ho
  obtain ⟨A, c, rfl⟩ := hg.form
  obtain ⟨A2, c2, rfl⟩ := ho.form
  clear hg ho
  clear hc
  have t1 : decide (level < 0) = true := by simp; omega
  subst hcl
  clear hh
  obtain ⟨z1, z2, z3⟩ := nw1 w (.cells #[.int .i8 nn, .slice A gs.length c, .slice A2 os.length c2] 30)
  go_enter Tryd.func60, Tryd.ntmps60
  go_wp2_with fail
  generalize World.alloc w _ = w1 at z1 z2 z3 ⊢
  refine (openCircuit_any nn _ _ gs os w1 (H.out.below z2)).mono ?_
  rintro e w2 ⟨rfl, hb⟩
  have HB2 := Lib.hid (z2.trans (hb.mono z2.size))
  simp only [opW, HC.out, if_true]
  clear z1 z2 z3 hb
  have HB3 := Lib.hid (HB2.out.trans ((nw1 w2 (.cells #[.slice A gs.length c, .int .i8 nn, .slice A2 os.length c2] 74)).2.1.mono HB2.out.size))
  go_wp2_with fail
  go_ret
  exact ⟨rfl, HB3.out⟩

set_option maxHeartbeats 2000000 in
set_option maxRecDepth 100000 in
theorem refused_lo1 (v : Value) (nn cl level : Int) (gs : List G3) (os : List Int) (hc : circB nn gs os = true) (hcl : cl = 1) (hh : level < 0) (w : World) (h : CI w v nn gs os) :
    Calls Tryd.prog 60 #[v, .int .i64 cl, .int .i64 level] w fun e w' => e = .returned (.iface 151 (.agg #[.int .i64 2])) ∧ Below w.heap.size w w' := by
  have H := Lib.hid h
  have HC := Lib.hid hc
  obtain ⟨G, O, rfl, hn, hg, ho⟩ := h
  have HG := Lib.hid hg; have HO := Lib.hid ho
  obtain ⟨A, c, rfl⟩ := hg.form
  obtain ⟨A2, c2, rfl⟩ := ho.form
  clear hg ho
  clear hc
  have t1 : decide (level < 0) = true := by simp; omega
  subst hcl
  clear hh
  obtain ⟨z1, z2, z3⟩ := nw1 w (.cells #[.int .i8 nn, .slice A gs.length c, .slice A2 os.length c2] 30)
  go_enter Tryd.func60, Tryd.ntmps60
  go_wp2_with fail
  generalize World.alloc w _ = w1 at z1 z2 z3 ⊢
  refine (openCircuit_any nn _ _ gs os w1 (H.out.below z2)).mono ?_
  rintro e w2 ⟨rfl, hb⟩
  have HB2 := Lib.hid (z2.trans (hb.mono z2.size))
  simp only [opW, HC.out, if_true]
  clear z1 z2 z3 hb
  have HB3 := Lib.hid (HB2.out.trans ((nw1 w2 (.cells #[.slice A gs.length c, .int .i8 nn, .slice A2 os.length c2] 74)).2.1.mono HB2.out.size))
  go_wp2_with fail
  go_ret
  exact ⟨rfl, HB3.out⟩

set_option maxHeartbeats 2000000 in
set_option maxRecDepth 100000 in
theorem refused_hi0 (v : Value) (nn cl level : Int) (gs : List G3) (os : List Int) (hc : circB nn gs os = true) (hcl : cl = 0) (hh : 2 < level) (w : World) (h : CI w v nn gs os) :
    Calls Tryd.prog 60 #[v, .int .i64 cl, .int .i64 level] w fun e w' => e = .returned (.iface 151 (.agg #[.int .i64 2])) ∧ Below w.heap.size w w' := by
  have H := Lib.hid h
  have HC := Lib.hid hc
  obtain ⟨G, O, rfl, hn, hg, ho⟩ := h
  have HG := Lib.hid hg; have HO := Lib.hid ho
  obtain ⟨A, c, rfl⟩ := hg.form
  obtain ⟨A2, c2, rfl⟩ := ho.form
  clear hg ho
  clear hc
  have t1 : decide (level < 0) = false := by simp; omega
  have t2 : decide (2 < level) = true := by simp; omega
  subst hcl
  clear hh
  obtain ⟨z1, z2, z3⟩ := nw1 w (.cells #[.int .i8 nn, .slice A gs.length c, .slice A2 os.length c2] 30)
  go_enter Tryd.func60, Tryd.ntmps60
  go_wp2_with fail
  generalize World.alloc w _ = w1 at z1 z2 z3 ⊢
  refine (openCircuit_any nn _ _ gs os w1 (H.out.below z2)).mono ?_
  rintro e w2 ⟨rfl, hb⟩
  have HB2 := Lib.hid (z2.trans (hb.mono z2.size))
  simp only [opW, HC.out, if_true]
  clear z1 z2 z3 hb
  have HB3 := Lib.hid (HB2.out.trans ((nw1 w2 (.cells #[.slice A gs.length c, .int .i8 nn, .slice A2 os.length c2] 74)).2.1.mono HB2.out.size))
  go_wp2_with fail
  go_ret
  exact ⟨rfl, HB3.out⟩

set_option maxHeartbeats 2000000 in
set_option maxRecDepth 100000 in
theorem refused_hi1 (v : Value) (nn cl level : Int) (gs : List G3) (os : List Int) (hc : circB nn gs os = true) (hcl : cl = 1) (hh : 2 < level) (w : World) (h : CI w v nn gs os) :
    Calls Tryd.prog 60 #[v, .int .i64 cl, .int .i64 level] w fun e w' => e = .returned (.iface 151 (.agg #[.int .i64 2])) ∧ Below w.heap.size w w' := by
  have H := Lib.hid h
  have HC := Lib.hid hc
  obtain ⟨G, O, rfl, hn, hg, ho⟩ := h
  have HG := Lib.hid hg; have HO := Lib.hid ho
  obtain ⟨A, c, rfl⟩ := hg.form
  obtain ⟨A2, c2, rfl⟩ := ho.form
  clear hg ho
  clear hc
  have t1 : decide (level < 0) = false := by simp; omega
  have t2 : decide (2 < level) = true := by simp; omega
  subst hcl
  clear hh
  obtain ⟨z1, z2, z3⟩ := nw1 w (.cells #[.int .i8 nn, .slice A gs.length c, .slice A2 os.length c2] 30)
  go_enter Tryd.func60, Tryd.ntmps60
  go_wp2_with fail
  generalize World.alloc w _ = w1 at z1 z2 z3 ⊢
  refine (openCircuit_any nn _ _ gs os w1 (H.out.below z2)).mono ?_
  rintro e w2 ⟨rfl, hb⟩
  have HB2 := Lib.hid (z2.trans (hb.mono z2.size))
  simp only [opW, HC.out, if_true]
  clear z1 z2 z3 hb
  have HB3 := Lib.hid (HB2.out.trans ((nw1 w2 (.cells #[.slice A gs.length c, .int .i8 nn, .slice A2 os.length c2] 74)).2.1.mono HB2.out.size))
  go_wp2_with fail
  go_ret
  exact ⟨rfl, HB3.out⟩

set_option maxHeartbeats 2000000 in
set_option maxRecDepth 100000 in
theorem refused_open (v : Value) (nn cl level : Int) (gs : List G3) (os : List Int) (hc : circB nn gs os = false) (w : World) (h : CI w v nn gs os) :
    Calls Tryd.prog 60 #[v, .int .i64 cl, .int .i64 level] w fun e w' => e = .returned (.iface 151 (.agg #[.int .i64 1])) ∧ Below w.heap.size w w' := by
  have H := Lib.hid h
  have HC := Lib.hid hc
  obtain ⟨G, O, rfl, hn, hg, ho⟩ := h
  have HG := Lib.hid hg; have HO := Lib.hid ho
  obtain ⟨A, c, rfl⟩ := hg.form
  obtain ⟨A2, c2, rfl⟩ := ho.form
  clear hg ho
  clear hc
  obtain ⟨z1, z2, z3⟩ := nw1 w (.cells #[.int .i8 nn, .slice A gs.length c, .slice A2 os.length c2] 30)
  go_enter Tryd.func60, Tryd.ntmps60
  go_wp2_with fail
  generalize World.alloc w _ = w1 at z1 z2 z3 ⊢
  refine (openCircuit_any nn _ _ gs os w1 (H.out.below z2)).mono ?_
  rintro e w2 ⟨rfl, hb⟩
  have HB2 := Lib.hid (z2.trans (hb.mono z2.size))
  simp only [opW, HC.out, Bool.false_eq_true, if_false]
  clear z1 z2 z3 hb
  have HB3 := Lib.hid (HB2.out.trans ((nw1 w2 (.cells #[.slice none 0 0, .int .i8 0, .slice none 0 0] 74)).2.1.mono HB2.out.size))
  go_wp2_with fail
  go_ret
  exact ⟨rfl, HB3.out⟩

theorem check_any (v : Value) (nn cl level : Int) (gs : List G3) (os : List Int) (w : World) (h : CI w v nn gs os) :
    Calls Tryd.prog 60 #[v, .int .i64 cl, .int .i64 level] w fun e w' => e = .returned (ccE nn gs os cl level) ∧ Below w.heap.size w w' := by
  unfold ccE
  cases hc : circB nn gs os with
  | false => exact refused_open v nn cl level gs os hc w h
  | true =>
    cases hcl : clB cl level with
    | false =>
      have hh : (cl ≠ 0 ∧ cl ≠ 1) ∨ ((cl = 0 ∨ cl = 1) ∧ (level < 0 ∨ 2 < level)) := by have := of_decide_eq_false hcl; omega
      rcases hh with hh | ⟨hh | hh, hl | hl⟩
      · exact refused_cl v nn cl level gs os hc hh w h
      · exact refused_lo0 v nn cl level gs os hc hh hl w h
      · exact refused_hi0 v nn cl level gs os hc hh hl w h
      · exact refused_lo1 v nn cl level gs os hc hh hl w h
      · exact refused_hi1 v nn cl level gs os hc hh hl w h
    | true =>
      obtain ⟨h1, h2⟩ := cl_cases hcl
      cases hf : fitB nn os level with
      | false =>
        rcases h1 with rfl | rfl
        · rcases h2 with rfl | rfl | rfl
          · exact unfit_0_0 v nn gs os hc hf w h
          · exact unfit_0_1 v nn gs os hc hf w h
          · exact unfit_0_2 v nn gs os hc hf w h
        · rcases h2 with rfl | rfl | rfl
          · exact unfit_1_0 v nn gs os hc hf w h
          · exact unfit_1_1 v nn gs os hc hf w h
          · exact unfit_1_2 v nn gs os hc hf w h
      | true =>
        have hq := of_decide_eq_true hf
        rcases h1 with rfl | rfl
        · rcases h2 with rfl | rfl | rfl
          · exact check_0_0 v nn hq.1 gs os hc hq.2 w h
          · exact check_0_1 v nn hq.1 gs os hc hq.2 w h
          · exact check_0_2 v nn hq.1 gs os hc hq.2 w h
        · rcases h2 with rfl | rfl | rfl
          · exact check_1_0 v nn hq.1 gs os hc hq.2 w h
          · exact check_1_1 v nn hq.1 gs os hc hq.2 w h
          · exact check_1_2 v nn hq.1 gs os hc hq.2 w h

end Go.Proofs.YtedcfmdgcafnmaaDoor
