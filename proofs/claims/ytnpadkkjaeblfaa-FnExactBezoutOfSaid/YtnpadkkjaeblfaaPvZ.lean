/-
  Division, of the program.
-/
import Derived.Test.YtnpadkkjaeblfaaPvH
namespace Go.Proofs.Ytnpadkkjaeblfaa
set_option linter.unusedVariables false
set_option linter.unusedSimpArgs false
open Go.ChangeShapes Go.WideShapes Go.ChangeAt Go.RowKit Go.Shelf
attribute [local go_sem] Oper.semAt_some

/-- two answers lie apart -/
def SEP (q : Value) (xs : List Int) (r : Value) (ys : List Int) : Prop := 0 < xs.length → 0 < ys.length → ∀ k, q.ownBlock = some k → r.ownBlock = some k → False
set_option maxHeartbeats 8000000 in
set_option maxRecDepth 100000 in
theorem divide_sep (v u : Value) (xs ys : List Int) (hn : xs.length ≤ 1000) (hn2 : ys.length ≤ 1000) (w : World) (h : NC w v xs) (h' : NC w u ys)
    (hn1 : 1 ≤ ys.length) (ht : ys.getD (ys.length - 1) 0 ≠ 0) :
    Calls Try.prog 143 #[v, u] w fun e w' => ∃ q r, e = .returned (.tuple #[q, r]) ∧ PO w' w.heap.size q (pQuo xs ys) ∧ PO w' w.heap.size r (pLeft xs ys) ∧ Below w.heap.size w w' ∧ SEP q (pQuo xs ys) r (pLeft xs ys) := by
  obtain ⟨i0, hi, hz0, hz1, hz2⟩ := info_parts info25
  have HU := Lib.hid h.inU
  have HU' := Lib.hid h'.inU
  have HN := Lib.hid h.ns
  have HN' := Lib.hid h'.ns
  obtain ⟨A, c, rfl, hca⟩ := h.form
  obtain ⟨A', c', rfl, hca'⟩ := h'.form
  clear h h'
  obtain ⟨p, hp⟩ : ∃ p, p = ys.length - 1 := ⟨_, rfl⟩
  have hpi : (ys.length : Int) - 1 = (p : Int) := by omega
  have i1 : (p : Int) < (ys.length : Int) := by omega
  have t0 : ((ys.length : Int) == 0) = false := by rw [beq_eq_false_iff_ne]; omega
  obtain ⟨b2, off2, rfl, hlb2, hcell2⟩ := HN'.out.spot.2 (by omega)
  obtain ⟨wa, hwa⟩ : ∃ wa, wa = w.alloc (.cells #[.slice (some ⟨b2, off2, none⟩) ys.length c'] 25) := ⟨_, rfl⟩
  have q1 : (w.alloc (.cells #[.slice (some ⟨b2, off2, none⟩) ys.length c'] 25)).cell? ⟨b2, off2 + p, none⟩ = some (.int .u16 (ys.getD p 0)) := ((Below.refl w.heap.size w).alloc (Nat.le_refl _) _).cell (p := ⟨b2, off2 + p, none⟩) hlb2 |>.trans (hcell2 p (by omega))
  have rp := HU'.out.at p
  obtain ⟨bl, hbl⟩ : ∃ bl, bl = ys.getD p 0 := ⟨_, rfl⟩
  rw [← hbl] at q1 rp
  clear hwa wa hp
  have hm1 : ∀ (x : Int) (w : World), (method 251 41 (.int .u16 x) "loop.example/g01307/impl.inverse").run Try.prog w = .ok (125, .int .u16 x) w := fun _ _ => by kernel_rfl
  have hm2 : ∀ (x : Int) (w : World), (method 251 41 (.int .u16 x) "loop.example/g01307/impl.times").run Try.prog w = .ok (124, .int .u16 x) w := fun _ _ => by kernel_rfl
  have hm3 : ∀ (x : Int) (w : World), (method 251 41 (.int .u16 x) "loop.example/g01307/impl.plus").run Try.prog w = .ok (123, .int .u16 x) w := fun _ _ => by kernel_rfl
  have HBL := Lib.hid hbl
  clear hbl hcell2
  refine (callsIn_wide (n := 12)).1 ?_
  refine callsIn_of_wp_marks Try.func143 rfl trivial ?_ rfl
  simp only [Try.ntmps143, List.size_toArray, List.length_cons, List.length_nil, Nat.reduceAdd, Nat.reduceSub, Array.replicate_succ, Array.replicate_zero, List.push_toArray, List.append_toArray, List.nil_append, List.cons_append]
  gi_wp2
  refine ⟨trivial, ?_⟩
  refine (callsIn_wide.2 (inv_v bl rp.1 rp.2 _)).mono ?_
  rintro e w' ⟨rfl, hw⟩
  obtain rfl := hw.symm
  have riv := invP_u bl rp.2
  obtain ⟨iv, hiv⟩ : ∃ iv, iv = invP bl := ⟨_, rfl⟩
  rw [← hiv] at riv ⊢
  have HIV := Lib.hid hiv
  clear hiv
  gi_wp2
  obtain ⟨hh, hhe⟩ : ∃ hh, hh = w.heap.size := ⟨_, rfl⟩
  obtain ⟨w1, hw1⟩ : ∃ w1, w1 = (((w.alloc (.cells #[.slice (some ⟨b2, off2, none⟩) ys.length c'] 25)).alloc (.cells #[.int .i64 (p : Int)] 3)).alloc (.cells #[.int .u16 iv] 41)) := ⟨_, rfl⟩
  have hB1 : Below hh w w1 := by rw [hw1, hhe]; exact (((Below.refl _ w).alloc (Nat.le_refl _) _).alloc (by simp <;> omega) _).alloc (by simp <;> omega) _
  have hsz1 : w1.heap.size = hh + 3 := by rw [hw1, hhe]; simp
  have k1 : Boxed w1 hh 25 (.slice (some ⟨b2, off2, none⟩) ys.length c') := by rw [hw1, hhe]; exact ((Boxed.new w _ _).alloc _).alloc _
  have k2 : Boxed w1 (hh + 1) 3 (.int .i64 (p : Int)) := by
    rw [hw1, hhe]
    have := (Boxed.new (w.alloc (.cells #[.slice (some ⟨b2, off2, none⟩) ys.length c'] 25)) 3 (.int .i64 (p : Int))).alloc (.cells #[.int .u16 iv] 41)
    rwa [World.size_alloc] at this
  have k3 : Boxed w1 (hh + 2) 41 (.int .u16 iv) := by
    rw [hw1, hhe]
    have := Boxed.new ((w.alloc (.cells #[.slice (some ⟨b2, off2, none⟩) ys.length c'] 25)).alloc (.cells #[.int .i64 (p : Int)] 3)) 41 (.int .u16 iv)
    rwa [World.size_alloc, World.size_alloc] at this
  have hn1' : NS w1 (.slice A xs.length c) xs := HN.out.below (by rw [← hhe]; exact hB1)
  have hlb2h : b2 < hh := by rw [hhe]; exact hlb2
  rw [← hw1, ← hhe]
  have HHE := Lib.hid hhe
  clear hw1 hhe q1
  refine ⟨trivial, ?_⟩
  refine (callsIn_wide.2 (clone_any A c xs (by omega) w1 hn1')).mono ?_
  rintro e w2 ⟨r, rfl, hown, hb2⟩
  obtain ⟨A1, c1, rfl, hml, hA1⟩ := own_form hown
  obtain ⟨hr, hhr⟩ : ∃ hr, hr = w2.heap.size := ⟨_, rfl⟩
  have hle : hh + 3 ≤ hr := by rw [hhr, ← hsz1]; exact hb2.size
  have k1b : Boxed w2 hh 25 _ := (hb2.block hh (by omega)).trans k1
  have k2b : Boxed w2 (hh + 1) 3 _ := (hb2.block (hh + 1) (by omega)).trans k2
  have k3b : Boxed w2 (hh + 2) 41 _ := (hb2.block (hh + 2) (by omega)).trans k3
  have hB2 : Below hh w w2 := hB1.trans (hb2.mono (by omega))
  have HO2 := Lib.hid hown
  have HB2 := Lib.hid hB2
  have K1 := Lib.hid k1b
  have K3 := Lib.hid k3b
  have k2c : (w2.alloc (.cells #[.slice A1 xs.length c1] 25)).cell? ⟨hh + 1, 0, none⟩ = some (.int .i64 (p : Int)) := (k2b.alloc _).cell
  have K2 := Lib.hid k2b
  have HA1 := Lib.hid hA1
  clear hown hb2 k1 k2 k3 k1b k3b k2b hB1 hB2 hn1' hA1
  obtain ⟨m, hmq⟩ : ∃ m, m = quoM xs ys := ⟨_, rfl⟩
  have hmu : xs.length + 1 - ys.length = m := by rw [hmq]; rfl
  have hm2 : m ≤ 1001 := by omega
  have HMQ := Lib.hid hmq
  have HHR := Lib.hid hhr
  clear hmq hhr
  gi_wp2_with (gi_at_make; refine wpListIn_make_full _ rfl _ _ 25 rfl (hr + 1) 41 i0 (.int .u16 0) 1 Try.underlying25 hi hz0 hz1 _ _ _ _ m rfl rfl (by omega) (by omega) (by rw [hz2]; omega) (by unfold maxLen; omega) (by rw [World.size_alloc, HHR.out]; exact Nat.le_refl _) ?_)
  all_goals intro w3 hown3 hgrow3
  all_goals rename_i hcase
  · skip
    simp only [World.size_alloc, ← HHR.out] at hown3 ⊢
    rw [made_tab] at hown3
    have hle3 : hr + 2 ≤ w3.heap.size := (RW.of_own hown3).lt
    have hB3 : Below hr w2 w3 := (((Below.refl hr w2).alloc (Nat.le_of_eq HHR.out) (.cells #[.slice A1 xs.length c1] 25)).grown hgrow3 (by rw [World.size_alloc, ← HHR.out]; omega) (fun k hk => by cases hk))
    obtain ⟨h9, hh9⟩ : ∃ h9, h9 = w3.heap.size := ⟨_, rfl⟩
    have kr : Boxed w3 hr 25 (.slice A1 xs.length c1) := by
      have e := Boxed.new w2 25 (.slice A1 xs.length c1)
      rw [← HHR.out] at e
      exact (hgrow3.block hr (by rw [World.size_alloc, ← HHR.out]; omega) (by simp)).trans e
    have hq3 := RW.of_own hown3
    have K2c : (w3.alloc (.cells #[.slice (some ⟨hr + 1, 0, none⟩) m m] 25)).cell? ⟨hh + 1, 0, none⟩ = some (.int .i64 (p : Int)) := Boxed.cell (t := 3) (Boxed.alloc (show Boxed w3 (hh + 1) 3 (.int .i64 (p : Int)) from (hB3.block (hh + 1) (by omega)).trans K2.out) _)
    have HB3 := Lib.hid hB3
    have KR := Lib.hid kr
    have HQ3 := Lib.hid hq3
    have HH9 := Lib.hid hh9
    have hle9 : hr + 1 < h9 := by omega
    clear hown3 hgrow3 k2c hB3 kr hq3 hh9
    gi_wp2
    refine ⟨trivial, ?_⟩
    refine (backward_in _ _ _ _ _).mono ?_
    rintro e w' ⟨rfl, rfl⟩
    gi_wp2
    obtain ⟨w0, hw0⟩ : ∃ w0, w0 = ((w3.alloc (.cells #[.slice (some ⟨hr + 1, 0, none⟩) m m] 25)).alloc (.cells #[.slice (some ⟨hr + 1, 0, none⟩) m m] 25)) := ⟨_, rfl⟩
    rw [← HH9.out, ← hw0]
    have hB0 : Below h9 w3 w0 := by rw [hw0]; exact ((Below.refl h9 w3).alloc (Nat.le_of_eq HH9.out) _).alloc (by rw [World.size_alloc, ← HH9.out]; omega) _
    have hsz0 : w0.heap.size = h9 + 2 := by rw [hw0, HH9.out]; simp
    have bS : Boxed w0 (h9 + 1) 25 (.slice (some ⟨hr + 1, 0, none⟩) m m) := by
      have := Boxed.new (w3.alloc (.cells #[.slice (some ⟨hr + 1, 0, none⟩) m m] 25)) 25 (.slice (some ⟨hr + 1, 0, none⟩) m m)
      rw [World.size_alloc, ← HH9.out] at this
      rw [hw0]; exact this
    have bQ : Boxed w0 h9 25 (.slice (some ⟨hr + 1, 0, none⟩) m m) := by
      have := (Boxed.new w3 25 (.slice (some ⟨hr + 1, 0, none⟩) m m)).alloc (.cells #[.slice (some ⟨hr + 1, 0, none⟩) m m] 25)
      rw [← HH9.out] at this
      rw [hw0]; exact this
    have hBall : Below hr w2 w0 := HB3.out.trans (hB0.mono (by omega))
    have hD0 : DB w hh hr h9 (.slice (some ⟨b2, off2, none⟩) ys.length c') p iv A1 xs.length c1 m (divS xs ys m []).1 (divS xs ys m []).2 w0 := by
      refine ⟨(hBall.block hh (by omega)).trans K1.out, (hBall.block (hh + 1) (by omega)).trans K2.out, (hBall.block (hh + 2) (by omega)).trans K3.out, (hB0.block hr (by omega)).trans KR.out, bQ, HQ3.out.below hB0 (by omega), ?_, HB2.out.trans (hBall.mono (by omega)), by omega⟩
      have e : tab xs.length (divS xs ys m []).1 = xs := (list_tab xs).symm
      rw [e]
      have := own_below HO2.out (show Below w2.heap.size w2 w0 by rw [← HHR.out]; exact hBall)
      rwa [hsz1] at this
    have HD0 := Lib.hid hD0
    have hQ0 : QN w0 (hr + 1) m := ⟨_, tab_len _ _, tab_in fun s _ => (divS_u HU.out HU'.out m []).2 s, hD0.2.2.2.2.2.1⟩
    clear hB0 bQ hBall hw0 hD0
    refine wpIn_rangeFunc_ownG rfl (by omega) (gf := 151) (lb := #[.pointer (some ⟨h9 + 1, 0, none⟩)]) rfl trivial (enters_of Try.func151 (by kernel_rfl) rfl)
      (Kp := KpQ (h9 + 1) (hr + 1) m) (encs := fun p : Nat × Int => #[.int .i64 ((p.1 % m : Nat) : Int), .int .u16 (p.2 % 65536)]) (S := fun ys => ys.map (·.1) = descK m m) (Sp := fun pre => True) (N := m) (w0 := w0)
      (fun l J Jx W hW _ _ hY h0 => back1q_in _ l (h9 + 1) (hr + 1) m (by omega) (by omega) J Jx hY _ ((hW.cell (p := ⟨h9 + 1, 0, none⟩) (by show h9 + 1 < w0.heap.size; omega)).trans bS.cell) (by obtain ⟨zs, e1, e2, e3⟩ := hQ0; exact ⟨zs, e1, e2, e3.below hW (by omega)⟩) h0)
      (fun h k => h.trans k) (fun W l o o' hl _ _ _ => KpQ.put W l o' (by omega) (by omega)) (Below.refl _ _) (fun _ => rfl)
      (fun pre W => DB w hh hr h9 (.slice (some ⟨b2, off2, none⟩) ys.length c') p iv A1 xs.length c1 m (divS xs ys m pre).1 (divS xs ys m pre).2 W)
      (fun _ _ _ => False)
      (DB.ownFrom HHE.out (by omega) (fun pre => (divS xs ys m pre).1) (fun pre => (divS xs ys m pre).2))
      (fun _ _ _ _ _ hs _ _ => hs)
      HD0.out
      ?_ ?assignA ?bodyA ?doneA ?stopA
    case assignA =>
      intro l p W K hK
      gi_wp2
      exact hK
    case bodyA =>
      rintro l pre pr W hD hlt
      exfalso; omega
    case doneA =>
      rintro D zs W hDs hzs hDB hKD
      obtain ⟨e1, e2⟩ := divS_end xs ys m m (Nat.le_refl _) zs hzs
      rw [e1] at hDB
      have hrq := hDB.2.2.2.2.2.1
      rw [e2] at hrq
      have q1 : W.cell? ⟨hh + 1, 0, none⟩ = _ := hDB.2.1.cell
      have HDB := Lib.hid hDB
      have HRQ := Lib.hid hrq
      have HKD := Lib.hid hKD
      have hcc : xs.length ≤ c1 := by
        obtain ⟨A9, c9, e9, h9', _⟩ := (PO.of_own hDB.2.2.2.2.2.2.1 (tab_len _ _) (tab_in fun s _ => divR_u HU.out HU'.out m m s)).form
        obtain ⟨_, _, rfl⟩ := Value.slice.inj e9
        rw [tab_len] at h9'
        exact h9'
      have p1 : W.drew.cell? ⟨h9, 0, none⟩ = _ := hDB.2.2.2.2.1.cell
      have p2 : W.drew.cell? ⟨hr, 0, none⟩ = _ := hDB.2.2.2.1.cell
      clear e1 e2 hDB hrq hKD hzs
      gi_wp2
      · obtain ⟨lf, hlf⟩ : ∃ lf, lf = xs.length := ⟨_, rfl⟩
        have hlc : lf ≤ c1 := by omega
        have hln : lf ≤ xs.length := by omega
        have hle' : lf = if xs.length < ys.length then xs.length else ys.length - 1 := by rw [if_pos (by omega)]; omega
        have hlc2 : (lf : Int) ≤ (c1 : Int) := by omega
        rw [← hlf]
        have HLE := Lib.hid hle'
        have HLN := Lib.hid hln
        clear hle' hlf hln
        refine region_wide ?_ (fun w' => w' = W.drew) (fun u => u.cell? ⟨h9, 0, none⟩ = some (.slice (some ⟨hr + 1, 0, none⟩) m m) ∧ u.cell? ⟨hr, 0, none⟩ = some (.slice A1 xs.length c1) ∧ True ∧ True ∧ True) (by kernel_rfl) ?_ (fun hS => ?_) ?_
        rotate_left 1
        · exact ⟨p1, p2, trivial, trivial, trivial⟩
        · skip
          refine takeH (i := 0) (v := ?vWa0A) rfl rfl (by kernel_rfl) (by kernel_rfl) (by kernel_rfl) (fun _ _ _ h => h) rfl ?hyWa0A hS ?rsWa0A
          case hyWa0A => (intro wq hq; obtain ⟨s1, s2, s3, s4, s5⟩ := hq; go_simp; try (with_reducible rfl))
          simp only [Act.put, List.setIfInBounds_toArray, List.set_cons_zero, List.set_cons_succ]
          refine takeH (i := 1) (v := ?vWa1A) rfl rfl (by kernel_rfl) (by kernel_rfl) (by kernel_rfl) (fun _ _ _ h => h) rfl ?hyWa1A hS ?rsWa1A
          case hyWa1A => (intro wq hq; obtain ⟨s1, s2, s3, s4, s5⟩ := hq; go_simp; try (with_reducible rfl))
          simp only [Act.put, List.setIfInBounds_toArray, List.set_cons_zero, List.set_cons_succ]
          refine takeH (i := 2) (v := ?vWa2A) rfl rfl (by kernel_rfl) (by kernel_rfl) (by kernel_rfl) (fun _ _ _ h => h) rfl ?hyWa2A hS ?rsWa2A
          case hyWa2A => (intro wq hq; obtain ⟨s1, s2, s3, s4, s5⟩ := hq; go_simp; try (with_reducible rfl))
          simp only [Act.put, List.setIfInBounds_toArray, List.set_cons_zero, List.set_cons_succ]
          refine takeH (i := 3) (v := ?vWa3A) rfl rfl (by kernel_rfl) (by kernel_rfl) (by kernel_rfl) (fun _ _ _ h => h) rfl ?hyWa3A hS ?rsWa3A
          case hyWa3A => (intro wq hq; obtain ⟨s1, s2, s3, s4, s5⟩ := hq; go_simp; try (with_reducible rfl))
          simp only [Act.put, List.setIfInBounds_toArray, List.set_cons_zero, List.set_cons_succ]
          refine takeH (i := 4) (v := ?vWa4A) rfl rfl (by kernel_rfl) (by kernel_rfl) (by kernel_rfl) (fun _ _ _ h => h) rfl ?hyWa4A hS ?rsWa4A
          case hyWa4A => (intro wq hq; obtain ⟨s1, s2, s3, s4, s5⟩ := hq; go_simp; try (with_reducible rfl))
          simp only [Act.put, List.setIfInBounds_toArray, List.set_cons_zero, List.set_cons_succ]
          refine takeH (i := 5) (v := ?vWa5A) rfl rfl (by kernel_rfl) (by kernel_rfl) (by kernel_rfl) (fun _ _ _ h => h) rfl ?hyWa5A hS ?rsWa5A
          case hyWa5A => (intro wq hq; obtain ⟨s1, s2, s3, s4, s5⟩ := hq; go_simp; try (with_reducible rfl))
          simp only [Act.put, List.setIfInBounds_toArray, List.set_cons_zero, List.set_cons_succ]
          refine takeH (i := 6) (v := ?vWa6A) rfl rfl (by kernel_rfl) (by kernel_rfl) (by kernel_rfl) (fun _ _ _ h => h) rfl ?hyWa6A hS ?rsWa6A
          case hyWa6A => (intro wq hq; obtain ⟨s1, s2, s3, s4, s5⟩ := hq; go_simp; try (with_reducible rfl))
          simp only [Act.put, List.setIfInBounds_toArray, List.set_cons_zero, List.set_cons_succ]
          refine wpAnyH_done (by kernel_rfl) ?_ _
          refine ⟨?_, rfl⟩
          with_unfolding_all rfl
        · rintro w6 rfl
          gi_wp2
          have d := HDB.out.drew
          have kd : W.drew.heap[D]? = some (.deferred (some [])) := HKD.out
          have n1 : D ≠ hr + 1 := by omega
          refine ⟨by simp, .inl ⟨_, _, rfl, run_takeDeferred kd, ?_⟩⟩
          refine ⟨_, results_tmp2 rfl _ _ _, _, _, rfl, ?_, ?_, ?_, ?_⟩
          · have r1 : RW (W.drew.putObj D (.deferred none)) (hr + 1) (tab m (divT xs ys m m)) := (World.putObj_heap_other (by omega)).trans HRQ.out
            have r2 := r1.po (B := w.heap.size) (tab_in fun s _ => divT_u HU.out HU'.out m m s) (by rw [← HHE.out]; omega) (by rw [tab_len]; unfold maxLen; omega)
            rw [tab_len] at r2
            rw [pQuo_tab, ← HMQ.out]
            exact r2
          · have r1 := ownsRow_putObj d.2.2.2.2.2.2.1 (.deferred none) kd rfl
            have r2 := (PO.of_own r1 (tab_len _ _) (tab_in fun s _ => divR_u HU.out HU'.out m m s)).cut lf (by rw [tab_len]; exact HLN.out)
            have r3 := r2.lower (B' := w.heap.size) (by rw [← HHE.out]; omega)
            unfold pLeft
            rw [← HMQ.out, ← HLE.out]
            exact r3
          · rw [← HHE.out]
            exact d.2.2.2.2.2.2.2.1.trans (belowK_b (w := w0) (by omega) W.drew D _ _ hDs kd rfl rfl)
          · intro hl0 hr0 k0 hk1 hk2
            obtain ⟨g1, e1, _, e3⟩ := HA1.out (Nat.lt_of_lt_of_le hr0 (pLeft_len xs ys))
            rw [← HHR.out] at e3
            have hk1' : (Value.slice (some ⟨hr + 1, 0, none⟩) m m).ownBlock = some k0 := hk1
            have hk2' : (Value.slice A1 lf lf).ownBlock = some k0 := hk2
            rw [e1] at hk2'
            simp [Value.ownBlock] at hk1' hk2'
            omega
    case stopA =>
      rintro D c pre W _ _ h _
      exact h.elim
  · skip
    simp only [World.size_alloc, ← HHR.out] at hown3 ⊢
    rw [made_tab] at hown3
    have hle3 : hr + 2 ≤ w3.heap.size := (RW.of_own hown3).lt
    have hB3 : Below hr w2 w3 := (((Below.refl hr w2).alloc (Nat.le_of_eq HHR.out) (.cells #[.slice A1 xs.length c1] 25)).grown hgrow3 (by rw [World.size_alloc, ← HHR.out]; omega) (fun k hk => by cases hk))
    obtain ⟨h9, hh9⟩ : ∃ h9, h9 = w3.heap.size := ⟨_, rfl⟩
    have kr : Boxed w3 hr 25 (.slice A1 xs.length c1) := by
      have e := Boxed.new w2 25 (.slice A1 xs.length c1)
      rw [← HHR.out] at e
      exact (hgrow3.block hr (by rw [World.size_alloc, ← HHR.out]; omega) (by simp)).trans e
    have hq3 := RW.of_own hown3
    have K2c : (w3.alloc (.cells #[.slice (some ⟨hr + 1, 0, none⟩) m m] 25)).cell? ⟨hh + 1, 0, none⟩ = some (.int .i64 (p : Int)) := Boxed.cell (t := 3) (Boxed.alloc (show Boxed w3 (hh + 1) 3 (.int .i64 (p : Int)) from (hB3.block (hh + 1) (by omega)).trans K2.out) _)
    have HB3 := Lib.hid hB3
    have KR := Lib.hid kr
    have HQ3 := Lib.hid hq3
    have HH9 := Lib.hid hh9
    have hle9 : hr + 1 < h9 := by omega
    clear hown3 hgrow3 k2c hB3 kr hq3 hh9
    gi_wp2
    refine ⟨trivial, ?_⟩
    refine (backward_in _ _ _ _ _).mono ?_
    rintro e w' ⟨rfl, rfl⟩
    gi_wp2
    obtain ⟨w0, hw0⟩ : ∃ w0, w0 = ((w3.alloc (.cells #[.slice (some ⟨hr + 1, 0, none⟩) m m] 25)).alloc (.cells #[.slice (some ⟨hr + 1, 0, none⟩) m m] 25)) := ⟨_, rfl⟩
    rw [← HH9.out, ← hw0]
    have hB0 : Below h9 w3 w0 := by rw [hw0]; exact ((Below.refl h9 w3).alloc (Nat.le_of_eq HH9.out) _).alloc (by rw [World.size_alloc, ← HH9.out]; omega) _
    have hsz0 : w0.heap.size = h9 + 2 := by rw [hw0, HH9.out]; simp
    have bS : Boxed w0 (h9 + 1) 25 (.slice (some ⟨hr + 1, 0, none⟩) m m) := by
      have := Boxed.new (w3.alloc (.cells #[.slice (some ⟨hr + 1, 0, none⟩) m m] 25)) 25 (.slice (some ⟨hr + 1, 0, none⟩) m m)
      rw [World.size_alloc, ← HH9.out] at this
      rw [hw0]; exact this
    have bQ : Boxed w0 h9 25 (.slice (some ⟨hr + 1, 0, none⟩) m m) := by
      have := (Boxed.new w3 25 (.slice (some ⟨hr + 1, 0, none⟩) m m)).alloc (.cells #[.slice (some ⟨hr + 1, 0, none⟩) m m] 25)
      rw [← HH9.out] at this
      rw [hw0]; exact this
    have hBall : Below hr w2 w0 := HB3.out.trans (hB0.mono (by omega))
    have hD0 : DB w hh hr h9 (.slice (some ⟨b2, off2, none⟩) ys.length c') p iv A1 xs.length c1 m (divS xs ys m []).1 (divS xs ys m []).2 w0 := by
      refine ⟨(hBall.block hh (by omega)).trans K1.out, (hBall.block (hh + 1) (by omega)).trans K2.out, (hBall.block (hh + 2) (by omega)).trans K3.out, (hB0.block hr (by omega)).trans KR.out, bQ, HQ3.out.below hB0 (by omega), ?_, HB2.out.trans (hBall.mono (by omega)), by omega⟩
      have e : tab xs.length (divS xs ys m []).1 = xs := (list_tab xs).symm
      rw [e]
      have := own_below HO2.out (show Below w2.heap.size w2 w0 by rw [← HHR.out]; exact hBall)
      rwa [hsz1] at this
    have HD0 := Lib.hid hD0
    have hQ0 : QN w0 (hr + 1) m := ⟨_, tab_len _ _, tab_in fun s _ => (divS_u HU.out HU'.out m []).2 s, hD0.2.2.2.2.2.1⟩
    clear hB0 bQ hBall hw0 hD0
    refine wpIn_rangeFunc_ownG rfl (by omega) (gf := 151) (lb := #[.pointer (some ⟨h9 + 1, 0, none⟩)]) rfl trivial (enters_of Try.func151 (by kernel_rfl) rfl)
      (Kp := KpQ (h9 + 1) (hr + 1) m) (encs := fun p : Nat × Int => #[.int .i64 ((p.1 % m : Nat) : Int), .int .u16 (p.2 % 65536)]) (S := fun ys => ys.map (·.1) = descK m m) (Sp := fun pre => True) (N := m) (w0 := w0)
      (fun l J Jx W hW _ _ hY h0 => back1q_in _ l (h9 + 1) (hr + 1) m (by omega) (by omega) J Jx hY _ ((hW.cell (p := ⟨h9 + 1, 0, none⟩) (by show h9 + 1 < w0.heap.size; omega)).trans bS.cell) (by obtain ⟨zs, e1, e2, e3⟩ := hQ0; exact ⟨zs, e1, e2, e3.below hW (by omega)⟩) h0)
      (fun h k => h.trans k) (fun W l o o' hl _ _ _ => KpQ.put W l o' (by omega) (by omega)) (Below.refl _ _) (fun _ => rfl)
      (fun pre W => DB w hh hr h9 (.slice (some ⟨b2, off2, none⟩) ys.length c') p iv A1 xs.length c1 m (divS xs ys m pre).1 (divS xs ys m pre).2 W)
      (fun _ _ _ => False)
      (DB.ownFrom HHE.out (by omega) (fun pre => (divS xs ys m pre).1) (fun pre => (divS xs ys m pre).2))
      (fun _ _ _ _ _ hs _ _ => hs)
      HD0.out
      ?_ ?assignB ?bodyB ?doneB ?stopB
    case assignB =>
      intro l p W K hK
      gi_wp2
      exact hK
    case bodyB =>
      rintro l pre pr W hD hlt
      obtain ⟨k, hk⟩ : ∃ k, k = pr.1 % m := ⟨_, rfl⟩
      have hkm : k < m := by rw [hk]; exact Nat.mod_lt _ (by omega)
      have hki : (pr.1 : Int) % (m : Int) = (k : Int) := by rw [hk]; exact (Int.natCast_emod _ _).symm
      have hsn := divS_snoc xs ys m pre pr
      unfold stepD at hsn
      rw [← hk] at hsn
      obtain ⟨g1, rfl, hg1, hg1b⟩ := HA1.out (by omega)
      rw [← HHR.out] at hg1b
      rw [hsz1] at hg1
      have hfu := (divS_u HU.out HU'.out m pre).1
      have htu := (divS_u HU.out HU'.out m pre).2
      obtain ⟨F, hF⟩ : ∃ F, F = (divS xs ys m pre).1 := ⟨_, rfl⟩
      obtain ⟨T, hT⟩ : ∃ T, T = (divS xs ys m pre).2 := ⟨_, rfl⟩
      rw [← hF, ← hT] at hD
      rw [← hF] at hsn hfu
      rw [← hT] at hsn htu
      obtain ⟨nn, hnn⟩ : ∃ nn, nn = k + p := ⟨_, rfl⟩
      have hwn : IntKind.wrap .i64 ((k : Int) + (p : Int)) = (nn : Int) := by rw [hnn]; exact wrap64 k p (by omega)
      have i4 : (nn : Int) < (xs.length : Int) := by omega
      have i5 : (k : Int) < (m : Int) := by omega
      obtain ⟨s, hs⟩ : ∃ s, s = F nn := ⟨_, rfl⟩
      have r3 := hfu nn
      rw [← hs] at r3
      obtain ⟨q, hq⟩ : ∃ q, q = mulI s iv := ⟨_, rfl⟩
      have hqd : divQ ys F k = q := by
        unfold divQ
        rw [show k + ys.length - 1 = nn from by omega, ← hs, hq, HIV.out, HBL.out, show p = ys.length - 1 from by omega]
      rw [hqd] at hsn
      have HSN := Lib.hid hsn
      have r4 := mulI_u s iv r3.2 riv.2
      rw [← hq] at r4
      have hc1 : ∀ u : World, Calls Try.prog 124 #[.int .u16 s, .int .u16 iv] u fun e u' => e = .returned (.int .u16 q) ∧ u' = u := by rw [hq]; exact fun u => times_v s iv r3.1 r3.2 riv.1 riv.2 u
      have HC1 := Lib.hid hc1
      have hDd := hD.drew
      have hko : KeepsOthers W W.drew := KeepsOthers.drew W
      have hn9 : W.drew.heap[h9 + 1]? = W.heap[h9 + 1]? := rfl
      obtain ⟨wd, hwd⟩ : ∃ wd, wd = W.drew := ⟨_, rfl⟩
      rw [← hwd] at hDd hko hn9
      have HWD := Lib.hid hwd
      clear hwd
      have q1 : wd.cell? ⟨h9, 0, none⟩ = _ := hDd.2.2.2.2.1.cell
      have q2 : wd.cell? ⟨hr, 0, none⟩ = _ := hDd.2.2.2.1.cell
      have q3 : wd.cell? ⟨hh + 1, 0, none⟩ = _ := hDd.2.1.cell
      have q4 : wd.cell? ⟨hh + 1 + 1, 0, none⟩ = _ := hDd.2.2.1.cell
      have q5 : wd.cell? ⟨g1, nn, none⟩ = some (.int .u16 s) := by
        have e := own_cell hDd.2.2.2.2.2.2.1 (tab_len _ _) nn (by omega)
        rw [tab_at _ _ _ (by omega), ← hs] at e
        exact e
      have q6 : wd.frozen? ⟨hr + 1, k, none⟩ = false := hDd.2.2.2.2.2.1.free k
      have q7 : wd.cell? ⟨hr + 1, k, none⟩ = _ := hDd.2.2.2.2.2.1.tabcell k hkm
      have HSET := Lib.hid (hDd.setQ (by omega) (by omega) (fun b off e => by cases e; exact hg1b) k q)
      have HKO := Lib.hid (hko.trans (KeepsOthers.setCell wd ⟨hr + 1, k, none⟩ (.int .u16 q)))
      have HN9 : Hid ((wd.setCell ⟨hr + 1, k, none⟩ (.int .u16 q)).heap[h9 + 1]? = W.heap[h9 + 1]?) := Lib.hid ((Below.heap_setCell _ _ _ _ (by show h9 + 1 ≠ hr + 1; omega)).trans hn9)
      have HSS := Lib.hid hs
      clear hsn hk hF hT hnn hs hq hqd hc1 hko hn9 hDd hD
      rw [hki]
      gi_wp2
      refine region_round ?_ (fun w' => DB w hh hr h9 (.slice (some ⟨b2, off2, none⟩) ys.length c') p iv (some ⟨g1, 0, none⟩) xs.length c1 m F (put T k q) w' ∧ KeepsOthers W w' ∧ w'.heap[h9 + 1]? = W.heap[h9 + 1]?) (fun u => u.cell? ⟨h9, 0, none⟩ = some (.slice (some ⟨hr + 1, 0, none⟩) m m) ∧ u.cell? ⟨hr, 0, none⟩ = some (.slice (some ⟨g1, 0, none⟩) xs.length c1) ∧ u.cell? ⟨hh + 1, 0, none⟩ = some (.int .i64 (p : Int)) ∧ u.cell? ⟨hh + 1 + 1, 0, none⟩ = some (.int .u16 iv) ∧ u.cell? ⟨g1, nn, none⟩ = some (.int .u16 s)) (by kernel_rfl) (by kernel_rfl) ?_ (fun hS => ?_) ?_
      rotate_left 1
      · rw [← HWD.out]; exact ⟨q1, q2, q3, q4, q5⟩
      · rw [← HWD.out] at hS ⊢
        refine takeH (i := 0) (v := ?v0B) rfl rfl (by kernel_rfl) (by kernel_rfl) (by kernel_rfl) (fun _ _ _ h => h) rfl ?hy0B hS ?rs0B
        case hy0B => (intro wq hq; obtain ⟨s1, s2, s3, s4, s5⟩ := hq; go_simp; try (with_reducible rfl))
        simp only [Act.put, List.setIfInBounds_toArray, List.set_cons_zero, List.set_cons_succ]
        refine takeH (i := 1) (v := ?v1B) rfl rfl (by kernel_rfl) (by kernel_rfl) (by kernel_rfl) (fun _ _ _ h => h) rfl ?hy1B hS ?rs1B
        case hy1B => (intro wq hq; obtain ⟨s1, s2, s3, s4, s5⟩ := hq; go_simp; try (with_reducible rfl))
        simp only [Act.put, List.setIfInBounds_toArray, List.set_cons_zero, List.set_cons_succ]
        refine takeH (i := 2) (v := ?v2B) rfl rfl (by kernel_rfl) (by kernel_rfl) (by kernel_rfl) (fun _ _ _ h => h) rfl ?hy2B hS ?rs2B
        case hy2B => (intro wq hq; obtain ⟨s1, s2, s3, s4, s5⟩ := hq; go_simp; try (with_reducible rfl))
        simp only [Act.put, List.setIfInBounds_toArray, List.set_cons_zero, List.set_cons_succ]
        refine takeH (i := 3) (v := ?v3B) rfl rfl (by kernel_rfl) (by kernel_rfl) (by kernel_rfl) (fun _ _ _ h => h) rfl ?hy3B hS ?rs3B
        case hy3B => (intro wq hq; obtain ⟨s1, s2, s3, s4, s5⟩ := hq; go_simp; try (with_reducible rfl))
        simp only [Act.put, List.setIfInBounds_toArray, List.set_cons_zero, List.set_cons_succ]
        refine takeH (i := 4) (v := ?v4B) rfl rfl (by kernel_rfl) (by kernel_rfl) (by kernel_rfl) (fun _ _ _ h => h) rfl ?hy4B hS ?rs4B
        case hy4B => (intro wq hq; obtain ⟨s1, s2, s3, s4, s5⟩ := hq; go_simp; try (with_reducible rfl))
        simp only [Act.put, List.setIfInBounds_toArray, List.set_cons_zero, List.set_cons_succ]
        refine takeH (i := 5) (v := ?v5B) rfl rfl (by kernel_rfl) (by kernel_rfl) (by kernel_rfl) (fun _ _ _ h => h) rfl ?hy5B hS ?rs5B
        case hy5B => (intro wq hq; obtain ⟨s1, s2, s3, s4, s5⟩ := hq; go_simp; try (with_reducible rfl))
        simp only [Act.put, List.setIfInBounds_toArray, List.set_cons_zero, List.set_cons_succ]
        refine takeH (i := 6) (v := ?v6B) rfl rfl (by kernel_rfl) (by kernel_rfl) (by kernel_rfl) (fun _ _ _ h => h) rfl ?hy6B hS ?rs6B
        case hy6B => (intro wq hq; obtain ⟨s1, s2, s3, s4, s5⟩ := hq; go_simp; try (with_reducible rfl))
        simp only [Act.put, List.setIfInBounds_toArray, List.set_cons_zero, List.set_cons_succ]
        refine takeH (i := 7) (v := ?v7B) rfl rfl (by kernel_rfl) (by kernel_rfl) (by kernel_rfl) (fun _ _ _ h => h) rfl ?hy7B hS ?rs7B
        case hy7B => (intro wq hq; obtain ⟨s1, s2, s3, s4, s5⟩ := hq; go_simp; try (with_reducible rfl))
        simp only [Act.put, List.setIfInBounds_toArray, List.set_cons_zero, List.set_cons_succ]
        refine takeH (i := 8) (v := ?v8B) rfl rfl (by kernel_rfl) (by kernel_rfl) (by kernel_rfl) (fun _ _ _ h => h) rfl ?hy8B hS ?rs8B
        case hy8B => (intro wq hq; obtain ⟨s1, s2, s3, s4, s5⟩ := hq; go_simp; try (with_reducible rfl))
        simp only [Act.put, List.setIfInBounds_toArray, List.set_cons_zero, List.set_cons_succ]
        refine takeH (i := 9) (v := ?v9B) rfl rfl (by kernel_rfl) (by kernel_rfl) (by kernel_rfl) (fun _ _ _ h => h) rfl ?hy9B hS ?rs9B
        case hy9B => (intro wq hq; obtain ⟨s1, s2, s3, s4, s5⟩ := hq; go_simp; try (with_reducible rfl))
        simp only [Act.put, List.setIfInBounds_toArray, List.set_cons_zero, List.set_cons_succ]
        refine wpAnyH_ready (rs := [10]) (by kernel_rfl) (by simp) ?_
        refine AllReadyH.cons rfl (fun K hK => ?_) AllReadyH.nil
        go_simp
        refine (HC1.out _).mono ?_
        rintro e wn ⟨rfl, hw⟩
        obtain rfl := hw.symm
        refine hK.out _ _ hS (fun hS => ?_)
        clear hK
        try simp only [Act.put, List.setIfInBounds_toArray, List.set_cons_zero, List.set_cons_succ]
        refine takeH (i := 11) (v := ?v11B) rfl rfl (by kernel_rfl) (by kernel_rfl) (by kernel_rfl) (fun _ _ _ h => h) rfl ?hy11B hS ?rs11B
        case hy11B => (intro wq hq; obtain ⟨s1, s2, s3, s4, s5⟩ := hq; go_simp; try (with_reducible rfl))
        simp only [Act.put, List.setIfInBounds_toArray, List.set_cons_zero, List.set_cons_succ]
        refine wpAnyH_ready (rs := [12]) (by kernel_rfl) (by simp) ?_
        refine AllReadyH.cons rfl (fun K hK => ?_) AllReadyH.nil
        go_simp
        refine hK.out _ _ ⟨cell_far (by omega) hS.1, cell_far (by omega) hS.2.1, cell_far (by omega) hS.2.2.1, cell_far (by omega) hS.2.2.2.1, cell_far (by omega) hS.2.2.2.2⟩ (fun hS => ?_)
        clear hK
        refine wpAnyH_done (by kernel_rfl) ?_ _
        refine ⟨?_, HSET.out, HKO.out, HN9.out⟩
        with_unfolding_all rfl
      · clear HSET HKO HN9 q1 q2 q3 q4 q5 q6 q7 HWD HC1
        rintro w5 ⟨hD5, hK5, hN5⟩
        have q1 : w5.cell? ⟨hh, 0, none⟩ = _ := hD5.1.cell
        have e0 : divIn ys k q F 0 = F := divIn_zero _ _ _ _
        rw [← e0] at hD5
        have HD5 := Lib.hid hD5
        have HK5 := Lib.hid hK5
        have HN5 := Lib.hid hN5
        obtain ⟨b3, off3, e3, hlb3, hcell3⟩ := HN'.out.spot.2 (by omega)
        cases e3
        have HCL3 := Lib.hid hcell3
        clear hD5 hK5 hN5 e0 hcell3
        gi_wp2
        gi_loopw [54] (fun y wr => ∃ i : Nat, y = .int .i64 (i : Int) ∧ i ≤ ys.length ∧ Hid (DB w hh hr h9 (.slice (some ⟨b2, off2, none⟩) ys.length c') p iv (some ⟨g1, 0, none⟩) xs.length c1 m (divIn ys k q F i) (put T k q) wr) ∧ Hid (KeepsOthers W wr) ∧ Hid (wr.heap[h9 + 1]? = W.heap[h9 + 1]?)) (fun y _ => ys.length - (intOf y).toNat)
        case atStart => exact ⟨0, rfl, Nat.zero_le _, HD5, HK5, HN5⟩
        case round =>
          clear HD5 HK5 HN5 q1
          obtain ⟨i, rfl, hil, HD, HK, HN9⟩ := hrel
          by_cases hlt2 : i < ys.length
          · have i6 : (i : Int) < (ys.length : Int) := by omega
            obtain ⟨n2, hn2e⟩ : ∃ n2, n2 = k + i := ⟨_, rfl⟩
            have hwn2 : IntKind.wrap .i64 ((k : Int) + (i : Int)) = (n2 : Int) := by rw [hn2e]; exact wrap64 k i (by omega)
            have i7 : (n2 : Int) < (xs.length : Int) := by omega
            have hdd := HD.out.drew
            have hko : KeepsOthers W wr.drew := HK.out.trans (KeepsOthers.drew wr)
            have hn9 : wr.drew.heap[h9 + 1]? = W.heap[h9 + 1]? := HN9.out
            obtain ⟨wd, hwd⟩ : ∃ wd, wd = wr.drew := ⟨_, rfl⟩
            rw [← hwd] at hdd hko hn9
            have HWD := Lib.hid hwd
            clear hwd
            obtain ⟨y, hy⟩ : ∃ y, y = ys.getD i 0 := ⟨_, rfl⟩
            have ry := HU'.out.at i
            rw [← hy] at ry
            have q0 : wr.cell? ⟨b2, off2 + i, none⟩ = some (.int .u16 y) := by rw [hy]; exact (HD.out.2.2.2.2.2.2.2.1.cell (p := ⟨b2, off2 + i, none⟩) hlb2h).trans (HCL3.out i hlt2)
            obtain ⟨s, hs⟩ : ∃ s, s = F n2 := ⟨_, rfl⟩
            have rs := hfu n2
            rw [← hs] at rs
            obtain ⟨pd, hpd⟩ : ∃ pd, pd = mulI y q := ⟨_, rfl⟩
            have rpd := mulI_u y q ry.2 r4.2
            rw [← hpd] at rpd
            obtain ⟨z, hz⟩ : ∃ z, z = xorI s pd := ⟨_, rfl⟩
            have hc3 : ∀ u : World, Calls Try.prog 124 #[.int .u16 y, .int .u16 q] u fun e u' => e = .returned (.int .u16 pd) ∧ u' = u := by rw [hpd]; exact fun u => times_v y q ry.1 ry.2 r4.1 r4.2 u
            have hc4 : ∀ u : World, Calls Try.prog 123 #[.int .u16 s, .int .u16 pd] u fun e u' => e = .returned (.int .u16 z) ∧ u' = u := by rw [hz]; exact fun u => plus_v s pd rs.1 rs.2 rpd.1 rpd.2 u
            have HC3 := Lib.hid hc3
            have HC4 := Lib.hid hc4
            have q1 : wd.cell? ⟨h9, 0, none⟩ = _ := hdd.2.2.2.2.1.cell
            have q2 : wd.cell? ⟨hr, 0, none⟩ = _ := hdd.2.2.2.1.cell
            have q3 : wd.cell? ⟨hr + 1, k, none⟩ = some (.int .u16 q) := by
              have e := hdd.2.2.2.2.2.1.tabcell k hkm
              rw [tab_at _ _ _ hkm] at e
              unfold put at e
              rw [if_pos rfl] at e
              exact e
            have q4 : wd.cell? ⟨g1, n2, none⟩ = some (.int .u16 s) := by
              have e := own_cell hdd.2.2.2.2.2.2.1 (tab_len _ _) n2 (by omega)
              rw [tab_at _ _ _ (by omega), hn2e, divIn_at, ← hn2e, ← hs] at e
              exact e
            have q5 : wd.frozen? ⟨g1, n2, none⟩ = false := hdd.2.2.2.2.2.2.1.frozenAt n2
            have hset := hdd.setR (by omega) hg1b (by omega) n2 z
            have hpp : put (divIn ys k q F i) n2 z = divIn ys k q F (i + 1) := by rw [← divIn_put, ← hy, mulI_comm, ← hpd, ← hn2e, ← hs, ← hz]
            rw [hpp] at hset
            have HSET := Lib.hid hset
            have HKO := Lib.hid (hko.trans (KeepsOthers.setCell wd ⟨g1, n2, none⟩ (.int .u16 z)))
            have HN10 : Hid ((wd.setCell ⟨g1, n2, none⟩ (.int .u16 z)).heap[h9 + 1]? = W.heap[h9 + 1]?) := Lib.hid ((Below.heap_setCell _ _ _ _ (by show h9 + 1 ≠ g1; omega)).trans hn9)
            clear hdd hko hn9 hy hs hpd hz hc3 hc4 hset hpp hn2e HD HK HN9
            gi_wp2
            refine region_round ?_ (fun w' => DB w hh hr h9 (.slice (some ⟨b2, off2, none⟩) ys.length c') p iv (some ⟨g1, 0, none⟩) xs.length c1 m (divIn ys k q F (i + 1)) (put T k q) w' ∧ KeepsOthers W w' ∧ w'.heap[h9 + 1]? = W.heap[h9 + 1]?) (fun u => u.cell? ⟨hr, 0, none⟩ = some (.slice (some ⟨g1, 0, none⟩) xs.length c1) ∧ u.cell? ⟨h9, 0, none⟩ = some (.slice (some ⟨hr + 1, 0, none⟩) m m) ∧ u.cell? ⟨hr + 1, k, none⟩ = some (.int .u16 q) ∧ True ∧ True) (by kernel_rfl) (by kernel_rfl) ?_ (fun hS => ?_) ?_
            rotate_left 1
            · rw [← HWD.out]; exact ⟨q2, q1, q3, trivial, trivial⟩
            · rw [← HWD.out] at hS ⊢
              refine takeH (i := 0) (v := ?vX0B) rfl rfl (by kernel_rfl) (by kernel_rfl) (by kernel_rfl) (fun _ _ _ h => h) rfl ?hyX0B hS ?rsX0B
              case hyX0B => (intro wq hq; obtain ⟨s1, s2, s3, s4, s5⟩ := hq; go_simp; try (with_reducible rfl))
              simp only [Act.put, List.setIfInBounds_toArray, List.set_cons_zero, List.set_cons_succ]
              refine takeH (i := 1) (v := ?vX1B) rfl rfl (by kernel_rfl) (by kernel_rfl) (by kernel_rfl) (fun _ _ _ h => h) rfl ?hyX1B hS ?rsX1B
              case hyX1B => (intro wq hq; obtain ⟨s1, s2, s3, s4, s5⟩ := hq; go_simp; try (with_reducible rfl))
              simp only [Act.put, List.setIfInBounds_toArray, List.set_cons_zero, List.set_cons_succ]
              refine takeH (i := 2) (v := ?vX2B) rfl rfl (by kernel_rfl) (by kernel_rfl) (by kernel_rfl) (fun _ _ _ h => h) rfl ?hyX2B hS ?rsX2B
              case hyX2B => (intro wq hq; obtain ⟨s1, s2, s3, s4, s5⟩ := hq; go_simp; try (with_reducible rfl))
              simp only [Act.put, List.setIfInBounds_toArray, List.set_cons_zero, List.set_cons_succ]
              refine takeH (i := 3) (v := ?vX3B) rfl rfl (by kernel_rfl) (by kernel_rfl) (by kernel_rfl) (fun _ _ _ h => h) rfl ?hyX3B hS ?rsX3B
              case hyX3B => (intro wq hq; obtain ⟨s1, s2, s3, s4, s5⟩ := hq; go_simp; try (with_reducible rfl))
              simp only [Act.put, List.setIfInBounds_toArray, List.set_cons_zero, List.set_cons_succ]
              refine takeH (i := 4) (v := ?vX4B) rfl rfl (by kernel_rfl) (by kernel_rfl) (by kernel_rfl) (fun _ _ _ h => h) rfl ?hyX4B hS ?rsX4B
              case hyX4B => (intro wq hq; obtain ⟨s1, s2, s3, s4, s5⟩ := hq; go_simp; try (with_reducible rfl))
              simp only [Act.put, List.setIfInBounds_toArray, List.set_cons_zero, List.set_cons_succ]
              refine takeH (i := 5) (v := ?vX5B) rfl rfl (by kernel_rfl) (by kernel_rfl) (by kernel_rfl) (fun _ _ _ h => h) rfl ?hyX5B hS ?rsX5B
              case hyX5B => (intro wq hq; obtain ⟨s1, s2, s3, s4, s5⟩ := hq; go_simp; try (with_reducible rfl))
              simp only [Act.put, List.setIfInBounds_toArray, List.set_cons_zero, List.set_cons_succ]
              refine takeH (i := 6) (v := ?vX6B) rfl rfl (by kernel_rfl) (by kernel_rfl) (by kernel_rfl) (fun _ _ _ h => h) rfl ?hyX6B hS ?rsX6B
              case hyX6B => (intro wq hq; obtain ⟨s1, s2, s3, s4, s5⟩ := hq; go_simp; try (with_reducible rfl))
              simp only [Act.put, List.setIfInBounds_toArray, List.set_cons_zero, List.set_cons_succ]
              refine takeH (i := 7) (v := ?vX7B) rfl rfl (by kernel_rfl) (by kernel_rfl) (by kernel_rfl) (fun _ _ _ h => h) rfl ?hyX7B hS ?rsX7B
              case hyX7B => (intro wq hq; obtain ⟨s1, s2, s3, s4, s5⟩ := hq; go_simp; try (with_reducible rfl))
              simp only [Act.put, List.setIfInBounds_toArray, List.set_cons_zero, List.set_cons_succ]
              refine takeH (i := 8) (v := ?vX8B) rfl rfl (by kernel_rfl) (by kernel_rfl) (by kernel_rfl) (fun _ _ _ h => h) rfl ?hyX8B hS ?rsX8B
              case hyX8B => (intro wq hq; obtain ⟨s1, s2, s3, s4, s5⟩ := hq; go_simp; try (with_reducible rfl))
              simp only [Act.put, List.setIfInBounds_toArray, List.set_cons_zero, List.set_cons_succ]
              refine takeH (i := 11) (v := ?vX11B) rfl rfl (by kernel_rfl) (by kernel_rfl) (by kernel_rfl) (fun _ _ _ h => h) rfl ?hyX11B hS ?rsX11B
              case hyX11B => (intro wq hq; obtain ⟨s1, s2, s3, s4, s5⟩ := hq; go_simp; try (with_reducible rfl))
              simp only [Act.put, List.setIfInBounds_toArray, List.set_cons_zero, List.set_cons_succ]
              refine takeH (i := 12) (v := ?vX12B) rfl rfl (by kernel_rfl) (by kernel_rfl) (by kernel_rfl) (fun _ _ _ h => h) rfl ?hyX12B hS ?rsX12B
              case hyX12B => (intro wq hq; obtain ⟨s1, s2, s3, s4, s5⟩ := hq; go_simp; try (with_reducible rfl))
              simp only [Act.put, List.setIfInBounds_toArray, List.set_cons_zero, List.set_cons_succ]
              refine takeH (i := 13) (v := ?vX13B) rfl rfl (by kernel_rfl) (by kernel_rfl) (by kernel_rfl) (fun _ _ _ h => h) rfl ?hyX13B hS ?rsX13B
              case hyX13B => (intro wq hq; obtain ⟨s1, s2, s3, s4, s5⟩ := hq; go_simp; try (with_reducible rfl))
              simp only [Act.put, List.setIfInBounds_toArray, List.set_cons_zero, List.set_cons_succ]
              refine takeH (i := 14) (v := ?vX14B) rfl rfl (by kernel_rfl) (by kernel_rfl) (by kernel_rfl) (fun _ _ _ h => h) rfl ?hyX14B hS ?rsX14B
              case hyX14B => (intro wq hq; obtain ⟨s1, s2, s3, s4, s5⟩ := hq; go_simp; try (with_reducible rfl))
              simp only [Act.put, List.setIfInBounds_toArray, List.set_cons_zero, List.set_cons_succ]
              refine takeH (i := 15) (v := ?vX15B) rfl rfl (by kernel_rfl) (by kernel_rfl) (by kernel_rfl) (fun _ _ _ h => h) rfl ?hyX15B hS ?rsX15B
              case hyX15B => (intro wq hq; obtain ⟨s1, s2, s3, s4, s5⟩ := hq; go_simp; try (with_reducible rfl))
              simp only [Act.put, List.setIfInBounds_toArray, List.set_cons_zero, List.set_cons_succ]
              refine takeH (i := 16) (v := ?vX16B) rfl rfl (by kernel_rfl) (by kernel_rfl) (by kernel_rfl) (fun _ _ _ h => h) rfl ?hyX16B hS ?rsX16B
              case hyX16B => (intro wq hq; obtain ⟨s1, s2, s3, s4, s5⟩ := hq; go_simp; try (with_reducible rfl))
              simp only [Act.put, List.setIfInBounds_toArray, List.set_cons_zero, List.set_cons_succ]
              refine wpAnyH_ready (rs := [9, 17]) (by kernel_rfl) (by simp) ?_
              refine AllReadyH.cons rfl (fun K hK => ?_) (AllReadyH.cons rfl (fun K hK => ?_) AllReadyH.nil)
              · skip
                go_simp
                refine hK.out _ _ hS (fun hS => ?_)
                clear hK
                try simp only [Act.put, List.setIfInBounds_toArray, List.set_cons_zero, List.set_cons_succ]
                refine takeH (i := 10) (v := ?vXL10B) rfl rfl (by kernel_rfl) (by kernel_rfl) (by kernel_rfl) (fun _ _ _ h => h) rfl ?hyXL10B hS ?rsXL10B
                case hyXL10B => (intro wq hq; obtain ⟨s1, s2, s3, s4, s5⟩ := hq; go_simp; try (with_reducible rfl))
                simp only [Act.put, List.setIfInBounds_toArray, List.set_cons_zero, List.set_cons_succ]
                refine wpAnyH_ready (rs := [17]) (by kernel_rfl) (by simp) ?_
                refine AllReadyH.cons rfl (fun K hK => ?_) AllReadyH.nil
                go_simp
                refine (HC3.out _).mono ?_
                rintro e wn ⟨rfl, hw⟩
                obtain rfl := hw.symm
                refine hK.out _ _ hS (fun hS => ?_)
                clear hK
                try simp only [Act.put, List.setIfInBounds_toArray, List.set_cons_zero, List.set_cons_succ]
                refine wpAnyH_ready (rs := [18]) (by kernel_rfl) (by simp) ?_
                refine AllReadyH.cons rfl (fun K hK => ?_) AllReadyH.nil
                go_simp
                refine (HC4.out _).mono ?_
                rintro e wn ⟨rfl, hw⟩
                obtain rfl := hw.symm
                refine hK.out _ _ hS (fun hS => ?_)
                clear hK
                try simp only [Act.put, List.setIfInBounds_toArray, List.set_cons_zero, List.set_cons_succ]
                refine takeH (i := 19) (v := ?vXL19B) rfl rfl (by kernel_rfl) (by kernel_rfl) (by kernel_rfl) (fun _ _ _ h => h) rfl ?hyXL19B hS ?rsXL19B
                case hyXL19B => (intro wq hq; obtain ⟨s1, s2, s3, s4, s5⟩ := hq; go_simp; try (with_reducible rfl))
                simp only [Act.put, List.setIfInBounds_toArray, List.set_cons_zero, List.set_cons_succ]
                refine wpAnyH_ready (rs := [20]) (by kernel_rfl) (by simp) ?_
                refine AllReadyH.cons rfl (fun K hK => ?_) AllReadyH.nil
                go_simp
                refine hK.out _ _ ⟨cell_far (by omega) hS.1, cell_far (by omega) hS.2.1, cell_far (by omega) hS.2.2.1, trivial, trivial⟩ (fun hS => ?_)
                clear hK
                refine wpAnyH_done (by kernel_rfl) ?_ _
                refine ⟨?_, HSET.out, HKO.out, HN10.out⟩
                with_unfolding_all rfl
              · skip
                go_simp
                refine (HC3.out _).mono ?_
                rintro e wn ⟨rfl, hw⟩
                obtain rfl := hw.symm
                refine hK.out _ _ hS (fun hS => ?_)
                clear hK
                try simp only [Act.put, List.setIfInBounds_toArray, List.set_cons_zero, List.set_cons_succ]
                refine wpAnyH_ready (rs := [9]) (by kernel_rfl) (by simp) ?_
                refine AllReadyH.cons rfl (fun K hK => ?_) AllReadyH.nil
                go_simp
                refine hK.out _ _ hS (fun hS => ?_)
                clear hK
                try simp only [Act.put, List.setIfInBounds_toArray, List.set_cons_zero, List.set_cons_succ]
                refine takeH (i := 10) (v := ?vXR10B) rfl rfl (by kernel_rfl) (by kernel_rfl) (by kernel_rfl) (fun _ _ _ h => h) rfl ?hyXR10B hS ?rsXR10B
                case hyXR10B => (intro wq hq; obtain ⟨s1, s2, s3, s4, s5⟩ := hq; go_simp; try (with_reducible rfl))
                simp only [Act.put, List.setIfInBounds_toArray, List.set_cons_zero, List.set_cons_succ]
                refine wpAnyH_ready (rs := [18]) (by kernel_rfl) (by simp) ?_
                refine AllReadyH.cons rfl (fun K hK => ?_) AllReadyH.nil
                go_simp
                refine (HC4.out _).mono ?_
                rintro e wn ⟨rfl, hw⟩
                obtain rfl := hw.symm
                refine hK.out _ _ hS (fun hS => ?_)
                clear hK
                try simp only [Act.put, List.setIfInBounds_toArray, List.set_cons_zero, List.set_cons_succ]
                refine takeH (i := 19) (v := ?vXR19B) rfl rfl (by kernel_rfl) (by kernel_rfl) (by kernel_rfl) (fun _ _ _ h => h) rfl ?hyXR19B hS ?rsXR19B
                case hyXR19B => (intro wq hq; obtain ⟨s1, s2, s3, s4, s5⟩ := hq; go_simp; try (with_reducible rfl))
                simp only [Act.put, List.setIfInBounds_toArray, List.set_cons_zero, List.set_cons_succ]
                refine wpAnyH_ready (rs := [20]) (by kernel_rfl) (by simp) ?_
                refine AllReadyH.cons rfl (fun K hK => ?_) AllReadyH.nil
                go_simp
                refine hK.out _ _ ⟨cell_far (by omega) hS.1, cell_far (by omega) hS.2.1, cell_far (by omega) hS.2.2.1, trivial, trivial⟩ (fun hS => ?_)
                clear hK
                refine wpAnyH_done (by kernel_rfl) ?_ _
                refine ⟨?_, HSET.out, HKO.out, HN10.out⟩
                with_unfolding_all rfl
            · clear HSET HKO HN10 q0 q1 q2 q3 q4 q5 HWD HC3 HC4
              rintro w6 ⟨hD6, hK6, hN6⟩
              have HD6 := Lib.hid hD6
              have HK6 := Lib.hid hK6
              have HN6 := Lib.hid hN6
              clear hD6 hK6 hN6
              gi_wp2
              go_roundw
              case rel => exact ⟨i + 1, by go_num, by omega, HD6, HK6, HN6⟩
              case measure => simp [intOf]; omega
          · obtain rfl : i = ys.length := by omega
            gi_wp2
            refine ⟨HK.out.from _, ⟨HN9.out, fun _ => ⟨_, tab_len _ _, tab_in fun s _ => put_u htu k r4 s, HD.out.2.2.2.2.2.1⟩⟩, ?_⟩
            have e9 := HD.out
            show DB w hh hr h9 _ p iv _ xs.length c1 m (divS xs ys m (pre ++ [pr])).1 (divS xs ys m (pre ++ [pr])).2 wr
            rw [HSN.out]
            exact e9
    case doneB =>
      rintro D zs W hDs hzs hDB hKD
      obtain ⟨e1, e2⟩ := divS_end xs ys m m (Nat.le_refl _) zs hzs
      rw [e1] at hDB
      have hrq := hDB.2.2.2.2.2.1
      rw [e2] at hrq
      have q1 : W.cell? ⟨hh + 1, 0, none⟩ = _ := hDB.2.1.cell
      have HDB := Lib.hid hDB
      have HRQ := Lib.hid hrq
      have HKD := Lib.hid hKD
      have hcc : xs.length ≤ c1 := by
        obtain ⟨A9, c9, e9, h9', _⟩ := (PO.of_own hDB.2.2.2.2.2.2.1 (tab_len _ _) (tab_in fun s _ => divR_u HU.out HU'.out m m s)).form
        obtain ⟨_, _, rfl⟩ := Value.slice.inj e9
        rw [tab_len] at h9'
        exact h9'
      have p1 : W.drew.cell? ⟨h9, 0, none⟩ = _ := hDB.2.2.2.2.1.cell
      have p2 : W.drew.cell? ⟨hr, 0, none⟩ = _ := hDB.2.2.2.1.cell
      clear e1 e2 hDB hrq hKD hzs
      gi_wp2
      · obtain ⟨lf, hlf⟩ : ∃ lf, lf = p := ⟨_, rfl⟩
        have hlc : lf ≤ c1 := by omega
        have hln : lf ≤ xs.length := by omega
        have hle' : lf = if xs.length < ys.length then xs.length else ys.length - 1 := by rw [if_neg (by omega)]; omega
        have hlc2 : (lf : Int) ≤ (c1 : Int) := by omega
        rw [← hlf]
        have HLE := Lib.hid hle'
        have HLN := Lib.hid hln
        clear hle' hlf hln
        refine region_wide ?_ (fun w' => w' = W.drew) (fun u => u.cell? ⟨h9, 0, none⟩ = some (.slice (some ⟨hr + 1, 0, none⟩) m m) ∧ u.cell? ⟨hr, 0, none⟩ = some (.slice A1 xs.length c1) ∧ True ∧ True ∧ True) (by kernel_rfl) ?_ (fun hS => ?_) ?_
        rotate_left 1
        · exact ⟨p1, p2, trivial, trivial, trivial⟩
        · skip
          refine takeH (i := 0) (v := ?vWb0B) rfl rfl (by kernel_rfl) (by kernel_rfl) (by kernel_rfl) (fun _ _ _ h => h) rfl ?hyWb0B hS ?rsWb0B
          case hyWb0B => (intro wq hq; obtain ⟨s1, s2, s3, s4, s5⟩ := hq; go_simp; try (with_reducible rfl))
          simp only [Act.put, List.setIfInBounds_toArray, List.set_cons_zero, List.set_cons_succ]
          refine takeH (i := 1) (v := ?vWb1B) rfl rfl (by kernel_rfl) (by kernel_rfl) (by kernel_rfl) (fun _ _ _ h => h) rfl ?hyWb1B hS ?rsWb1B
          case hyWb1B => (intro wq hq; obtain ⟨s1, s2, s3, s4, s5⟩ := hq; go_simp; try (with_reducible rfl))
          simp only [Act.put, List.setIfInBounds_toArray, List.set_cons_zero, List.set_cons_succ]
          refine takeH (i := 2) (v := ?vWb2B) rfl rfl (by kernel_rfl) (by kernel_rfl) (by kernel_rfl) (fun _ _ _ h => h) rfl ?hyWb2B hS ?rsWb2B
          case hyWb2B => (intro wq hq; obtain ⟨s1, s2, s3, s4, s5⟩ := hq; go_simp; try (with_reducible rfl))
          simp only [Act.put, List.setIfInBounds_toArray, List.set_cons_zero, List.set_cons_succ]
          refine takeH (i := 3) (v := ?vWb3B) rfl rfl (by kernel_rfl) (by kernel_rfl) (by kernel_rfl) (fun _ _ _ h => h) rfl ?hyWb3B hS ?rsWb3B
          case hyWb3B => (intro wq hq; obtain ⟨s1, s2, s3, s4, s5⟩ := hq; go_simp; try (with_reducible rfl))
          simp only [Act.put, List.setIfInBounds_toArray, List.set_cons_zero, List.set_cons_succ]
          refine takeH (i := 4) (v := ?vWb4B) rfl rfl (by kernel_rfl) (by kernel_rfl) (by kernel_rfl) (fun _ _ _ h => h) rfl ?hyWb4B hS ?rsWb4B
          case hyWb4B => (intro wq hq; obtain ⟨s1, s2, s3, s4, s5⟩ := hq; go_simp; try (with_reducible rfl))
          simp only [Act.put, List.setIfInBounds_toArray, List.set_cons_zero, List.set_cons_succ]
          refine takeH (i := 5) (v := ?vWb5B) rfl rfl (by kernel_rfl) (by kernel_rfl) (by kernel_rfl) (fun _ _ _ h => h) rfl ?hyWb5B hS ?rsWb5B
          case hyWb5B => (intro wq hq; obtain ⟨s1, s2, s3, s4, s5⟩ := hq; go_simp; try (with_reducible rfl))
          simp only [Act.put, List.setIfInBounds_toArray, List.set_cons_zero, List.set_cons_succ]
          refine takeH (i := 6) (v := ?vWb6B) rfl rfl (by kernel_rfl) (by kernel_rfl) (by kernel_rfl) (fun _ _ _ h => h) rfl ?hyWb6B hS ?rsWb6B
          case hyWb6B => (intro wq hq; obtain ⟨s1, s2, s3, s4, s5⟩ := hq; go_simp; try (with_reducible rfl))
          simp only [Act.put, List.setIfInBounds_toArray, List.set_cons_zero, List.set_cons_succ]
          refine wpAnyH_done (by kernel_rfl) ?_ _
          refine ⟨?_, rfl⟩
          with_unfolding_all rfl
        · rintro w6 rfl
          gi_wp2
          have d := HDB.out.drew
          have kd : W.drew.heap[D]? = some (.deferred (some [])) := HKD.out
          have n1 : D ≠ hr + 1 := by omega
          refine ⟨by simp, .inl ⟨_, _, rfl, run_takeDeferred kd, ?_⟩⟩
          refine ⟨_, results_tmp2 rfl _ _ _, _, _, rfl, ?_, ?_, ?_, ?_⟩
          · have r1 : RW (W.drew.putObj D (.deferred none)) (hr + 1) (tab m (divT xs ys m m)) := (World.putObj_heap_other (by omega)).trans HRQ.out
            have r2 := r1.po (B := w.heap.size) (tab_in fun s _ => divT_u HU.out HU'.out m m s) (by rw [← HHE.out]; omega) (by rw [tab_len]; unfold maxLen; omega)
            rw [tab_len] at r2
            rw [pQuo_tab, ← HMQ.out]
            exact r2
          · have r1 := ownsRow_putObj d.2.2.2.2.2.2.1 (.deferred none) kd rfl
            have r2 := (PO.of_own r1 (tab_len _ _) (tab_in fun s _ => divR_u HU.out HU'.out m m s)).cut lf (by rw [tab_len]; exact HLN.out)
            have r3 := r2.lower (B' := w.heap.size) (by rw [← HHE.out]; omega)
            unfold pLeft
            rw [← HMQ.out, ← HLE.out]
            exact r3
          · rw [← HHE.out]
            exact d.2.2.2.2.2.2.2.1.trans (belowK_b (w := w0) (by omega) W.drew D _ _ hDs kd rfl rfl)
          · intro hl0 hr0 k0 hk1 hk2
            obtain ⟨g1, e1, _, e3⟩ := HA1.out (Nat.lt_of_lt_of_le hr0 (pLeft_len xs ys))
            rw [← HHR.out] at e3
            have hk1' : (Value.slice (some ⟨hr + 1, 0, none⟩) m m).ownBlock = some k0 := hk1
            have hk2' : (Value.slice A1 lf lf).ownBlock = some k0 := hk2
            rw [e1] at hk2'
            simp [Value.ownBlock] at hk1' hk2'
            omega
      · obtain ⟨lf, hlf⟩ : ∃ lf, lf = xs.length := ⟨_, rfl⟩
        have hlc : lf ≤ c1 := by omega
        have hln : lf ≤ xs.length := by omega
        have hle' : lf = if xs.length < ys.length then xs.length else ys.length - 1 := by rw [if_pos (by omega)]; omega
        have hlc2 : (lf : Int) ≤ (c1 : Int) := by omega
        rw [← hlf]
        have HLE := Lib.hid hle'
        have HLN := Lib.hid hln
        clear hle' hlf hln
        refine region_wide ?_ (fun w' => w' = W.drew) (fun u => u.cell? ⟨h9, 0, none⟩ = some (.slice (some ⟨hr + 1, 0, none⟩) m m) ∧ u.cell? ⟨hr, 0, none⟩ = some (.slice A1 xs.length c1) ∧ True ∧ True ∧ True) (by kernel_rfl) ?_ (fun hS => ?_) ?_
        rotate_left 1
        · exact ⟨p1, p2, trivial, trivial, trivial⟩
        · skip
          refine takeH (i := 0) (v := ?vWc0B) rfl rfl (by kernel_rfl) (by kernel_rfl) (by kernel_rfl) (fun _ _ _ h => h) rfl ?hyWc0B hS ?rsWc0B
          case hyWc0B => (intro wq hq; obtain ⟨s1, s2, s3, s4, s5⟩ := hq; go_simp; try (with_reducible rfl))
          simp only [Act.put, List.setIfInBounds_toArray, List.set_cons_zero, List.set_cons_succ]
          refine takeH (i := 1) (v := ?vWc1B) rfl rfl (by kernel_rfl) (by kernel_rfl) (by kernel_rfl) (fun _ _ _ h => h) rfl ?hyWc1B hS ?rsWc1B
          case hyWc1B => (intro wq hq; obtain ⟨s1, s2, s3, s4, s5⟩ := hq; go_simp; try (with_reducible rfl))
          simp only [Act.put, List.setIfInBounds_toArray, List.set_cons_zero, List.set_cons_succ]
          refine takeH (i := 2) (v := ?vWc2B) rfl rfl (by kernel_rfl) (by kernel_rfl) (by kernel_rfl) (fun _ _ _ h => h) rfl ?hyWc2B hS ?rsWc2B
          case hyWc2B => (intro wq hq; obtain ⟨s1, s2, s3, s4, s5⟩ := hq; go_simp; try (with_reducible rfl))
          simp only [Act.put, List.setIfInBounds_toArray, List.set_cons_zero, List.set_cons_succ]
          refine takeH (i := 3) (v := ?vWc3B) rfl rfl (by kernel_rfl) (by kernel_rfl) (by kernel_rfl) (fun _ _ _ h => h) rfl ?hyWc3B hS ?rsWc3B
          case hyWc3B => (intro wq hq; obtain ⟨s1, s2, s3, s4, s5⟩ := hq; go_simp; try (with_reducible rfl))
          simp only [Act.put, List.setIfInBounds_toArray, List.set_cons_zero, List.set_cons_succ]
          refine takeH (i := 4) (v := ?vWc4B) rfl rfl (by kernel_rfl) (by kernel_rfl) (by kernel_rfl) (fun _ _ _ h => h) rfl ?hyWc4B hS ?rsWc4B
          case hyWc4B => (intro wq hq; obtain ⟨s1, s2, s3, s4, s5⟩ := hq; go_simp; try (with_reducible rfl))
          simp only [Act.put, List.setIfInBounds_toArray, List.set_cons_zero, List.set_cons_succ]
          refine takeH (i := 5) (v := ?vWc5B) rfl rfl (by kernel_rfl) (by kernel_rfl) (by kernel_rfl) (fun _ _ _ h => h) rfl ?hyWc5B hS ?rsWc5B
          case hyWc5B => (intro wq hq; obtain ⟨s1, s2, s3, s4, s5⟩ := hq; go_simp; try (with_reducible rfl))
          simp only [Act.put, List.setIfInBounds_toArray, List.set_cons_zero, List.set_cons_succ]
          refine takeH (i := 6) (v := ?vWc6B) rfl rfl (by kernel_rfl) (by kernel_rfl) (by kernel_rfl) (fun _ _ _ h => h) rfl ?hyWc6B hS ?rsWc6B
          case hyWc6B => (intro wq hq; obtain ⟨s1, s2, s3, s4, s5⟩ := hq; go_simp; try (with_reducible rfl))
          simp only [Act.put, List.setIfInBounds_toArray, List.set_cons_zero, List.set_cons_succ]
          refine wpAnyH_done (by kernel_rfl) ?_ _
          refine ⟨?_, rfl⟩
          with_unfolding_all rfl
        · rintro w6 rfl
          gi_wp2
          have d := HDB.out.drew
          have kd : W.drew.heap[D]? = some (.deferred (some [])) := HKD.out
          have n1 : D ≠ hr + 1 := by omega
          refine ⟨by simp, .inl ⟨_, _, rfl, run_takeDeferred kd, ?_⟩⟩
          refine ⟨_, results_tmp2 rfl _ _ _, _, _, rfl, ?_, ?_, ?_, ?_⟩
          · have r1 : RW (W.drew.putObj D (.deferred none)) (hr + 1) (tab m (divT xs ys m m)) := (World.putObj_heap_other (by omega)).trans HRQ.out
            have r2 := r1.po (B := w.heap.size) (tab_in fun s _ => divT_u HU.out HU'.out m m s) (by rw [← HHE.out]; omega) (by rw [tab_len]; unfold maxLen; omega)
            rw [tab_len] at r2
            rw [pQuo_tab, ← HMQ.out]
            exact r2
          · have r1 := ownsRow_putObj d.2.2.2.2.2.2.1 (.deferred none) kd rfl
            have r2 := (PO.of_own r1 (tab_len _ _) (tab_in fun s _ => divR_u HU.out HU'.out m m s)).cut lf (by rw [tab_len]; exact HLN.out)
            have r3 := r2.lower (B' := w.heap.size) (by rw [← HHE.out]; omega)
            unfold pLeft
            rw [← HMQ.out, ← HLE.out]
            exact r3
          · rw [← HHE.out]
            exact d.2.2.2.2.2.2.2.1.trans (belowK_b (w := w0) (by omega) W.drew D _ _ hDs kd rfl rfl)
          · intro hl0 hr0 k0 hk1 hk2
            obtain ⟨g1, e1, _, e3⟩ := HA1.out (Nat.lt_of_lt_of_le hr0 (pLeft_len xs ys))
            rw [← HHR.out] at e3
            have hk1' : (Value.slice (some ⟨hr + 1, 0, none⟩) m m).ownBlock = some k0 := hk1
            have hk2' : (Value.slice A1 lf lf).ownBlock = some k0 := hk2
            rw [e1] at hk2'
            simp [Value.ownBlock] at hk1' hk2'
            omega
    case stopB =>
      rintro D c pre W _ _ h _
      exact h.elim
theorem divide_any (v u : Value) (xs ys : List Int) (hn : xs.length ≤ 1000) (hn2 : ys.length ≤ 1000) (w : World) (h : NC w v xs) (h' : NC w u ys)
    (hn1 : 1 ≤ ys.length) (ht : ys.getD (ys.length - 1) 0 ≠ 0) :
    Calls Try.prog 143 #[v, u] w fun e w' => ∃ q r, e = .returned (.tuple #[q, r]) ∧ PO w' w.heap.size q (pQuo xs ys) ∧ PO w' w.heap.size r (pLeft xs ys) ∧ Below w.heap.size w w' :=
  (divide_sep v u xs ys hn hn2 w h h' hn1 ht).mono fun e w' ⟨q, r, a, b, c, d, _⟩ => ⟨q, r, a, b, c, d⟩
end Go.Proofs.Ytnpadkkjaeblfaa
