/-
  KernelOf.
-/
import Derived.Test.YtjbaeomjinnlhaaOk2
import Derived.Deep.RegionHeld
import Derived.Test.YtjbaeomjinnlhaaInvM
import Derived.Deep.AppendLies
import Derived.Great.Walk
import Derived.Test.YtjbaeomjinnlhaaShelf
namespace Go.Proofs.Ytjbaeomjinnlhaa
set_option linter.unusedVariables false
set_option linter.unusedSimpArgs false
open Go.ChangeShapes Go.WideShapes Go.ChangeAt Go.RowKit

def kv (fs : List Nat) (G : Nat → Int) (col : Nat) : Nat → (Nat → Int)
  | 0 => unitF col
  | n + 1 => upd (kv fs G col n) fs[n]! (G (n * 6 + col))
theorem kv_b {fs : List Nat} {G : Nat → Int} (h : VW G) (col : Nat) : ∀ n, VW (kv fs G col n)
  | 0 => unitF_b col
  | n + 1 => upd_b (kv_b h col n) _ (h _).1 (h _).2
def kerL (fs : List Nat) (G : Nat → Int) : Nat → List (Nat → Int)
  | 0 => []
  | n + 1 => if n ∈ fs then kerL fs G n else kerL fs G n ++ [kv fs G n fs.length]
theorem kerL_in {fs : List Nat} {G : Nat → Int} {n : Nat} (h : n ∈ fs) : kerL fs G (n + 1) = kerL fs G n := by
  show (if n ∈ fs then kerL fs G n else kerL fs G n ++ [kv fs G n fs.length]) = _
  rw [if_pos h]
theorem kerL_out {fs : List Nat} {G : Nat → Int} {n : Nat} (h : n ∉ fs) : kerL fs G (n + 1) = kerL fs G n ++ [kv fs G n fs.length] := by
  show (if n ∈ fs then kerL fs G n else kerL fs G n ++ [kv fs G n fs.length]) = _
  rw [if_neg h]
theorem kerL_len (fs : List Nat) (G : Nat → Int) : ∀ n, (kerL fs G n).length ≤ n
  | 0 => Nat.le_refl 0
  | n + 1 => by
    have ih := kerL_len fs G n
    by_cases h : n ∈ fs
    · rw [kerL_in h]; omega
    · rw [kerL_out h, List.length_append]; show (kerL fs G n).length + 1 ≤ n + 1; omega
theorem kerL_b {fs : List Nat} {G : Nat → Int} (h : VW G) : ∀ n, ∀ x ∈ kerL fs G n, VW x
  | 0, x, hx => by cases hx
  | n + 1, x, hx => by
    by_cases e : n ∈ fs
    · rw [kerL_in e] at hx; exact kerL_b h n x hx
    · rw [kerL_out e] at hx
      rcases List.mem_append.1 hx with h1 | h1
      · exact kerL_b h n x h1
      · rw [List.mem_singleton.1 h1]; exact kv_b h _ _
/-- the cells of a list of vectors -/
def vecs (l : List (Nat → Int)) : List Value := l.flatMap (TL 6)
theorem vecs_len : ∀ l : List (Nat → Int), (vecs l).length = l.length * 6
  | [] => rfl
  | x :: l => by unfold vecs; rw [List.flatMap_cons, List.length_append, TL_len]; have := vecs_len l; unfold vecs at this; rw [this, List.length_cons]; omega
theorem vecs_snoc (l : List (Nat → Int)) (x : Nat → Int) : vecs l ++ TL 6 x = vecs (l ++ [x]) := by unfold vecs; rw [List.flatMap_append, List.flatMap_cons, List.flatMap_nil, List.append_nil]
/-- what KernelOf answers -/
def kerOf (r c : Int) (f : Nat → Int) : List (Nat → Int) := if okB r c f = true then kerL (leadsF (redF f r.toNat) 6) (redF f r.toNat) c.toNat else []
def kerC (r c : Int) (f : Nat → Int) : Int := if okB r c f = true then 0 else 1
theorem kerOf_len (r c : Int) (f : Nat → Int) : (kerOf r c f).length ≤ 6 := by
  unfold kerOf
  split
  · rename_i h
    obtain ⟨R, C, rfl, rfl, _, hR, _, hC⟩ := ok_dims h
    exact Nat.le_trans (kerL_len _ _ _) (by show C ≤ 6; exact hC)
  · exact Nat.zero_le _
theorem kerOf_b (r c : Int) (f : Nat → Int) (hf : VW f) : ∀ x ∈ kerOf r c f, VW x := by
  unfold kerOf
  split
  · exact kerL_b (redF_b hf _) _
  · intro x hx; cases hx
theorem infoVec : (Try.prog.info? 45).map (fun i => (i.zero.map (fun z => z.cells.size), i.size, i.bytes)) = some (some 6, 6, 12) := by kernel_rfl
theorem vec_parts : ∃ i z, Try.prog.info? 45 = some i ∧ i.zero = some z ∧ i.size = 6 ∧ i.bytes = 12 ∧ z.cells.size = 6 := by
  have h := infoVec
  cases hi : Try.prog.info? 45 with
  | none => simp [hi] at h
  | some i =>
    cases hz : i.zero with
    | none => simp [hi, hz] at h
    | some z => simp [hi, hz] at h; exact ⟨i, z, rfl, hz, h.2.1, h.2.2, h.1⟩
theorem vec_cell (w : World) (x : Nat → Int) (t : TypeId) (j : Nat) (u : Value) (h : (TL 6 x)[j]? = some u) : (w.alloc (.cells (TL 6 x).toArray t)).cell? ((⟨w.heap.size, 0, none⟩ : Addr).add j) = some u :=
  World.news_of_block (heap_alloc_new w _) j u (by simpa using h)
theorem own_form {w : World} {base n : Nat} {e : TypeId} {size : Nat} {v : Value} {xs : List Value} (h : w.ownsRow base e size v n xs) : ∃ A c, v = .slice A n c ∧ (0 < n → ∃ g, A = some ⟨g, 0, none⟩ ∧ base ≤ g ∧ g < w.heap.size) := by
  rcases h.2 with ⟨rfl, rfl⟩ | ⟨g, cap, cur, rfl, h1, hg, _⟩
  · exact ⟨none, 0, rfl, fun x => by omega⟩
  · exact ⟨some ⟨g, 0, none⟩, cap, rfl, fun _ => ⟨g, rfl, h1, (Array.getElem?_eq_some_iff.1 hg).1⟩⟩
theorem RB.at {w : World} {g n : Nat} {t : TypeId} {f : Nat → Int} (h : RB w g t n f) {f' : Nat → Int} (e : f = f') : RB w g t n f' := e ▸ h

theorem own_low {w : World} {B B' : Nat} {e : TypeId} {s n : Nat} {v : Value} {xs : List Value} (h : w.ownsRow B e s v n xs) (hB : B' ≤ B) : w.ownsRow B' e s v n xs := by
  refine ⟨h.1, ?_⟩
  rcases h.2 with q | ⟨g, c, cur, q1, q2, q3⟩
  · exact .inl q
  · exact .inr ⟨g, c, cur, q1, Nat.le_trans hB q2, q3⟩
theorem own_other {w w' : World} {base g n cap : Nat} {e : TypeId} {size : Nat} {xs : List Value} (h : w.ownsRow base e size (.slice (some ⟨g, 0, none⟩) n cap) n xs) (hb : w'.heap[g]? = w.heap[g]?) : w'.ownsRow base e size (.slice (some ⟨g, 0, none⟩) n cap) n xs := by
  refine ⟨h.1, ?_⟩
  rcases h.2 with ⟨h1, h2⟩ | ⟨g2, cap2, cur, e2, h1, hg, rest⟩
  · exact .inl ⟨h1, h2⟩
  · cases e2
    exact .inr ⟨g, cap, cur, rfl, h1, hb.trans hg, rest⟩
theorem TL_mem {n : Nat} {f : Nat → Int} {u : Value} (h : u ∈ TL n f) : ∃ t, t < n ∧ u = .int .u16 (f t) := by
  unfold TL at h
  obtain ⟨t, ht, rfl⟩ := List.mem_map.1 h
  exact ⟨t, List.mem_range.1 ht, rfl⟩
theorem own_far {w w' : World} {base b n : Nat} {e : TypeId} {size : Nat} {v : Value} {xs : List Value} (h : w.ownsRow base e size v n xs) (hv : ∀ k, v.ownBlock = some k → k ≠ b) (hb : ∀ k, k ≠ b → w'.heap[k]? = w.heap[k]?) : w'.ownsRow base e size v n xs := by
  refine ⟨h.1, ?_⟩
  rcases h.2 with hn | ⟨g, cap, cur, rfl, h1, hg, rest⟩
  · exact .inl hn
  · exact .inr ⟨g, cap, cur, rfl, h1, (hb g (hv g rfl)).trans hg, rest⟩
theorem ints_cells {w : World} {base A c : Nat} {fs : List Nat} (h : w.ownsRow base 3 1 (.slice (some ⟨A, 0, none⟩) fs.length c) fs.length (ints fs)) : ∀ j, j < (fs.map fun n => ((n : Nat) : Int)).length → w.cell? ⟨A, 0 + j, none⟩ = some (.int .i64 ((fs.map fun n => ((n : Nat) : Int)).getD j 0)) := fun j hj => by
  rw [List.length_map] at hj
  rw [Nat.zero_add, own_cell h j hj, bang_pos fs j hj]
  simp [List.getD, hj]
theorem ints_mem (fs : List Nat) (n : Nat) : ((fs.map fun n => ((n : Nat) : Int)).take fs.length).contains (n : Int) = decide (n ∈ fs) := by
  rw [List.take_of_length_le (by rw [List.length_map]; exact Nat.le_refl _)]
  rw [Bool.eq_iff_iff, List.contains_iff_mem, decide_eq_true_eq, List.mem_map]
  constructor
  · rintro ⟨a, ha, e⟩; rwa [show a = n from by omega] at ha
  · intro h; exact ⟨n, h, rfl⟩
set_option maxRecDepth 100000 in
set_option maxHeartbeats 4000000 in
theorem spec_KernelOf (r c : Int) (f : Nat → Int) (hm : MW r c f) (w : World) : Calls Try.prog 62 #[MV r c f] w fun e w' => ∃ v, e = .returned (.tuple #[v, .int .i64 (kerC r c f)]) ∧ w'.ownsRow w.heap.size 45 6 v (kerOf r c f).length (vecs (kerOf r c f)) ∧ Below w.heap.size w w' := by
  obtain ⟨i0, z0, hi, hz0, hz1, hz2, hz3⟩ := vec_parts
  go_enter Try.func62, Try.ntmps62
  go_upto_region 1 with fail
  obtain ⟨a1, a4, a5⟩ := new1 w (.cells (CL r c f).toArray 33)
  obtain ⟨g, hg⟩ : ∃ g, g = w.heap.size := ⟨_, rfl⟩
  rw [← hg] at a1 a4 a5 ⊢
  generalize World.alloc w _ = w2 at a1 a4 a5 ⊢
  replace a1 : MB w2 g 33 r c f := a1
  have HG := Lib.hid hg
  have HF := Lib.hid hm.2.2.2.2
  clear hg a5
  go_wp2_with fail
  refine (l02Ok_any r c f hm g _ _ a1).mono ?_
  rintro e wn ⟨rfl, rfl⟩
  rcases hok : okB r c f with _ | _
  · have hK : kerOf r c f = [] := by unfold kerOf; rw [if_neg (by rw [hok]; decide)]
    have hC0 : kerC r c f = 1 := by unfold kerC; rw [if_neg (by rw [hok]; decide)]
    have HK := Lib.hid hK
    have HC0 := Lib.hid hC0
    clear hK hC0
    go_wp2_with fail
    go_ret2
    rw [HK.out, HC0.out]
    refine ⟨_, rfl, ?_, ?_⟩
    · obtain rfl := HG.out
      exact ⟨rfl, .inr ⟨wn.heap.size, 0, #[], rfl, by have := a1.lt; omega, heap_alloc_new wn _, Nat.le_refl _, by unfold maxLen; omega, rfl, rfl⟩⟩
    · obtain rfl := HG.out
      exact a4.alloc (Nat.le_of_lt a1.lt) _
  · obtain ⟨R, C, hRe, hCe, _, hR, _, hC⟩ := ok_dims hok
    subst hRe; subst hCe
    obtain ⟨RF, hRF⟩ : ∃ RF, RF = redF f R := ⟨_, rfl⟩
    obtain ⟨fs, hfs⟩ : ∃ fs, fs = (Nim.redN (Nim.wide (natG f) R) 6).2 := ⟨_, rfl⟩
    have hlf : leadsF RF 6 = fs := by rw [hRF, hfs]; exact leads_red HF.out R
    have hK : kerOf R C f = kerL fs RF C := by unfold kerOf; rw [if_pos hok, show (R : Int).toNat = R from rfl, show (C : Int).toNat = C from rfl, ← hRF, hlf]
    have hC0 : kerC R C f = 0 := by unfold kerC; rw [if_pos hok]
    have h6 := Nim.redN_red (Nim.wide_b (natG_b HF.out) R) 6
    rw [← hfs] at h6
    have hlt6 : ∀ j, j < fs.length → fs[j]! < 6 := fun j hj => by rw [bang_pos fs j hj]; exact h6.lt j hj
    have hl6 : fs.length ≤ 6 := h6.len
    have HRB := Lib.hid (show VW RF by rw [hRF]; exact redF_b HF.out R)
    have HOK := Lib.hid hok
    have HRF := Lib.hid hRF
    have HFS := Lib.hid hfs
    have H6 := Lib.hid h6
    have HK := Lib.hid hK
    have HC0 := Lib.hid hC0
    clear hok hRF hfs h6 hlf hK hC0
    have n1 : (R : Int) ≤ 6 := by omega
    have n2 : (C : Int) ≤ 6 := by omega
    go_wp2_with fail
    refine (l02Reduce_any R C hR hC (natG f) (natG_b HF.out) (ok_zr HOK.out) (ok_zc HOK.out) g _ (a1.ext fun s _ => (un6_nat HF.out s).symm)).mono ?_
    rintro e wm ⟨v, rfl, ho, b1, hb⟩
    replace b1 := b1.ext (f' := RF) (fun s hs => by rw [HRF.out]; exact red_same HF.out hC HOK.out s hs)
    rw [red_firsts HF.out hC HOK.out, ← HFS.out] at ho
    have b4 := Beside.below a4 hb (Nat.le_refl g) (Nat.le_of_lt a1.lt)
    clear a1 a4 hb
    obtain ⟨A, cf, rfl, hA⟩ := own_form ho
    have HA := Lib.hid hA
    have HO := Lib.hid ho
    clear hA ho
    have hgm := b1.lt
    go_wp2_with fail
    obtain ⟨B, hB⟩ : ∃ B, B = wm.heap.size := ⟨_, rfl⟩
    have HBB := Lib.hid hB
    have hB1 : B ≤ wm.heap.size := by omega
    have hB2 : wm.heap.size ≤ B := by omega
    clear hB
    go_loopw [7, 6, 5] (fun y a s wr => ∃ (n m gb cap : Nat), y = .int .i64 n ∧ n ≤ C ∧ a = .int .i64 m ∧ m ≤ fs.length ∧ s = .slice (some ⟨gb, 0, none⟩) (kerL fs RF n).length cap ∧ Hid (Below B wm wr) ∧ Hid (wr.ownsRow B 45 6 (.slice (some ⟨gb, 0, none⟩) (kerL fs RF n).length cap) (kerL fs RF n).length (vecs (kerL fs RF n))) ∧ Hid (∀ j, (hj : j < fs.length) → j < m → fs[j] < n) ∧ Hid (∀ j, (hj : j < fs.length) → m ≤ j → n ≤ fs[j])) (fun y _ _ _ => (6 - intOf y).toNat)
    case atStart => exact ⟨0, 0, wm.heap.size, 0, rfl, by omega, rfl, by omega, rfl, Lib.hid (HBB.out ▸ (Below.refl _ wm).alloc (Nat.le_refl _) _), Lib.hid ⟨rfl, .inr ⟨wm.heap.size, 0, #[], rfl, by omega, heap_alloc_new wm _, Nat.le_refl _, by unfold maxLen; omega, rfl, rfl⟩⟩, Lib.hid (fun j _ h => by omega), Lib.hid (fun j _ _ => Nat.zero_le _)⟩
    case round =>
      obtain ⟨n, m, gb, cap, rfl, hn, rfl, hm', rfl, HB, HW, H1, H2⟩ := hrel
      have m1 := b1.below HB.out (by omega)
      have d2 := m1.cols
      by_cases hlt : n < C
      · have T1 : decide ((n : Int) < (C : Int)) = true := by simp; omega
        have k6 : n < 6 := by omega
        have k1 : (n : Int) < 6 := by omega
        have hmem := H6.out.mem (col := n) hm' H1.out H2.out
        have hms := Lib.hid (H6.out.memStep (col := n) hm' H1.out H2.out)
        by_cases hin : n ∈ fs
        · obtain ⟨hj, he⟩ := hmem.1 hin
          obtain ⟨fb, rfl, hfb1, hfb2⟩ := HA.out (by omega)
          have q1 : wr.cell? ⟨fb, m, none⟩ = some (.int .i64 (n : Int)) := by
            have := own_cell HO.out m hj
            rw [bang_pos fs m hj, he] at this
            exact (HB.out.cell (p := ⟨fb, m, none⟩) (by show fb < B; omega)).trans this
          have T2 : decide ((m : Int) < (fs.length : Int)) = true := by simp; omega
          have T3 : ((n : Int) == (n : Int)) = true := by simp
          have HE := Lib.hid he
          have HIN := Lib.hid hin
          clear he hmem hin
          go_wp2_with fail
          exact ⟨⟨n + 1, m + 1, gb, cap, rfl, by omega, rfl, by omega, by rw [kerL_in HIN.out], HB, by rw [kerL_in HIN.out]; exact HW, Lib.hid ((hms.out.1 hj HE.out).1), Lib.hid ((hms.out.1 hj HE.out).2)⟩, by simp [intOf]; omega⟩
        · have HNI := Lib.hid hin
          by_cases hj : m < fs.length
          · obtain ⟨fb, rfl, hfb1, hfb2⟩ := HA.out (by omega)
            have hne : ¬ fs[m] = n := fun e => hin (hmem.2 ⟨hj, e⟩)
            obtain ⟨x, hx⟩ : ∃ x, x = fs[m] := ⟨_, rfl⟩
            have q1 : wr.cell? ⟨fb, m, none⟩ = some (.int .i64 (x : Int)) := by
              have := own_cell HO.out m hj
              rw [bang_pos fs m hj, ← hx] at this
              exact (HB.out.cell (p := ⟨fb, m, none⟩) (by show fb < B; omega)).trans this
            have T2 : decide ((m : Int) < (fs.length : Int)) = true := by simp; omega
            have T3 : ((x : Int) == (n : Int)) = false := by simp; omega
            clear hmem hin hne hx
            go_upto_region 12 with (first | guard_target =~ wpList _ _ _ (⟨_, Op.build 45 _, _, _, _, _⟩ :: _) _ _; refine wpList_build0 rfl 45 rfl (TL 6 fun _ => 0).toArray (by kernel_rfl) ?_ | guard_target =~ wpList _ _ _ (⟨_, Op.store 45 _ _, _, _, _, _⟩ :: _) _ _; refine wpList_store_fresh (cells := (TL 6 fun _ => 0).toArray) rfl 45 _ _ rfl rfl rfl (by kernel_rfl) rfl (TL_one _ _) ?_)
            have c5 : RB (wr.alloc (.cells (TL 6 fun _ => 0).toArray 45)) wr.heap.size 45 6 (fun _ => 0) := heap_alloc_last _ _
            have c4 := HB.out.alloc (show B ≤ wr.heap.size by have := HB.out.size; omega) (.cells (TL 6 fun _ => 0).toArray 45)
            have cw := HW.out.alloc (.cells (TL 6 fun _ => 0).toArray 45)
            have hgb := (HW.out.lt gb rfl)
            obtain ⟨b, hb⟩ : ∃ b, b = wr.heap.size := ⟨_, rfl⟩
            have lb : B ≤ b := by rw [hb]; have := HB.out.size; omega
            have lgb : gb < b := by rw [hb]; exact hgb.2
            rw [← hb] at c5 ⊢
            generalize wr.alloc (.cells (TL 6 fun _ => 0).toArray 45) = wa at c5 c4 cw ⊢
            clear HB HW hgb hb m1 d2
            have q3 := c5.free n
            have q4 := c5.cell n k6
            go_upto_region 13 with fail
            have e5 := c5.put n k6 1
            have e4 := c4.setCell (p := ⟨b, n, none⟩) (by show B ≤ b; omega) (.int .u16 1)
            have ew : (World.setCell wa ⟨b, n, none⟩ (.int .u16 1)).ownsRow B 45 6 (.slice (some ⟨gb, 0, none⟩) (kerL fs RF n).length cap) (kerL fs RF n).length (vecs (kerL fs RF n)) := own_other cw (heap_setCell_other _ _ _ _ (by show gb ≠ b; omega))
            rw [unitF_put] at e5
            generalize World.setCell wa _ _ = wb at e5 e4 ew ⊢
            clear c5 c4 cw q3 q4
            have E4 := Lib.hid e4
            have EW := Lib.hid ew
            clear e4 ew
            go_wp2_with fail
            go_loopw [9] (fun y wr => ∃ (i : Nat), y = .int .i64 i ∧ i ≤ fs.length ∧ RB wr b 45 6 (kv fs RF n i) ∧ Hid (Below B wm wr) ∧ Hid (wr.ownsRow B 45 6 (.slice (some ⟨gb, 0, none⟩) (kerL fs RF n).length cap) (kerL fs RF n).length (vecs (kerL fs RF n)))) (fun y _ => (6 - intOf y).toNat)
            case atStart => exact ⟨0, rfl, by omega, e5, E4, EW⟩
            case round =>
              clear e5 E4 EW
              obtain ⟨i, rfl, hi6, m5, HB, HW⟩ := hrel
              have m1 := b1.below HB.out (by omega)
              by_cases hil : i < fs.length
              · have T4 : decide ((i : Int) < (fs.length : Int)) = true := by simp; omega
                have i6 : i < 6 := by omega
                have i1 : (i : Int) < 6 := by omega
                obtain ⟨x, hx⟩ : ∃ x, x = fs[i]! := ⟨_, rfl⟩
                have x6 := hlt6 i hil
                have q1 : wr.cell? ⟨fb, i, none⟩ = some (.int .i64 ((fs[i]! : Nat) : Int)) := (HB.out.cell (p := ⟨fb, i, none⟩) (by show fb < B; omega)).trans (own_cell HO.out i hil)
                rw [← hx] at q1 x6
                have x1 : (x : Int) < 6 := by omega
                have q2 := m1.cell2 i n i6 k6
                have q3 := m5.free x
                have q4 := m5.cell x x6
                have HX := Lib.hid (show upd (kv fs RF n i) x (RF (i * 6 + n)) = kv fs RF n (i + 1) by rw [hx]; rfl)
                have M5 := Lib.hid m5
                clear m5 m1 hx
                go_upto_region 16 with fail
                refine wp_region_still_tail 11 (by kernel_rfl) (by kernel_rfl) ?_
                simp only [List.take_succ_cons, List.take_zero, List.drop_succ_cons, List.drop_zero]
                iterate 11 still_step
                refine wpStill_nil ?_
                change wpList _ _ _ _ _ (World.drew _)
                go_wp2_with fail
                exact ⟨⟨i + 1, rfl, by omega, (M5.out.put x x6 _).ext (fun s _ => by rw [HX.out]), Lib.hid (HB.out.drew.setCell (p := ⟨b, x, none⟩) (by show B ≤ b; omega) _), Lib.hid (own_other HW.out.drew (heap_setCell_other _ _ _ _ (by show gb ≠ b; omega)))⟩, by simp [intOf]; omega⟩
              · obtain rfl : i = fs.length := by omega
                have T4 : decide ((fs.length : Int) < (fs.length : Int)) = false := by simp
                have hkl := kerL_len fs RF n
                have hw := HW.out
                have hbs := HB.out.size
                have hgb := hw.lt gb rfl
                obtain ⟨V, hVV⟩ : ∃ V, V = kv fs RF n fs.length := ⟨_, rfl⟩
                rw [← hVV] at m5
                have HVV := Lib.hid hVV
                clear hVV
                go_wp2_with (first | guard_target =~ wpList _ _ _ (⟨_, Op.load 45 (Operand.tmp 8), _, _, _, _⟩ :: _) _ _; refine wpList_load_row rfl 45 _ rfl (b) rfl _ (TL 6 V).toArray (0, 0) (.array 6 29) (m5) (by kernel_rfl) rfl (by kernel_rfl) ?_ | (guard_target =~ wpList _ _ _ (⟨_, Op.buildSlice 61 _ _, _, _, _, _⟩ :: _) _ _; refine Go.Great.wpList_buildSliceTo rfl 61 45 1 _ rfl wr.heap.size rfl _ rfl Try.underlying61 (TL 6 V).toArray (by kernel_rfl) ?_) | (at_builtin; refine wpList_append_own _ rfl _ _ 61 rfl B 45 i0 z0 6 12 Try.underlying61 hi hz0 hz1 hz2 hz3 (by decide) _ (kerL fs RF n).length _ rfl (hw.alloc _) ⟨wr.heap.size, 0, none⟩ 1 1 (TL 6 V) rfl (by rw [TL_len]) ?c1 ?c2 ?c3 ?c4 ?c5 ?_))
                case c1 => exact vec_cell _ _ _
                case c2 => exact fun u hu => by obtain ⟨t, _, rfl⟩ := TL_mem hu; rfl
                case c3 => unfold maxLen; omega
                case c4 => omega
                case c5 => rw [World.size_alloc]; omega
                intro s' wz hown2 hgrow2 _
                rw [vecs_snoc, HVV.out] at hown2
                have hb2 : Below B wm wz := (HB.out.alloc (by omega) _).grown hgrow2 (by rw [World.size_alloc]; omega) (fun k hk => by
                  have : gb = k := by simpa [Value.ownBlock] using hk
                  omega)
                obtain ⟨gb2, cap2, rfl, hg2, _⟩ := hown2.form (by omega)
                have e2 : kerL fs RF (n + 1) = kerL fs RF n ++ [kv fs RF n fs.length] := kerL_out HNI.out
                have e3 : (kerL fs RF (n + 1)).length = (kerL fs RF n).length + 1 := by rw [e2, List.length_append]; rfl
                have E2 := Lib.hid e2; have E3 := Lib.hid e3; have HO2 := Lib.hid hown2; have HB2 := Lib.hid hb2
                clear hown2 hgrow2 hb2 e2 e3 hw m5 m1
                go_wp2_with fail
                exact ⟨⟨n + 1, m, gb2, cap2, rfl, by omega, rfl, hm', by rw [E3.out], HB2, by rw [E3.out, E2.out]; exact HO2, Lib.hid ((hms.out.2 HNI.out).1), Lib.hid ((hms.out.2 HNI.out).2)⟩, by simp [intOf]; omega⟩
          · have T2 : decide ((m : Int) < (fs.length : Int)) = false := by simp; omega
            clear hmem hin
            go_upto_region 12 with (first | guard_target =~ wpList _ _ _ (⟨_, Op.build 45 _, _, _, _, _⟩ :: _) _ _; refine wpList_build0 rfl 45 rfl (TL 6 fun _ => 0).toArray (by kernel_rfl) ?_ | guard_target =~ wpList _ _ _ (⟨_, Op.store 45 _ _, _, _, _, _⟩ :: _) _ _; refine wpList_store_fresh (cells := (TL 6 fun _ => 0).toArray) rfl 45 _ _ rfl rfl rfl (by kernel_rfl) rfl (TL_one _ _) ?_)
            have c5 : RB (wr.alloc (.cells (TL 6 fun _ => 0).toArray 45)) wr.heap.size 45 6 (fun _ => 0) := heap_alloc_last _ _
            have c4 := HB.out.alloc (show B ≤ wr.heap.size by have := HB.out.size; omega) (.cells (TL 6 fun _ => 0).toArray 45)
            have cw := HW.out.alloc (.cells (TL 6 fun _ => 0).toArray 45)
            have hgb := (HW.out.lt gb rfl)
            obtain ⟨b, hb⟩ : ∃ b, b = wr.heap.size := ⟨_, rfl⟩
            have lb : B ≤ b := by rw [hb]; have := HB.out.size; omega
            have lgb : gb < b := by rw [hb]; exact hgb.2
            rw [← hb] at c5 ⊢
            generalize wr.alloc (.cells (TL 6 fun _ => 0).toArray 45) = wa at c5 c4 cw ⊢
            clear HB HW hgb hb m1 d2
            have q3 := c5.free n
            have q4 := c5.cell n k6
            go_upto_region 13 with fail
            have e5 := c5.put n k6 1
            have e4 := c4.setCell (p := ⟨b, n, none⟩) (by show B ≤ b; omega) (.int .u16 1)
            have ew : (World.setCell wa ⟨b, n, none⟩ (.int .u16 1)).ownsRow B 45 6 (.slice (some ⟨gb, 0, none⟩) (kerL fs RF n).length cap) (kerL fs RF n).length (vecs (kerL fs RF n)) := own_other cw (heap_setCell_other _ _ _ _ (by show gb ≠ b; omega))
            rw [unitF_put] at e5
            generalize World.setCell wa _ _ = wb at e5 e4 ew ⊢
            clear c5 c4 cw q3 q4
            have E4 := Lib.hid e4
            have EW := Lib.hid ew
            clear e4 ew
            go_wp2_with fail
            go_loopw [9] (fun y wr => ∃ (i : Nat), y = .int .i64 i ∧ i ≤ fs.length ∧ RB wr b 45 6 (kv fs RF n i) ∧ Hid (Below B wm wr) ∧ Hid (wr.ownsRow B 45 6 (.slice (some ⟨gb, 0, none⟩) (kerL fs RF n).length cap) (kerL fs RF n).length (vecs (kerL fs RF n)))) (fun y _ => (6 - intOf y).toNat)
            case atStart => exact ⟨0, rfl, by omega, e5, E4, EW⟩
            case round =>
              clear e5 E4 EW
              obtain ⟨i, rfl, hi6, m5, HB, HW⟩ := hrel
              have m1 := b1.below HB.out (by omega)
              by_cases hil : i < fs.length
              · have T4 : decide ((i : Int) < (fs.length : Int)) = true := by simp; omega
                have i6 : i < 6 := by omega
                have i1 : (i : Int) < 6 := by omega
                obtain ⟨fb, rfl, hfb1, hfb2⟩ := HA.out (by omega)
                obtain ⟨x, hx⟩ : ∃ x, x = fs[i]! := ⟨_, rfl⟩
                have x6 := hlt6 i hil
                have q1 : wr.cell? ⟨fb, i, none⟩ = some (.int .i64 ((fs[i]! : Nat) : Int)) := (HB.out.cell (p := ⟨fb, i, none⟩) (by show fb < B; omega)).trans (own_cell HO.out i hil)
                rw [← hx] at q1 x6
                have x1 : (x : Int) < 6 := by omega
                have q2 := m1.cell2 i n i6 k6
                have q3 := m5.free x
                have q4 := m5.cell x x6
                have HX := Lib.hid (show upd (kv fs RF n i) x (RF (i * 6 + n)) = kv fs RF n (i + 1) by rw [hx]; rfl)
                have M5 := Lib.hid m5
                clear m5 m1 hx
                go_upto_region 16 with fail
                refine wp_region_still_tail 11 (by kernel_rfl) (by kernel_rfl) ?_
                simp only [List.take_succ_cons, List.take_zero, List.drop_succ_cons, List.drop_zero]
                iterate 11 still_step
                refine wpStill_nil ?_
                change wpList _ _ _ _ _ (World.drew _)
                go_wp2_with fail
                exact ⟨⟨i + 1, rfl, by omega, (M5.out.put x x6 _).ext (fun s _ => by rw [HX.out]), Lib.hid (HB.out.drew.setCell (p := ⟨b, x, none⟩) (by show B ≤ b; omega) _), Lib.hid (own_other HW.out.drew (heap_setCell_other _ _ _ _ (by show gb ≠ b; omega)))⟩, by simp [intOf]; omega⟩
              · obtain rfl : i = fs.length := by omega
                have T4 : decide ((fs.length : Int) < (fs.length : Int)) = false := by simp
                have hkl := kerL_len fs RF n
                have hw := HW.out
                have hbs := HB.out.size
                have hgb := hw.lt gb rfl
                obtain ⟨V, hVV⟩ : ∃ V, V = kv fs RF n fs.length := ⟨_, rfl⟩
                rw [← hVV] at m5
                have HVV := Lib.hid hVV
                clear hVV
                go_wp2_with (first | guard_target =~ wpList _ _ _ (⟨_, Op.load 45 (Operand.tmp 8), _, _, _, _⟩ :: _) _ _; refine wpList_load_row rfl 45 _ rfl (b) rfl _ (TL 6 V).toArray (0, 0) (.array 6 29) (m5) (by kernel_rfl) rfl (by kernel_rfl) ?_ | (guard_target =~ wpList _ _ _ (⟨_, Op.buildSlice 61 _ _, _, _, _, _⟩ :: _) _ _; refine Go.Great.wpList_buildSliceTo rfl 61 45 1 _ rfl wr.heap.size rfl _ rfl Try.underlying61 (TL 6 V).toArray (by kernel_rfl) ?_) | (at_builtin; refine wpList_append_own _ rfl _ _ 61 rfl B 45 i0 z0 6 12 Try.underlying61 hi hz0 hz1 hz2 hz3 (by decide) _ (kerL fs RF n).length _ rfl (hw.alloc _) ⟨wr.heap.size, 0, none⟩ 1 1 (TL 6 V) rfl (by rw [TL_len]) ?c1 ?c2 ?c3 ?c4 ?c5 ?_))
                case c1 => exact vec_cell _ _ _
                case c2 => exact fun u hu => by obtain ⟨t, _, rfl⟩ := TL_mem hu; rfl
                case c3 => unfold maxLen; omega
                case c4 => omega
                case c5 => rw [World.size_alloc]; omega
                intro s' wz hown2 hgrow2 _
                rw [vecs_snoc, HVV.out] at hown2
                have hb2 : Below B wm wz := (HB.out.alloc (by omega) _).grown hgrow2 (by rw [World.size_alloc]; omega) (fun k hk => by
                  have : gb = k := by simpa [Value.ownBlock] using hk
                  omega)
                obtain ⟨gb2, cap2, rfl, hg2, _⟩ := hown2.form (by omega)
                have e2 : kerL fs RF (n + 1) = kerL fs RF n ++ [kv fs RF n fs.length] := kerL_out HNI.out
                have e3 : (kerL fs RF (n + 1)).length = (kerL fs RF n).length + 1 := by rw [e2, List.length_append]; rfl
                have E2 := Lib.hid e2; have E3 := Lib.hid e3; have HO2 := Lib.hid hown2; have HB2 := Lib.hid hb2
                clear hown2 hgrow2 hb2 e2 e3 hw m5 m1
                go_wp2_with fail
                exact ⟨⟨n + 1, m, gb2, cap2, rfl, by omega, rfl, hm', by rw [E3.out], HB2, by rw [E3.out, E2.out]; exact HO2, Lib.hid ((hms.out.2 HNI.out).1), Lib.hid ((hms.out.2 HNI.out).2)⟩, by simp [intOf]; omega⟩
      · obtain rfl : n = C := by omega
        have T1 : decide ((n : Int) < (n : Int)) = false := by simp
        go_wp2_with fail
        go_ret2
        rw [HK.out, HC0.out]
        obtain rfl := HG.out
        exact ⟨_, rfl, own_low HW.out (by omega), b4.trans (HB.out.mono (by omega))⟩

set_option maxRecDepth 100000 in
set_option maxHeartbeats 4000000 in
theorem impl_KernelOf (r c : Int) (f : Nat → Int) (hm : MW r c f) (w : World) : Calls Try.prog 63 #[MV r c f] w fun e w' => ∃ v, e = .returned (.tuple #[v, .int .i64 (kerC r c f)]) ∧ w'.ownsRow w.heap.size 45 6 v (kerOf r c f).length (vecs (kerOf r c f)) ∧ Below w.heap.size w w' := by
  obtain ⟨i0, z0, hi, hz0, hz1, hz2, hz3⟩ := vec_parts
  go_enter Try.func63, Try.ntmps63
  go_upto_region 1 with fail
  obtain ⟨a1, a4, a5⟩ := new1 w (.cells (CL r c f).toArray 33)
  obtain ⟨g, hg⟩ : ∃ g, g = w.heap.size := ⟨_, rfl⟩
  rw [← hg] at a1 a4 a5 ⊢
  generalize World.alloc w _ = w2 at a1 a4 a5 ⊢
  replace a1 : MB w2 g 33 r c f := a1
  have HG := Lib.hid hg
  have HF := Lib.hid hm.2.2.2.2
  clear hg a5
  go_wp2_with (first | (guard_target =~ wpList _ _ _ (⟨_, Op.load 33 (Operand.tmp 1), _, _, _, _⟩ :: _) _ _; refine wpList_load_row rfl 33 _ rfl (g) rfl _ (CL r c f).toArray (0, 0) _ a1 Try.underlying33 rfl (by kernel_rfl) ?_))
  refine (impl_ReduceMatrix r c f hm _).mono ?_
  rintro e wn ⟨rfl, hn⟩
  replace a4 := bnext a4 hn (Nat.le_of_lt a1.lt)
  replace a1 := a1.below hn a1.lt
  clear hn
  rcases hok : okB r c f with _ | _
  · have hV : reduceV r c f = .tuple #[MV 0 0 (fun _ => 0), .int .i64 1] := by unfold reduceV; rw [hok]; rfl
    rw [hV]
    clear hV
    have hK : kerOf r c f = [] := by unfold kerOf; rw [if_neg (by rw [hok]; decide)]
    have hC0 : kerC r c f = 1 := by unfold kerC; rw [if_neg (by rw [hok]; decide)]
    have HK := Lib.hid hK
    have HC0 := Lib.hid hC0
    clear hK hC0
    go_upto_region 2 with (first | (guard_target =~ wpList _ _ _ (⟨_, Op.store 33 _ _, _, _, _, _⟩ :: _) _ _; refine wpList_store_fresh (cells := (CL 0 0 fun _ => 0).toArray) rfl 33 _ _ rfl rfl rfl (by kernel_rfl) (by rw [CL_size]; rfl) (CL_one _ _ _) ?_))
    have c4 := a4.alloc (Nat.le_of_lt a1.lt) (.cells (CL 0 0 fun _ => 0).toArray 33)
    generalize wn.alloc (.cells (CL 0 0 fun _ => 0).toArray 33) = wq at c4 ⊢
    go_wp2_with fail
    go_ret2
    rw [HK.out, HC0.out]
    obtain rfl := HG.out
    exact ⟨_, rfl, World.ownsRow_nil _ _ _ _, c4⟩
  · obtain ⟨R, C, hRe, hCe, _, hR, _, hC⟩ := ok_dims hok
    subst hRe; subst hCe
    obtain ⟨RF, hRF⟩ : ∃ RF, RF = redF f R := ⟨_, rfl⟩
    obtain ⟨fs, hfs⟩ : ∃ fs, fs = (Nim.redN (Nim.wide (natG f) R) 6).2 := ⟨_, rfl⟩
    have hlf : leadsF RF 6 = fs := by rw [hRF, hfs]; exact leads_red HF.out R
    have hK : kerOf R C f = kerL fs RF C := by unfold kerOf; rw [if_pos hok, show (R : Int).toNat = R from rfl, show (C : Int).toNat = C from rfl, ← hRF, hlf]
    have hC0 : kerC R C f = 0 := by unfold kerC; rw [if_pos hok]
    have h6 := Nim.redN_red (Nim.wide_b (natG_b HF.out) R) 6
    rw [← hfs] at h6
    have hlt6 : ∀ j, j < fs.length → fs[j]! < 6 := fun j hj => by rw [bang_pos fs j hj]; exact h6.lt j hj
    have hl6 : fs.length ≤ 6 := h6.len
    have HRB := Lib.hid (show VW RF by rw [hRF]; exact redF_b HF.out R)
    have hV : reduceV R C f = .tuple #[MV R C RF, .int .i64 0] := by unfold reduceV; rw [if_pos hok, show (R : Int).toNat = R from rfl, ← hRF]
    have HOK := Lib.hid hok
    have HLF := Lib.hid hlf
    rw [hV]
    have HK := Lib.hid hK
    have HC0 := Lib.hid hC0
    clear hok hRF hfs h6 hlf hK hC0 hV
    have n1 : (R : Int) ≤ 6 := by omega
    have n2 : (C : Int) ≤ 6 := by omega
    go_upto_region 2 with (first | (guard_target =~ wpList _ _ _ (⟨_, Op.store 33 _ _, _, _, _, _⟩ :: _) _ _; refine wpList_store_fresh (cells := (CL R C RF).toArray) rfl 33 _ _ rfl rfl rfl (by kernel_rfl) (by rw [CL_size]; rfl) (CL_one _ _ _) ?_))
    have b1 : MB (wn.alloc (.cells (CL R C RF).toArray 33)) wn.heap.size 33 R C RF := heap_alloc_last _ _
    have b0 := a1.alloc (.cells (CL R C RF).toArray 33)
    have b4 := a4.alloc (Nat.le_of_lt a1.lt) (.cells (CL R C RF).toArray 33)
    obtain ⟨k, hk⟩ : ∃ k, k = wn.heap.size := ⟨_, rfl⟩
    have hgk : g < k := by rw [hk]; exact a1.lt
    rw [← hk] at b1 ⊢
    generalize wn.alloc (.cells (CL R C RF).toArray 33) = wq at b0 b1 b4 ⊢
    clear a1 a4 hk
    go_wp2_with (first | (guard_target =~ wpList _ _ _ (⟨_, Op.load 33 (Operand.tmp 4), _, _, _, _⟩ :: _) _ _; refine wpList_load_row rfl 33 _ rfl (k) rfl _ (CL R C RF).toArray (0, 0) _ b1 Try.underlying33 rfl (by kernel_rfl) ?_))
    refine (leads_any R C RF HRB.out _).mono ?_
    rintro e wm ⟨v, rfl, ho, hn⟩
    replace b4 := bnext b4 hn (Nat.le_of_lt b0.lt)
    replace b0 := b0.below hn b0.lt
    replace b1 := b1.below hn b1.lt
    rw [HLF.out] at ho
    clear hn
    obtain ⟨A, cf, rfl, hA⟩ := own_form ho
    have HA := Lib.hid hA
    have HO := Lib.hid ho
    clear hA ho
    have hgm := b1.lt
    have hg0 := b0.lt
    have d2 := b0.cols
    go_wp2_with fail
    clear d2
    obtain ⟨B, hB⟩ : ∃ B, B = wm.heap.size := ⟨_, rfl⟩
    have HBB := Lib.hid hB
    have hB1 : B ≤ wm.heap.size := by omega
    have hB2 : wm.heap.size ≤ B := by omega
    clear hB
    go_loopw [25, 7] (fun y s wr => ∃ (n cv : Nat) (A2 : Option Addr), y = .int .i64 n ∧ n ≤ C ∧ s = .slice A2 (kerL fs RF n).length cv ∧ Hid (Below B wm wr) ∧ Hid (wr.ownsRow B 45 6 (.slice A2 (kerL fs RF n).length cv) (kerL fs RF n).length (vecs (kerL fs RF n)))) (fun y _ _ => (6 - intOf y).toNat)
    case atStart => exact ⟨0, 0, none, rfl, by omega, rfl, Lib.hid (Below.refl _ wm), Lib.hid (World.ownsRow_nil _ _ _ _)⟩
    case round =>
      obtain ⟨n, cv, A2, rfl, hn, rfl, HB, HW⟩ := hrel
      by_cases hlt : n < C
      · have T1 : decide ((n : Int) < (C : Int)) = true := by simp; omega
        have k6 : n < 6 := by omega
        have k1 : (n : Int) < 6 := by omega
        have hcon : Calls Try.prog 127 #[.slice A fs.length cf, .int .i64 (n : Int)] wr fun e w' => e = .returned (.bool (decide (n ∈ fs))) ∧ w' = wr := by
          by_cases h0 : 0 < fs.length
          · obtain ⟨fb, rfl, h1, h2⟩ := HA.out h0
            have hO := own_keep HO.out (fun x _ h2 => HB.out.block x (by omega))
            have hc := Try.slices_Contains_int fb 0 fs.length cf (fs.map fun n => ((n : Nat) : Int)) n wr (by rw [List.length_map]; exact Nat.le_refl _) (by omega) (ints_cells hO)
            rw [ints_mem] at hc
            exact hc
          · have hz : fs.length = 0 := by omega
            have hz2 : fs = [] := List.length_eq_zero_iff.1 hz
            rw [hz, hz2]
            exact Try.slices_Contains_int_empty A cf n wr
        go_wp2_with fail
        refine hcon.mono ?_
        rintro e wc ⟨rfl, hwc⟩
        obtain rfl : wr = wc := hwc.symm
        by_cases hin : n ∈ fs
        · have hd : decide (n ∈ fs) = true := by simpa using hin
          rw [hd]
          have HIN := Lib.hid hin
          clear hin hd hcon
          go_wp2_with fail
          exact ⟨⟨n + 1, cv, A2, rfl, by omega, by rw [kerL_in HIN.out], HB, by rw [kerL_in HIN.out]; exact HW⟩, by simp [intOf]; omega⟩
        · have hd : decide (n ∈ fs) = false := by simpa using hin
          rw [hd]
          have HNI := Lib.hid hin
          clear hin hd hcon
          go_upto_region 11 with (first | guard_target =~ wpList _ _ _ (⟨_, Op.build 45 _, _, _, _, _⟩ :: _) _ _; refine wpList_build0 rfl 45 rfl (TL 6 fun _ => 0).toArray (by kernel_rfl) ?_ | guard_target =~ wpList _ _ _ (⟨_, Op.store 45 _ _, _, _, _, _⟩ :: _) _ _; refine wpList_store_fresh (cells := (TL 6 fun _ => 0).toArray) rfl 45 _ _ rfl rfl rfl (by kernel_rfl) rfl (TL_one _ _) ?_)
          have c5 : RB (wr.alloc (.cells (TL 6 fun _ => 0).toArray 45)) wr.heap.size 45 6 (fun _ => 0) := heap_alloc_last _ _
          have c4 := HB.out.alloc (show B ≤ wr.heap.size by have := HB.out.size; omega) (.cells (TL 6 fun _ => 0).toArray 45)
          have cw := HW.out.alloc (.cells (TL 6 fun _ => 0).toArray 45)
          have hgb := HW.out.lt
          obtain ⟨b, hb⟩ : ∃ b, b = wr.heap.size := ⟨_, rfl⟩
          have lb : B ≤ b := by rw [hb]; have := HB.out.size; omega
          have lgb : ∀ k, (Value.slice A2 (kerL fs RF n).length cv).ownBlock = some k → k ≠ b := fun k hk => by rw [hb]; have := (hgb k hk).2; omega
          rw [← hb] at c5 ⊢
          generalize wr.alloc (.cells (TL 6 fun _ => 0).toArray 45) = wa at c5 c4 cw ⊢
          clear HB HW hgb hb
          have q3 := c5.free n
          have q4 := c5.cell n k6
          go_upto_region 12 with fail
          have e5 := c5.put n k6 1
          have e4 := c4.setCell (p := ⟨b, n, none⟩) (by show B ≤ b; omega) (.int .u16 1)
          have ew : (World.setCell wa ⟨b, n, none⟩ (.int .u16 1)).ownsRow B 45 6 (.slice A2 (kerL fs RF n).length cv) (kerL fs RF n).length (vecs (kerL fs RF n)) := own_far cw lgb (fun k hk => heap_setCell_other _ _ _ _ (by show k ≠ b; exact hk))
          rw [unitF_put] at e5
          generalize World.setCell wa _ _ = wb at e5 e4 ew ⊢
          clear c5 c4 cw q3 q4
          have E4 := Lib.hid e4
          have EW := Lib.hid ew
          clear e4 ew
          go_wp2_with fail
          go_loopw [36] (fun y wr => ∃ (i : Nat), y = .int .i64 i ∧ i ≤ fs.length ∧ RB wr b 45 6 (kv fs RF n i) ∧ Hid (Below B wm wr) ∧ Hid (wr.ownsRow B 45 6 (.slice A2 (kerL fs RF n).length cv) (kerL fs RF n).length (vecs (kerL fs RF n)))) (fun y _ => (6 - intOf y).toNat)
          case atStart => exact ⟨0, rfl, by omega, e5, E4, EW⟩
          case round =>
            clear e5 E4 EW
            obtain ⟨i, rfl, hi6, m5, HB, HW⟩ := hrel
            have m1 := b1.below HB.out (by omega)
            by_cases hil : i < fs.length
            · have T4 : decide ((i : Int) < (fs.length : Int)) = true := by simp; omega
              have i6 : i < 6 := by omega
              have i1 : (i : Int) < 6 := by omega
              obtain ⟨fb, rfl, hfb1, hfb2⟩ := HA.out (by omega)
              obtain ⟨x, hx⟩ : ∃ x, x = fs[i]! := ⟨_, rfl⟩
              have x6 := hlt6 i hil
              have q1 : wr.cell? ⟨fb, i, none⟩ = some (.int .i64 ((fs[i]! : Nat) : Int)) := (HB.out.cell (p := ⟨fb, i, none⟩) (by show fb < B; omega)).trans (own_cell HO.out i hil)
              rw [← hx] at q1 x6
              have x1 : (x : Int) < 6 := by omega
              have q2 := m1.cell2 i n i6 k6
              have q3 := m5.free x
              have q4 := m5.cell x x6
              have HX := Lib.hid (show upd (kv fs RF n i) x (RF (i * 6 + n)) = kv fs RF n (i + 1) by rw [hx]; rfl)
              have M5 := Lib.hid m5
              clear m5 m1 hx
              go_upto_region 15 with fail
              go_wp2_with fail
              exact ⟨⟨i + 1, rfl, by omega, (M5.out.put x x6 _).ext (fun s _ => by rw [HX.out]), Lib.hid (HB.out.setCell (p := ⟨b, x, none⟩) (by show B ≤ b; omega) _), Lib.hid (own_far HW.out lgb (fun k hk => heap_setCell_other _ _ _ _ (by show k ≠ b; exact hk)))⟩, by simp [intOf]; omega⟩
            · obtain rfl : i = fs.length := by omega
              have T4 : decide ((fs.length : Int) < (fs.length : Int)) = false := by simp
              have hkl := kerL_len fs RF n
              have hw := HW.out
              have hbs := HB.out.size
              have hgb := hw.lt
              obtain ⟨V, hVV⟩ : ∃ V, V = kv fs RF n fs.length := ⟨_, rfl⟩
              rw [← hVV] at m5
              have HVV := Lib.hid hVV
              clear hVV
              go_wp2_with (first | guard_target =~ wpList _ _ _ (⟨_, Op.load 45 (Operand.tmp 9), _, _, _, _⟩ :: _) _ _; refine wpList_load_row rfl 45 _ rfl (b) rfl _ (TL 6 V).toArray (0, 0) (.array 6 29) (m5) (by kernel_rfl) rfl (by kernel_rfl) ?_ | (guard_target =~ wpList _ _ _ (⟨_, Op.buildSlice 61 _ _, _, _, _, _⟩ :: _) _ _; refine Go.Great.wpList_buildSliceTo rfl 61 45 1 _ rfl wr.heap.size rfl _ rfl Try.underlying61 (TL 6 V).toArray (by kernel_rfl) ?_) | (at_builtin; refine wpList_append_own _ rfl _ _ 61 rfl B 45 i0 z0 6 12 Try.underlying61 hi hz0 hz1 hz2 hz3 (by decide) _ (kerL fs RF n).length _ rfl (hw.alloc _) ⟨wr.heap.size, 0, none⟩ 1 1 (TL 6 V) rfl (by rw [TL_len]) ?c1 ?c2 ?c3 ?c4 ?c5 ?_))
              case c1 => exact vec_cell _ _ _
              case c2 => exact fun u hu => by obtain ⟨t, _, rfl⟩ := TL_mem hu; rfl
              case c3 => unfold maxLen; omega
              case c4 => omega
              case c5 => rw [World.size_alloc]; omega
              intro s' wz hown2 hgrow2 _
              rw [vecs_snoc, HVV.out] at hown2
              have hb2 : Below B wm wz := (HB.out.alloc (by omega) _).grown hgrow2 (by rw [World.size_alloc]; omega) (fun k hk => (hgb k hk).1)
              obtain ⟨A', c', rfl, _⟩ := own_form hown2
              have e2 : kerL fs RF (n + 1) = kerL fs RF n ++ [kv fs RF n fs.length] := kerL_out HNI.out
              have e3 : (kerL fs RF (n + 1)).length = (kerL fs RF n).length + 1 := by rw [e2, List.length_append]; rfl
              have E2 := Lib.hid e2; have E3 := Lib.hid e3; have HO2 := Lib.hid hown2; have HB2 := Lib.hid hb2
              clear hown2 hgrow2 hb2 e2 e3 hw m5 m1
              go_wp2_with fail
              exact ⟨⟨n + 1, c', A', rfl, by omega, by rw [E3.out], HB2, by rw [E3.out, E2.out]; exact HO2⟩, by simp [intOf]; omega⟩
      · obtain rfl : n = C := by omega
        have T1 : decide ((n : Int) < (n : Int)) = false := by simp
        go_wp2_with fail
        go_ret2
        rw [HK.out, HC0.out]
        obtain rfl := HG.out
        exact ⟨_, rfl, own_low HW.out (by omega), b4.trans (HB.out.mono (by omega))⟩
end Go.Proofs.Ytjbaeomjinnlhaa
