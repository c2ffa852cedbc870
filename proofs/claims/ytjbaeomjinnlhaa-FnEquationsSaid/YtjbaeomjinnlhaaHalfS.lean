/-
  Half roots, of the model.
-/
import Derived.Test.YtjbaeomjinnlhaaHalf2
import Derived.Test.YtjbaeomjinnlhaaHalf3
import Derived.Test.YtjbaeomjinnlhaaScale
import Derived.Deep.AppendLies
import Derived.OwnWalk
import Derived.Below
import Derived.Deep.QuietTactic
import Derived.BigQuiet
namespace Go.Proofs.Ytjbaeomjinnlhaa
set_option linter.unusedVariables false
set_option linter.unusedSimpArgs false
open Go.ChangeShapes Go.WideShapes Go.ChangeAt Go.RowKit

theorem infoNim : (Try.prog.info? 29).map (fun i => (i.zero, i.size, i.bytes)) = some (some (.int .u16 0), 1, 2) := by kernel_rfl
theorem nim_parts {P : Program} {e : TypeId} {z : Value} {a b : Nat} (h : (P.info? e).map (fun i => (i.zero, i.size, i.bytes)) = some (some z, a, b)) : ∃ i, P.info? e = some i ∧ i.zero = some z ∧ i.size = a ∧ i.bytes = b := by
  cases hi : P.info? e with
  | none => simp [hi] at h
  | some i => simp [hi] at h; exact ⟨i, rfl, h.1, h.2.1, h.2.2⟩
theorem one_cell3 (w : World) (v : Value) (t : TypeId) (j : Nat) (u : Value) (h : [v][j]? = some u) : (w.alloc (.cells #[v] t)).cell? ((⟨w.heap.size, 0, none⟩ : Addr).add j) = some u := by
  cases j with
  | zero =>
    simp only [List.getElem?_cons_zero, Option.some.injEq] at h
    subst h
    exact cell_of_row _ _ _ _ _ _ (heap_alloc_new w _)
  | succ j => simp at h
theorem conv16h (k : Nat) (h : k < 65536) : IntKind.wrap .u16 (k : Int) = (k : Int) := by
  simp only [IntKind.wrap, show IntKind.u16.bits = 16 from rfl, show IntKind.u16.signed = false from rfl]
  simp; omega
def nl16 (l : List Nat) : List Value := l.map fun n => Value.int .u16 ((n : Nat) : Int)
theorem nl16_len (l : List Nat) : (nl16 l).length = l.length := by simp [nl16]
theorem nl16_snoc (l : List Nat) (n : Nat) : nl16 l ++ [Value.int .u16 ((n : Nat) : Int)] = nl16 (l ++ [n]) := by simp [nl16]
theorem nl16_set (l : List Nat) (j n : Nat) : (nl16 l).set j (Value.int .u16 ((n : Nat) : Int)) = nl16 (l.set j n) := by unfold nl16; rw [List.map_set]
theorem nl16_at (l : List Nat) (j : Nat) (hj : j < l.length) : (nl16 l)[j]? = some (.int .u16 ((l.getD j 0 : Nat) : Int)) := by
  unfold nl16
  rw [List.getElem?_map, List.getElem?_eq_getElem hj, List.getD_eq_getElem?_getD, List.getElem?_eq_getElem hj]; rfl
/-- two slices of the call's own -/
def HW (w wr : World) (n gb1 c1 gb2 c2 : Nat) (l1 l2 : List Nat) : Prop :=
  wr.ownsRow w.heap.size 29 1 (.slice (some ⟨gb1, 0, none⟩) n c1) n (nl16 l1) ∧ wr.ownsRow w.heap.size 29 1 (.slice (some ⟨gb2, 0, none⟩) n c2) n (nl16 l2) ∧ gb1 ≠ gb2 ∧ Below w.heap.size w wr
section
variable {w wr : World} {n gb1 c1 gb2 c2 : Nat} {l1 l2 : List Nat}
theorem HW.len1 (h : HW w wr n gb1 c1 gb2 c2 l1 l2) : l1.length = n := by have := h.1.1; rw [nl16_len] at this; omega
theorem HW.len2 (h : HW w wr n gb1 c1 gb2 c2 l1 l2) : l2.length = n := by have := h.2.1.1; rw [nl16_len] at this; omega
theorem HW.cell1 (h : HW w wr n gb1 c1 gb2 c2 l1 l2) (j : Nat) (hj : j < n) : wr.cell? ⟨gb1, j, none⟩ = some (.int .u16 ((l1.getD j 0 : Nat) : Int)) :=
  (h.1.cellAt j (by omega)).trans (nl16_at l1 j (by rw [h.len1]; exact hj))
theorem HW.cell2 (h : HW w wr n gb1 c1 gb2 c2 l1 l2) (j : Nat) (hj : j < n) : wr.cell? ⟨gb2, j, none⟩ = some (.int .u16 ((l2.getD j 0 : Nat) : Int)) :=
  (h.2.1.cellAt j (by omega)).trans (nl16_at l2 j (by rw [h.len2]; exact hj))
theorem HW.free1 (h : HW w wr n gb1 c1 gb2 c2 l1 l2) (j : Nat) : wr.frozen? ⟨gb1, j, none⟩ = false := h.1.frozenAt j
theorem HW.free2 (h : HW w wr n gb1 c1 gb2 c2 l1 l2) (j : Nat) : wr.frozen? ⟨gb2, j, none⟩ = false := h.2.1.frozenAt j
theorem HW.put1 (h : HW w wr n gb1 c1 gb2 c2 l1 l2) (j v : Nat) : HW w (wr.setCell ⟨gb1, j, none⟩ (Value.int .u16 ((v : Nat) : Int))) n gb1 c1 gb2 c2 (l1.set j v) l2 := by
  obtain ⟨a, b, c, d⟩ := h
  have s := a.stored j (Value.int .u16 ((v : Nat) : Int))
  refine ⟨by rw [← nl16_set]; exact s.1, b.kept s.2 (.inr (fun e => c (by simpa [Value.ownBlock] using e.symm))), c, d.grown s.2 (Nat.le_of_lt (Nat.lt_of_le_of_lt (a.lt gb1 rfl).1 (a.lt gb1 rfl).2)) (fun k hk => by have := (a.lt gb1 rfl).1; cases hk; exact this)⟩
theorem HW.put2 (h : HW w wr n gb1 c1 gb2 c2 l1 l2) (j v : Nat) : HW w (wr.setCell ⟨gb2, j, none⟩ (Value.int .u16 ((v : Nat) : Int))) n gb1 c1 gb2 c2 l1 (l2.set j v) := by
  obtain ⟨a, b, c, d⟩ := h
  have s := b.stored j (Value.int .u16 ((v : Nat) : Int))
  refine ⟨a.kept s.2 (.inr (fun e => c (by simpa [Value.ownBlock] using e))), by rw [← nl16_set]; exact s.1, c, d.grown s.2 (Nat.le_of_lt (Nat.lt_of_le_of_lt (b.lt gb2 rfl).1 (b.lt gb2 rfl).2)) (fun k hk => by have := (b.lt gb2 rfl).1; cases hk; exact this)⟩
theorem HW.drewN (h : HW w wr n gb1 c1 gb2 c2 l1 l2) (m : Nat) : HW w (wr.drewN m) n gb1 c1 gb2 c2 l1 l2 := ⟨own_below h.1 (bdrewN (Below.refl _ wr) m), own_below h.2.1 (bdrewN (Below.refl _ wr) m), h.2.2.1, bdrewN h.2.2.2 m⟩
theorem HW.drew (h : HW w wr n gb1 c1 gb2 c2 l1 l2) : HW w wr.drew n gb1 c1 gb2 c2 l1 l2 := ⟨h.1.drew, h.2.1.drew, h.2.2.1, h.2.2.2.drew⟩
end
theorem getD_b (l : List Nat) (h : ∀ x ∈ l, x < 65536) (j : Nat) : l.getD j 0 < 65536 := by
  rw [List.getD_eq_getElem?_getD]
  cases e : l[j]? with
  | none => decide
  | some x => exact h x (List.mem_of_getElem? e)
theorem rd_b {l1 l2 : List Nat} (h1 : ∀ x ∈ l1, x < 65536) (h2 : ∀ x ∈ l2, x < 65536) {a b : Nat} (ha : a < 65536) (hb : b < 65536) : ∀ i, (Nim.rd l1 l2 i (a, b)).1 < 65536 ∧ (Nim.rd l1 l2 i (a, b)).2 < 65536
  | 0 => ⟨ha, hb⟩
  | i + 1 => by
    have ih := rd_b h1 h2 ha hb i
    unfold Nim.rd Nim.rdStep
    split
    · exact ⟨Nim.x_b ih.1 (getD_b l1 h1 i), Nim.x_b ih.2 (getD_b l2 h2 i)⟩
    · exact ih
theorem set_b {l : List Nat} (h : ∀ x ∈ l, x < 65536) (j : Nat) {v : Nat} (hv : v < 65536) : ∀ x ∈ l.set j v, x < 65536 := fun x hx => by
  rcases List.mem_or_eq_of_mem_set hx with h1 | h1
  · exact h x h1
  · rw [h1]; exact hv
theorem swp_b {l : List Nat} (h : ∀ x ∈ l, x < 65536) (j : Nat) : ∀ x ∈ Nim.swp l j, x < 65536 := set_b (set_b h j (getD_b l h _)) _ (getD_b l h _)
theorem shl_pow : ∀ n : Nat, n < 15 → 2 ^ (n + 1) < 65536 := fun n hn => by
  rcases fifteen n hn with h | h | h | h | h | h | h | h | h | h | h | h | h | h | h <;> subst h <;> decide
theorem xor16 (a b : Nat) (ha : a < 65536) (hb : b < 65536) : bits .xor .u16 (a : Int) (b : Int) = ((a ^^^ b : Nat) : Int) := (bits_xor a b (by omega) (by omega) (by omega) (by omega)).trans (xorI_nat a b)
set_option maxRecDepth 100000 in
set_option maxHeartbeats 4000000 in
theorem l01Half_any (a : Nat) (ha : a < 65536) (w : World) : Calls Try.prog 134 #[.int .u16 a] w fun e w' => e = .returned (.tuple #[.int .u16 ((Nim.rd Nim.halfRows Nim.halfFrom 15 (a, 0)).2 : Nat), .bool ((((Nim.rd Nim.halfRows Nim.halfFrom 15 (a, 0)).1 : Nat) : Int) == 0)]) ∧ Below w.heap.size w w' := by
  obtain ⟨i0, hi, hz0, hz1, hz2⟩ := nim_parts infoNim
  go_enter Try.func134, Try.ntmps134
  go_wp2_with fail
  go_loopw [7, 4, 5] (fun y r f wr => ∃ (n gb1 c1 gb2 c2 : Nat), y = .int .u64 ((n : Int) + 1) ∧ n ≤ 15 ∧ r = .slice (some ⟨gb1, 0, none⟩) n c1 ∧ f = .slice (some ⟨gb2, 0, none⟩) n c2 ∧ Hid (HW w wr n gb1 c1 gb2 c2 (Nim.rowsN n).1 (Nim.rowsN n).2)) (fun y _ _ _ => (16 - intOf y).toNat)
  case atStart =>
    refine ⟨0, w.heap.size, 0, w.heap.size + 1, 0, rfl, by omega, rfl, rfl, Lib.hid ⟨?_, ?_, ?_, ?_⟩⟩
    · exact World.ownsRow.alloc ⟨rfl, .inr ⟨w.heap.size, 0, #[], rfl, Nat.le_refl _, heap_alloc_new w _, Nat.le_refl _, by unfold maxLen; omega, rfl, rfl⟩⟩ _
    · have e : (w.alloc (.cells #[] 29)).heap.size = w.heap.size + 1 := World.size_alloc _ _
      rw [← e]
      exact ⟨rfl, .inr ⟨_, 0, #[], rfl, by rw [World.size_alloc]; omega, heap_alloc_new _ _, Nat.le_refl _, by unfold maxLen; omega, rfl, rfl⟩⟩
    · omega
    · exact ((Below.refl _ w).alloc (Nat.le_refl _) _).alloc (by rw [World.size_alloc]; omega) _
  case round =>
    obtain ⟨n, gb1, c1, gb2, c2, rfl, hn, rfl, rfl, H⟩ := hrel
    by_cases hlt : n < 15
    · have T1 : decide ((n : Int) + 1 < 16) = true := by simp; omega
      obtain ⟨hl1, hl2, hb1, hb2⟩ := Nim.rowsN_len n hn
      have HB1 := Lib.hid hb1
      have HB2 := Lib.hid hb2
      obtain ⟨E, hE⟩ : ∃ E, E = Nim.rowsN (n + 1) := ⟨_, rfl⟩
      have hst : E = Nim.addBit (Nim.rowsN n) (n + 1) := hE
      have HE := Lib.hid hE
      clear hE hb1 hb2
      generalize Nim.rowsN n = rn at hst HB1 HB2 H hl1 hl2
      obtain ⟨l1, l2⟩ := rn
      replace H : Hid (HW w wr n gb1 c1 gb2 c2 l1 l2) := H
      replace HB1 : Hid (∀ x ∈ l1, x < 65536) := HB1
      replace HB2 : Hid (∀ x ∈ l2, x < 65536) := HB2
      have ob := shl_pow n hlt
      obtain ⟨o, ho⟩ : ∃ o, o = 2 ^ (n + 1) := ⟨_, rfl⟩
      rw [← ho] at ob
      have hr : Nim.bitRow (l1, l2) (n + 1) = Nim.rd l1 l2 n (o ^^^ Nim.mul o o, o) := by
        unfold Nim.bitRow
        rw [← ho, Nim.fm_mul o o ob ob, show (l1, l2).1.length = n from hl1]
      have hE2 : E = Nim.bub n (l1 ++ [(Nim.rd l1 l2 n (o ^^^ Nim.mul o o, o)).1], l2 ++ [(Nim.rd l1 l2 n (o ^^^ Nim.mul o o, o)).2]) := by
        rw [hst]; unfold Nim.addBit
        rw [hr, show (l1, l2).1.length = n from hl1]
      have HE2 := Lib.hid hE2
      have TS : IntKind.wrap .u16 ((2 : Int) ^ (n + 1)) = (o : Int) := by
        rw [show ((2 : Int) ^ (n + 1)) = (o : Int) from by rw [ho]; simp]
        exact conv16h o ob
      have HO := Lib.hid ho
      clear hst hr hE2 ho hl1 hl2
      go_wp2_with fail
      refine (ltimes_eq o o (by omega) (by omega) (by omega) (by omega) _).mono ?_
      rintro e wb ⟨rfl, rfl⟩
      have hm : mulI (o : Int) (o : Int) = ((Nim.mul o o : Nat) : Int) := by unfold mulI; rw [Int.toNat_natCast]
      rw [hm]
      have mb := Nim.mul_b ob ob
      have x0 := xor16 o (Nim.mul o o) ob mb
      have rb := Nim.x_b ob mb
      obtain ⟨r0, hr0⟩ : ∃ r0, r0 = o ^^^ Nim.mul o o := ⟨_, rfl⟩
      rw [← hr0] at x0 rb HE2
      clear hm hr0
      go_wp2_with fail
      clear x0 mb
      go_loopw [10, 9, 8] (fun y r f wr => ∃ (i row own : Nat), y = .int .i64 i ∧ i ≤ n ∧ r = .int .u16 row ∧ f = .int .u16 own ∧ Hid (Nim.rd l1 l2 i (r0, o) = (row, own)) ∧ row < 65536 ∧ own < 65536 ∧ Hid (HW w wr n gb1 c1 gb2 c2 l1 l2)) (fun y _ _ _ => (15 - intOf y).toNat)
      case atStart => exact ⟨0, r0, o, rfl, by omega, rfl, rfl, Lib.hid rfl, rb, ob, H⟩
      case round =>
        clear H
        obtain ⟨i, row, own, rfl, hin, rfl, rfl, HR, hrow, hown, H⟩ := hrel
        by_cases hli : i < n
        · have T2 : decide ((i : Int) < (n : Int)) = true := by simp; omega
          have q1 := H.out.cell1 i hli
          have q2 := H.out.cell2 i hli
          have b1 := getD_b l1 HB1.out i
          have b2 := getD_b l2 HB2.out i
          have hs := Lib.hid (show Nim.rd l1 l2 (i + 1) (r0, o) = Nim.rdStep l1 l2 i (row, own) by rw [← HR.out]; rfl)
          generalize hx1 : l1.getD i 0 = x1 at q1 b1
          generalize hx2 : l2.getD i 0 = x2 at q2 b2
          have HX1 := Lib.hid hx1
          have HX2 := Lib.hid hx2
          clear hx1 hx2
          have bx := xor16 row x1 hrow b1
          have by2 := xor16 own x2 hown b2
          by_cases hd : row ^^^ x1 < row
          · have T3 : decide ((((row ^^^ x1 : Nat) : Int)) < (row : Int)) = true := by simp; omega
            have HD := Lib.hid hd
            have z1 := Nim.x_b hrow b1
            have z2 := Nim.x_b hown b2
            clear hd
            go_wp2_with fail
            exact ⟨⟨i + 1, row ^^^ x1, own ^^^ x2, rfl, by omega, rfl, rfl, Lib.hid (by
              rw [hs.out]; unfold Nim.rdStep; rw [HX1.out, HX2.out, if_pos HD.out]), z1, z2, H⟩, by simp [intOf]; omega⟩
          · have T3 : decide ((((row ^^^ x1 : Nat) : Int)) < (row : Int)) = false := by simp; omega
            have HD := Lib.hid hd
            clear hd
            go_wp2_with fail
            exact ⟨⟨i + 1, row, own, rfl, by omega, rfl, rfl, Lib.hid (by
              rw [hs.out]; unfold Nim.rdStep; rw [HX1.out, if_neg HD.out]), hrow, hown, H⟩, by simp [intOf]; omega⟩
        · obtain rfl : i = n := by omega
          have T2 : decide ((i : Int) < (i : Int)) = false := by simp
          rw [HR.out] at HE2
          clear HR
          obtain ⟨k1, k2, k3, k4⟩ := H.out
          have hg1 := k1.lt gb1 rfl
          have hg2 := k2.lt gb2 rfl
          go_upto_region 16 with (at_builtin; refine wpList_append_lies _ rfl _ _ 72 rfl w.heap.size 29 i0 (.int .u16 0) 1 2 Try.underlying72 hi hz0 hz1 hz2 rfl (by decide) _ i _ rfl (k1.alloc _) ⟨wr.heap.size, 0, none⟩ 1 1 [.int .u16 row] rfl rfl ?c1 ?c2 (by decide) ?c3 ?c4 ?c5 _ rfl ?_)
          try case c1 => exact one_cell3 _ _ _
          try case c2 => (first | (simp [Value.oneCell']) | omega | (rw [World.size_alloc]; omega))
          try case c3 => (first | (unfold maxLen; omega) | omega | (rw [World.size_alloc]; omega))
          try case c4 => (first | (omega) | omega | (rw [World.size_alloc]; omega))
          try case c5 => (first | (rw [World.size_alloc]; omega) | omega | (rw [World.size_alloc]; omega))
          intro g1 cap1 wz p1 hgr hat hl
          rw [nl16_snoc] at p1
          have p2 := (k2.alloc (.cells #[.int .u16 row] 29)).kept hgr (.inr (fun e => k3 (by simpa [Value.ownBlock] using e.symm)))
          have p3 : g1 ≠ gb2 := by
            rcases hat with h | h
            · have : gb1 = g1 := by simpa [Value.ownBlock] using h
              omega
            · (try rw [World.size_alloc] at h); omega
          have p4 : Below w.heap.size w wz := (k4.alloc (by omega) _).grown hgr (by rw [World.size_alloc]; omega) (fun k hk => by
            have : gb1 = k := by simpa [Value.ownBlock] using hk
            omega)
          clear k1 k2 k3 k4 hg1 hg2 hgr hat hl H
          have hg1 := p1.lt g1 rfl
          have hg2 := p2.lt gb2 rfl
          go_upto_region 17 with (at_builtin; refine wpList_append_lies _ rfl _ _ 72 rfl w.heap.size 29 i0 (.int .u16 0) 1 2 Try.underlying72 hi hz0 hz1 hz2 rfl (by decide) _ i _ rfl (p2.alloc _) ⟨wz.heap.size, 0, none⟩ 1 1 [.int .u16 own] rfl rfl ?d1 ?d2 (by decide) ?d3 ?d4 ?d5 _ rfl ?_)
          try case d1 => exact one_cell3 _ _ _
          try case d2 => (first | (simp [Value.oneCell']) | omega | (rw [World.size_alloc]; omega))
          try case d3 => (first | (unfold maxLen; omega) | omega | (rw [World.size_alloc]; omega))
          try case d4 => (first | (omega) | omega | (rw [World.size_alloc]; omega))
          try case d5 => (first | (rw [World.size_alloc]; omega) | omega | (rw [World.size_alloc]; omega))
          intro g2 cap2 wy s2 hgr hat hl
          rw [nl16_snoc] at s2
          have s1 := (p1.alloc (.cells #[.int .u16 own] 29)).kept hgr (.inr (fun e => p3 (by simpa [Value.ownBlock] using e)))
          have s3 : g1 ≠ g2 := by
            rcases hat with h | h
            · have : gb2 = g2 := by simpa [Value.ownBlock] using h
              omega
            · (try rw [World.size_alloc] at h); omega
          have s4 : Below w.heap.size w wy := (p4.alloc (by omega) _).grown hgr (by rw [World.size_alloc]; omega) (fun k hk => by
            have : gb2 = k := by simpa [Value.ownBlock] using hk
            omega)
          have H : Hid (HW w wy (i + 1) g1 cap1 g2 cap2 (l1 ++ [row]) (l2 ++ [own])) := Lib.hid ⟨s1, s2, s3, s4⟩
          have B1 : Hid (∀ x ∈ l1 ++ [row], x < 65536) := Lib.hid (fun x hx => by
            rcases List.mem_append.1 hx with h | h
            · exact HB1.out x h
            · simp at h; omega)
          have B2 : Hid (∀ x ∈ l2 ++ [own], x < 65536) := Lib.hid (fun x hx => by
            rcases List.mem_append.1 hx with h | h
            · exact HB2.out x h
            · simp at h; omega)
          clear p1 p2 p3 p4 hg1 hg2 hgr hat hl s1 s2 s3 s4
          generalize l1 ++ [row] = m1 at H B1 HE2
          generalize l2 ++ [own] = m2 at H B2 HE2
          go_wp2_with fail
          go_loopw [11] (fun y wr => ∃ (j : Nat) (m1 m2 : List Nat), y = .int .i64 j ∧ j ≤ i ∧ Hid (HW w wr (i + 1) g1 cap1 g2 cap2 m1 m2) ∧ Hid (∀ x ∈ m1, x < 65536) ∧ Hid (∀ x ∈ m2, x < 65536) ∧ Hid (E = Nim.bub j (m1, m2))) (fun y _ => (intOf y).toNat)
          case atStart => exact ⟨i, m1, m2, by first | rfl | (simp), Nat.le_refl i, H, B1, B2, HE2⟩
          case round =>
            clear H B1 B2 HE2
            obtain ⟨j, m1, m2, rfl, hj, H, B1, B2, HE2⟩ := hrel
            rcases j with _ | j
            · have T4 : decide ((0 : Int) < ((0 : Nat) : Int)) = false := by simp
              go_wp2_with fail
              go_quiet (fail)
              go_wp2_with fail
              have e1 : Nim.rowsN (i + 1) = (m1, m2) := by rw [← HE.out, HE2.out]; rfl
              exact ⟨⟨i + 1, g1, cap1, g2, cap2, by simp, by omega, rfl, rfl, by rw [e1]; exact Lib.hid (H.out.drewN nq)⟩, by simp [intOf]; omega⟩
            · have T4 : decide ((0 : Int) < ((j + 1 : Nat) : Int)) = true := decide_eq_true (by omega)
              have q1 := H.out.cell1 (j + 1) (by omega)
              have q2 := H.out.cell1 j (by omega)
              have b1 := getD_b m1 B1.out (j + 1)
              have b2 := getD_b m1 B1.out j
              generalize hx1 : m1.getD (j + 1) 0 = x1 at q1 b1
              generalize hx2 : m1.getD j 0 = x2 at q2 b2
              have HX1 := Lib.hid hx1
              have HX2 := Lib.hid hx2
              clear hx1 hx2
              by_cases hd : x2 < x1
              · have T5 : decide ((x2 : Int) < (x1 : Int)) = true := by simp; omega
                have HD := Lib.hid hd
                have f1 := H.out.free1 (j + 1)
                clear hd
                go_wp2_with fail
                go_quiet (fail)
                have f2 : (wr.drewN nq).frozen? ⟨g1, j + 1, none⟩ = false := (H.out.drewN nq).free1 (j + 1)
                go_upto_region 22 with fail
                have H1 := Lib.hid ((H.out.drewN nq).put1 (j + 1) x2)
                generalize World.setCell _ _ _ = w1 at H1 ⊢
                have q3 := H1.out.cell1 j (by omega)
                have f3 := H1.out.free1 j
                clear H q1 q2 f1 f2
                go_upto_region 23 with fail
                have H2 := Lib.hid (H1.out.put1 j x1)
                generalize World.setCell _ _ _ = w2 at H2 ⊢
                have q4 := H2.out.cell2 (j + 1) (by omega)
                have q5 := H2.out.cell2 j (by omega)
                have f4 := H2.out.free2 (j + 1)
                generalize hy1 : m2.getD (j + 1) 0 = y1 at q4
                generalize hy2 : m2.getD j 0 = y2 at q5
                have HY1 := Lib.hid hy1
                have HY2 := Lib.hid hy2
                clear hy1 hy2 H1 q3 f3
                go_upto_region 25 with fail
                have H3 := Lib.hid (H2.out.put2 (j + 1) y2)
                generalize World.setCell _ _ _ = w3 at H3 ⊢
                have q6 := H3.out.cell2 j (by omega)
                have f5 := H3.out.free2 j
                clear H2 q4 q5 f4
                go_wp2_with fail
                have H4 := Lib.hid (H3.out.put2 j y1)
                have e1 : (m1.set (j + 1) x2).set j x1 = Nim.swp m1 (j + 1) := by unfold Nim.swp; rw [show j + 1 - 1 = j from rfl, HX1.out, HX2.out]
                have e2 : (m2.set (j + 1) y2).set j y1 = Nim.swp m2 (j + 1) := by unfold Nim.swp; rw [show j + 1 - 1 = j from rfl, HY1.out, HY2.out]
                exact ⟨⟨j, Nim.swp m1 (j + 1), Nim.swp m2 (j + 1), by simp, by omega, by rw [← e1, ← e2]; exact H4, Lib.hid (swp_b B1.out _), Lib.hid (swp_b B2.out _), Lib.hid (by
                  rw [HE2.out]
                  show (if m1.getD j 0 < m1.getD (j + 1) 0 then Nim.bub j (Nim.swp m1 (j + 1), Nim.swp m2 (j + 1)) else (m1, m2)) = _
                  rw [HX1.out, HX2.out, if_pos HD.out])⟩, by simp [intOf]⟩
              · have T5 : decide ((x2 : Int) < (x1 : Int)) = false := by simp; omega
                have HD := Lib.hid hd
                clear hd
                go_wp2_with fail
                go_quiet (fail)
                go_wp2_with fail
                have e1 : Nim.rowsN (i + 1) = (m1, m2) := by
                  rw [← HE.out, HE2.out]
                  show (if m1.getD j 0 < m1.getD (j + 1) 0 then Nim.bub j (Nim.swp m1 (j + 1), Nim.swp m2 (j + 1)) else (m1, m2)) = _
                  rw [HX1.out, HX2.out, if_neg HD.out]
                exact ⟨⟨i + 1, g1, cap1, g2, cap2, by simp, by omega, rfl, rfl, by rw [e1]; exact Lib.hid (H.out.drewN nq)⟩, by simp [intOf]; omega⟩
    · obtain rfl : n = 15 := by omega
      have T1 : decide ((((15 : Nat) : Int)) + 1 < 16) = false := by simp
      rw [Nim.rows15] at H
      replace H : Hid (HW w wr 15 gb1 c1 gb2 c2 Nim.halfRows Nim.halfFrom) := H
      have hb1 : ∀ x ∈ Nim.halfRows, x < 65536 := by decide
      have hb2 : ∀ x ∈ Nim.halfFrom, x < 65536 := by decide
      obtain ⟨l1, hl1⟩ : ∃ l, l = Nim.halfRows := ⟨_, rfl⟩
      obtain ⟨l2, hl2⟩ : ∃ l, l = Nim.halfFrom := ⟨_, rfl⟩
      rw [← hl1, ← hl2] at H
      rw [← hl1] at hb1
      rw [← hl2] at hb2
      have HB1 := Lib.hid hb1
      have HB2 := Lib.hid hb2
      have HL1 := Lib.hid hl1
      have HL2 := Lib.hid hl2
      clear hl1 hl2 hb1 hb2
      go_wp2_with fail
      go_loopw [12, 0, 6] (fun y r f wr => ∃ (i row own : Nat), y = .int .i64 i ∧ i ≤ 15 ∧ r = .int .u16 row ∧ f = .int .u16 own ∧ Hid (Nim.rd l1 l2 i (a, 0) = (row, own)) ∧ row < 65536 ∧ own < 65536 ∧ Hid (HW w wr 15 gb1 c1 gb2 c2 l1 l2)) (fun y _ _ _ => (15 - intOf y).toNat)
      case atStart => exact ⟨0, a, 0, rfl, by omega, rfl, rfl, Lib.hid rfl, ha, by omega, H⟩
      case round =>
        clear H
        obtain ⟨i, row, own, rfl, hin, rfl, rfl, HR, hrow, hown, H⟩ := hrel
        by_cases hli : i < 15
        · have T2 : decide ((i : Int) < (15 : Int)) = true := by simp; omega
          have q1 := H.out.cell1 i hli
          have q2 := H.out.cell2 i hli
          have b1 := getD_b l1 HB1.out i
          have b2 := getD_b l2 HB2.out i
          have hs := Lib.hid (show Nim.rd l1 l2 (i + 1) (a, 0) = Nim.rdStep l1 l2 i (row, own) by rw [← HR.out]; rfl)
          generalize hx1 : l1.getD i 0 = x1 at q1 b1
          generalize hx2 : l2.getD i 0 = x2 at q2 b2
          have HX1 := Lib.hid hx1
          have HX2 := Lib.hid hx2
          clear hx1 hx2
          have bx := xor16 row x1 hrow b1
          have by2 := xor16 own x2 hown b2
          by_cases hd : row ^^^ x1 < row
          · have T3 : decide ((((row ^^^ x1 : Nat) : Int)) < (row : Int)) = true := by simp; omega
            have HD := Lib.hid hd
            have z1 := Nim.x_b hrow b1
            have z2 := Nim.x_b hown b2
            clear hd
            go_wp2_with fail
            exact ⟨⟨i + 1, row ^^^ x1, own ^^^ x2, rfl, by omega, rfl, rfl, Lib.hid (by
              rw [hs.out]; unfold Nim.rdStep; rw [HX1.out, HX2.out, if_pos HD.out]), z1, z2, H⟩, by simp [intOf]; omega⟩
          · have T3 : decide ((((row ^^^ x1 : Nat) : Int)) < (row : Int)) = false := by simp; omega
            have HD := Lib.hid hd
            clear hd
            go_wp2_with fail
            exact ⟨⟨i + 1, row, own, rfl, by omega, rfl, rfl, Lib.hid (by
              rw [hs.out]; unfold Nim.rdStep; rw [HX1.out, if_neg HD.out]), hrow, hown, H⟩, by simp [intOf]; omega⟩
        · obtain rfl : i = 15 := by omega
          have T2 : decide ((((15 : Nat) : Int)) < (15 : Int)) = false := by simp
          have e1 : Nim.rd Nim.halfRows Nim.halfFrom 15 (a, 0) = (row, own) := by rw [← HL1.out, ← HL2.out, HR.out]
          have HE1 := Lib.hid e1
          clear e1
          go_wp2_with fail
          go_ret2
          exact ⟨by rw [HE1.out]; rfl, H.out.2.2.2⟩
theorem spec_HalfRoot (a : Nat) (a1 : a < 65536) (w : World) : Calls Try.prog 77 #[.int .u16 a] w fun e w' => e = .returned (halfV a) ∧ Below w.heap.size w w' := by
  go_enter Try.func77, Try.ntmps77
  go_wp2_with fail
  refine (l01Half_any a a1 _).mono ?_
  rintro e wb ⟨rfl, hn⟩
  by_cases h : a < 32768
  · have h1 : ((((Nim.rd Nim.halfRows Nim.halfFrom 15 (a, 0)).1 : Nat) : Int) == 0) = true := by rw [Nim.rd_zero h]; rfl
    have h2 : (Nim.rd Nim.halfRows Nim.halfFrom 15 (a, 0)).2 = Nim.half a := by rw [(Nim.rd_half a 15 (Nat.le_refl 15)).2, Nim.pick_half]
    have hV : halfV a = .tuple #[.int .u16 (Nim.half a : Nat), .int .i64 0] := by unfold halfV; rw [if_pos h]
    rw [h1, h2]
    have HV := Lib.hid hV
    generalize Nim.half a = z at HV ⊢
    clear h1 h2 hV h
    go_wp2_with fail
    go_ret2
    exact ⟨congrArg Ending.returned HV.out.symm, hn⟩
  · have h1 : ((((Nim.rd Nim.halfRows Nim.halfFrom 15 (a, 0)).1 : Nat) : Int) == 0) = false := by
      have := Nim.rd_more (Nat.le_of_not_lt h) a1
      simp; omega
    have hV : halfV a = .tuple #[.int .u16 0, .int .i64 6] := by unfold halfV; rw [if_neg h]
    rw [h1]
    generalize (Nim.rd Nim.halfRows Nim.halfFrom 15 (a, 0)).2 = z
    have HV := Lib.hid hV
    clear h1 hV h
    go_wp2_with fail
    go_ret2
    exact ⟨congrArg Ending.returned HV.out.symm, hn⟩
end Go.Proofs.Ytjbaeomjinnlhaa
