/-
  Lists of nimbers that are an answer: marked, and looked at again.
-/
import Derived.Test.YtnpadkkjaeblfaaLaw
import Derived.OwnWalk
namespace Go.Proofs.Ytnpadkkjaeblfaa
set_option linter.unusedVariables false
set_option linter.unusedSimpArgs false
open Go.ChangeShapes Go.WideShapes Go.ChangeAt Go.RowKit
theorem own_form {w : World} {base n : Nat} {e : TypeId} {size : Nat} {v : Value} {xs : List Value} (h : w.ownsRow base e size v n xs) :
    ∃ A c, v = .slice A n c ∧ n ≤ maxLen ∧ (0 < n → ∃ g, A = some ⟨g, 0, none⟩ ∧ base ≤ g ∧ g < w.heap.size) := by
  rcases h.2 with ⟨rfl, rfl⟩ | ⟨g, cap, cur, rfl, h1, hg, h2, h3, _⟩
  · exact ⟨none, 0, rfl, Nat.zero_le _, fun x => by omega⟩
  · exact ⟨some ⟨g, 0, none⟩, cap, rfl, by omega, fun _ => ⟨g, rfl, h1, (Array.getElem?_eq_some_iff.1 hg).1⟩⟩
theorem grown_put (w : World) (g o : Nat) (x : Value) : w.grownBy (w.setCell ⟨g, o, none⟩ x) (some g) := by
  refine ⟨rfl, rfl, rfl, by simp [World.setCell], fun k hk hne => ?_⟩
  exact Below.heap_setCell _ _ _ _ (fun e => hne (by have e2 : k = g := by first | exact e | exact e.symm
                                                     rw [e2]))
theorem grown_trans {a b c : World} {r : Option Nat} (h1 : a.grownBy b r) (h2 : b.grownBy c r) : a.grownBy c r :=
  ⟨h2.os.trans h1.os, h2.tape.trans h1.tape, h2.output.trans h1.output, Nat.le_trans h1.size h2.size, fun k hk hne => (h2.block k (Nat.lt_of_lt_of_le hk h1.size) hne).trans (h1.block k hk hne)⟩
theorem grown_refl (w : World) (r : Option Nat) : w.grownBy w r := ⟨rfl, rfl, rfl, Nat.le_refl _, fun _ _ _ => rfl⟩
def mark16 (m n : Nat) : List Int := (List.range n).map fun j => IntKind.wrap .u16 ((m + j : Nat) : Int)
theorem mark16_len (m n : Nat) : (mark16 m n).length = n := by unfold mark16; simp
theorem wrap16_small (m : Int) : 0 ≤ IntKind.wrap .u16 m ∧ IntKind.wrap .u16 m < 65536 := by
  simp only [IntKind.wrap, show IntKind.u16.bits = 16 from rfl, show IntKind.u16.signed = false from rfl]
  constructor <;> (simp; omega)
theorem mark16_small (m n : Nat) : ∀ z ∈ mark16 m n, 0 ≤ z ∧ z < 65536 := by
  intro z hz
  unfold mark16 at hz
  obtain ⟨j, _, rfl⟩ := List.mem_map.1 hz
  exact wrap16_small _
theorem mark16_at (m n j : Nat) (hj : j < n) : (mark16 m n).getD j 0 = IntKind.wrap .u16 ((m + j : Nat) : Int) := by
  unfold mark16
  simp [List.getD, hj]
/-- the row while it is being marked -/
def mrk16 (zs : List Int) (m k : Nat) : List Value := u16s (mark16 m k) ++ (u16s zs).drop k
theorem mrk16_zero (zs : List Int) (m : Nat) : mrk16 zs m 0 = u16s zs := by simp [mrk16, mark16, u16s]
theorem mrk16_end (zs : List Int) (m : Nat) : mrk16 zs m zs.length = u16s (mark16 m zs.length) := by simp [mrk16, u16s]
theorem mrk16_next (zs : List Int) (m k : Nat) (hk : k < zs.length) : ∃ x, (mrk16 zs m k)[k]? = some x := by
  refine ⟨_, List.getElem?_eq_getElem (by simp [mrk16, u16s, mark16]; omega)⟩
theorem mrk16_set (zs : List Int) (m k : Nat) (hk : k < zs.length) : (mrk16 zs m k).set k (.int .u16 (IntKind.wrap .u16 ((m + k : Nat) : Int))) = mrk16 zs m (k + 1) := by
  unfold mrk16
  have e : (u16s zs).drop k = .int .u16 zs[k] :: (u16s zs).drop (k + 1) := by
    rw [List.drop_eq_getElem_cons (by simpa [u16s] using hk)]
    simp [u16s]
  rw [List.set_append_right k _ (by simp [u16s, mark16]), e]
  have l : (u16s (mark16 m k)).length = k := by simp [u16s, mark16]
  rw [l, Nat.sub_self, List.set_cons_zero]
  unfold mark16
  rw [List.range_succ, List.map_append]
  simp [u16s]
set_option maxHeartbeats 1000000 in
theorem markNimberS_any (v : Value) (zs : List Int) (hl : zs.length ≤ 1048576) (m : Nat) (hm : m ≤ 1073741824) (B : Nat) (w : World) (h : w.ownsRow B 41 1 v zs.length (u16s zs)) :
    Calls Try.prog 37 #[v, .int .i64 (m : Int)] w fun e w' => e = .returned (.int .i64 ((m + zs.length : Nat) : Int)) ∧ w'.ownsRow B 41 1 v zs.length (u16s (mark16 m zs.length)) ∧ w.grownBy w' v.ownBlock := by
  obtain ⟨A, c, rfl, _, hA⟩ := own_form h
  have HA := Lib.hid hA
  clear hA
  have h0 := h
  rw [← mrk16_zero zs m] at h0
  have H0 := Lib.hid h0
  clear h0 h
  go_enter Try.func37, Try.ntmps37
  go_wp2_with fail
  go_loopw [5, 1] (fun y k wr => ∃ i : Nat, y = .int .i64 i ∧ i ≤ zs.length ∧ k = .int .i64 ((m + i : Nat) : Int) ∧ Hid (wr.ownsRow B 41 1 (.slice A zs.length c) zs.length (mrk16 zs m i)) ∧ Hid (w.grownBy wr (Value.slice A zs.length c).ownBlock)) (fun y _ _ => zs.length - (intOf y).toNat)
  case atStart => exact ⟨0, rfl, by omega, by first | rfl | simp, H0, Lib.hid (grown_refl _ _)⟩
  case round =>
    clear H0
    obtain ⟨i, rfl, hi, rfl, HO, HB⟩ := hrel
    by_cases hlt : i < zs.length
    · have T1 : decide ((i : Int) < (zs.length : Int)) = true := by simp; omega
      obtain ⟨g, rfl, hg1, hg2⟩ := HA.out (by omega)
      have i1 : (i : Int) < (zs.length : Int) := by omega
      obtain ⟨x, hx⟩ := mrk16_next zs m i hlt
      have q1 : wr.cell? ⟨g, i, none⟩ = some x := (HO.out.cellAt i (by omega)).trans hx
      have q2 : wr.frozen? ⟨g, i, none⟩ = false := HO.out.frozenAt _
      have q3 := (HO.out.stored i (.int .u16 (IntKind.wrap .u16 ((m + i : Nat) : Int)))).1
      rw [mrk16_set zs m i hlt] at q3
      have Q3 := Lib.hid q3
      have Q4 := Lib.hid (grown_trans HB.out (grown_put wr g i (.int .u16 (IntKind.wrap .u16 ((m + i : Nat) : Int)))))
      have ws := wrap16_small ((m + i : Nat) : Int)
      obtain ⟨z, hz⟩ : ∃ z, z = IntKind.wrap .u16 ((m + i : Nat) : Int) := ⟨_, rfl⟩
      rw [← hz] at Q3 Q4 ws
      have hz' : IntKind.wrap .u16 ((m : Int) + (i : Int)) = z := by rw [hz]; congr 1
      have hz2 : IntKind.wrap .u16 (((m + i : Nat) : Int)) = z := hz.symm
      clear HO HB q3 hx hz
      go_wp2_with fail
      exact ⟨⟨i + 1, by first | rfl | go_num, by omega, by first | rfl | (simp <;> omega), Q3, Q4⟩, by simp [intOf]; omega⟩
    · obtain rfl : i = zs.length := by omega
      have T1 : decide ((zs.length : Int) < (zs.length : Int)) = false := by simp
      have HE := Lib.hid (mrk16_end zs m)
      go_wp2_with fail
      go_ret
      refine ⟨by first | rfl | simp, ?_, HB.out⟩
      rw [← HE.out]; exact HO.out
set_option maxHeartbeats 1000000 in
theorem heldNimberS_any (v : Value) (n : Nat) (hl : n ≤ 1048576) (m : Nat) (hm : m ≤ 1073741824) (B : Nat) (w : World) (h : NS w v (mark16 m n)) :
    Calls Try.prog 64 #[v, .int .i64 (m : Int)] w fun e w' => e = .returned (.int .i64 ((m + n : Nat) : Int)) ∧ w' = w := by
  obtain ⟨A, c, rfl, _, hc⟩ := h
  rw [mark16_len] at hc ⊢
  have HC := Lib.hid hc
  clear hc
  go_enter Try.func64, Try.ntmps64
  go_wp2_with fail
  go_loopw [5, 1] (fun y k wr => ∃ i : Nat, y = .int .i64 i ∧ i ≤ n ∧ k = .int .i64 ((m + i : Nat) : Int) ∧ w = wr) (fun y _ _ => n - (intOf y).toNat)
  case atStart => exact ⟨0, rfl, by omega, by first | rfl | simp, rfl⟩
  case round =>
    obtain ⟨i, rfl, hi, rfl, rfl⟩ := hrel
    by_cases hlt : i < n
    · have T1 : decide ((i : Int) < (n : Int)) = true := by simp; omega
      obtain ⟨b, off, rfl, hlb, hcell⟩ := HC.out (by omega)
      have i1 : (i : Int) < (n : Int) := by omega
      have q1 := hcell i hlt
      have HCL := Lib.hid hcell
      clear hcell
      rw [mark16_at m n i hlt] at q1
      have ws := wrap16_small ((m + i : Nat) : Int)
      obtain ⟨z, hz⟩ : ∃ z, z = IntKind.wrap .u16 ((m + i : Nat) : Int) := ⟨_, rfl⟩
      rw [← hz] at q1 ws
      have hz' : IntKind.wrap .u16 ((m : Int) + (i : Int)) = z := by rw [hz]; congr 1
      have hz2 : IntKind.wrap .u16 (((m + i : Nat) : Int)) = z := hz.symm
      have T3 : (z != z) = false := by simp
      clear hz
      go_wp2_with fail
      exact ⟨⟨i + 1, by first | rfl | go_num, by omega, by first | rfl | (simp <;> omega), by simp⟩, by simp [intOf]; omega⟩
    · obtain rfl : i = n := by omega
      have T1 : decide ((i : Int) < (i : Int)) = false := by simp
      go_wp2_with fail
      go_ret
      exact ⟨by first | rfl | simp, rfl⟩
end Go.Proofs.Ytnpadkkjaeblfaa
