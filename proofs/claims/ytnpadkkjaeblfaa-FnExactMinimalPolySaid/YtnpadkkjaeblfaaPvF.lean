/-
  FromRoots: of the model and of the program.
-/
import Derived.Test.YtnpadkkjaeblfaaPvE
namespace Go.Proofs.Ytnpadkkjaeblfaa
set_option linter.unusedVariables false
set_option linter.unusedSimpArgs false
open Go.ChangeShapes Go.WideShapes Go.ChangeAt Go.RowKit Go.Shelf

def rootsC (zs : List Int) : Int := if zs.length ≤ 20 then 0 else 3
def rootsA (zs : List Int) : List Int := if zs.length ≤ 20 then rootsL zs else []
theorem rootsA_len (zs : List Int) : (rootsA zs).length ≤ 21 := by
  unfold rootsA
  split
  · have := rootsL_len zs; omega
  · simp
theorem roots_yes {zs : List Int} (h : zs.length ≤ 20) : rootsC zs = 0 ∧ rootsA zs = rootsL zs := by unfold rootsC rootsA; rw [if_pos h, if_pos h]; exact ⟨rfl, rfl⟩
theorem roots_no {zs : List Int} (h : ¬ zs.length ≤ 20) : rootsC zs = 3 ∧ rootsA zs = [] := by unfold rootsC rootsA; rw [if_neg h, if_neg h]; exact ⟨rfl, rfl⟩
theorem values_any (A : Option Addr) (k c : Nat) (w : World) :
    Calls Try.prog 116 #[.slice A k c] w fun e w' => e = .returned (.func (.func 141) #[] #[.pointer (some ⟨w.heap.size, 0, none⟩)]) ∧ w' = w.alloc (.cells #[.slice A k c] 24) := by
  go_enter Try.func116, Try.ntmps116
  go_wp2_with fail
  go_ret
  exact ⟨rfl, rfl⟩
theorem enters_V1 : ∀ args w, (callFunc 141 args).run Try.prog w = .ok (.enter 141 args) w := enters_of Try.func141 (by kernel_rfl) rfl
set_option maxHeartbeats 1000000 in
theorem impl_FromRoots (v : Value) (zs : List Int) (hn : zs.length ≤ 1048576) (w : World) (h : NC w v zs) :
    Calls Try.prog 61 #[v] w fun e w' => ∃ r, e = .returned (.tuple #[r, .int .i64 (rootsC zs)]) ∧ PO w' w.heap.size r (rootsA zs) ∧ Below w.heap.size w w' := by
  have HN := Lib.hid h.ns
  obtain ⟨A, c, rfl, hca⟩ := h.form
  clear h
  by_cases hle : zs.length ≤ 20
  · have E := Lib.hid (roots_yes hle)
    have T1 : decide ((20 : Int) < (zs.length : Int)) = false := by simp; omega
    obtain ⟨wa, hwa⟩ : ∃ wa, wa = w.alloc (.cells #[.slice A zs.length c] 24) := ⟨_, rfl⟩
    have hba : Below w.heap.size w wa := by rw [hwa]; exact (Below.refl _ _).alloc (Nat.le_refl _) _
    have hsz : wa.heap.size = w.heap.size + 1 := by rw [hwa]; simp
    have hbx : wa.cell? ⟨w.heap.size, 0, none⟩ = some (.slice A zs.length c) := by rw [hwa]; exact (Boxed.new w 24 (.slice A zs.length c)).cell
    have hA : 0 < zs.length → ∀ b off, A = some ⟨b, off, none⟩ → b < wa.heap.size := by
      intro h1 b off e
      obtain ⟨b', off', e', hlt, _⟩ := HN.out.spot.2 h1
      rw [e] at e'
      cases e'
      omega
    have hp := polyOfRoots_any 141 #[.pointer (some ⟨w.heap.size, 0, none⟩)] enters_V1 zs (by omega) wa
      (fun l J Jx W hW _ _ hY h0 => values1_in 8 l w.heap.size (by omega) A c zs hn J Jx _ (fun W W' hk => KpB.keeps (h := wa.heap.size) (Bn := w.heap.size) hA W W' ⟨hk, hk _ (by omega)⟩) hY W ((hW.cell (p := ⟨w.heap.size, 0, none⟩) (by show w.heap.size < wa.heap.size; omega)).trans hbx) ((HN.out.below hba).below hW) h0)
    have HP := Lib.hid hp
    have HBA := Lib.hid hba
    have HV : Hid (Calls Try.prog 116 #[.slice A zs.length c] w fun e w' => e = .returned (.func (.func 141) #[] #[.pointer (some ⟨w.heap.size, 0, none⟩)]) ∧ w' = wa) := Lib.hid (by rw [hwa]; exact values_any A zs.length c w)
    have HSZ := Lib.hid hsz
    clear hp hba hwa hsz hbx hA hle
    go_enter Try.func61, Try.ntmps61
    go_wp2_with fail
    refine HV.out.mono ?_
    rintro e w' ⟨rfl, rfl⟩
    go_wp2_with fail
    refine HP.out.mono ?_
    rintro e wn ⟨r, rfl, ho, hb⟩
    have HPO := Lib.hid ((PO.of_own ho rfl (rootsL_in zs)).lower HBA.out.size)
    have HB := Lib.hid (bchain HBA.out hb)
    clear ho hb
    go_wp2_with fail
    go_ret2
    exact ⟨_, by rw [E.out.1]; rfl, by rw [E.out.2]; exact HPO.out, HB.out⟩
  · have E := Lib.hid (roots_no hle)
    have T1 : decide ((20 : Int) < (zs.length : Int)) = true := by simp; omega
    clear hle
    go_enter Try.func61, Try.ntmps61
    go_wp2_with fail
    go_ret2
    exact ⟨_, by rw [E.out.1]; rfl, by rw [E.out.2]; exact PO.nil0 _ _, Below.refl _ _⟩
set_option maxHeartbeats 2000000 in
theorem l05Roots_any (v : Value) (zs : List Int) (hn : zs.length ≤ 1000) (w : World) (h : NS w v zs) :
    Calls Try.prog 114 #[v] w fun e w' => ∃ r, e = .returned r ∧ w'.ownsRow w.heap.size 41 1 r (rootsL zs).length (u16s (rootsL zs)) ∧ Below w.heap.size w w' := by
  have HN := Lib.hid h
  have HU := Lib.hid (inU_of h)
  obtain ⟨A, c, rfl, _, _⟩ := h
  obtain ⟨B, hB⟩ : ∃ B, B = w.heap.size := ⟨_, rfl⟩
  have hO0 : (w.alloc (.cells #[.int .u16 1] 41)).ownsRow B 41 1 (.slice (some ⟨w.heap.size, 0, none⟩) 1 1) (rootsL (zs.take 0)).length (u16s (rootsL (zs.take 0))) := by
    rw [hB]
    have h1 : RW (w.alloc (.cells #[.int .u16 1] 41)) w.heap.size [1] := heap_alloc_new w _
    exact RW.own h1 (Nat.le_refl _) (show 1 ≤ maxLen by unfold maxLen; omega)
  have HO0 := Lib.hid hO0
  have HB0 : Hid (Below B w (w.alloc (.cells #[.int .u16 1] 41))) := Lib.hid (by rw [hB]; exact (Below.refl _ _).alloc (Nat.le_refl _) _)
  have HS0 : Hid (B ≤ (w.alloc (.cells #[.int .u16 1] 41)).heap.size) := Lib.hid (by rw [hB, World.size_alloc]; omega)
  rw [← hB]
  have HBB := Lib.hid hB
  clear hB hO0
  go_enter Try.func114, Try.ntmps114
  go_wp2_with fail
  go_loopw [4, 3] (fun y o wr => ∃ k : Nat, y = .int .i64 (k : Int) ∧ k ≤ zs.length ∧ Hid (wr.ownsRow B 41 1 o (rootsL (zs.take k)).length (u16s (rootsL (zs.take k)))) ∧ Hid (Below B w wr) ∧ Hid (B ≤ wr.heap.size)) (fun y _ _ => zs.length - (intOf y).toNat)
  case atStart => exact ⟨0, rfl, Nat.zero_le _, HO0, HB0, HS0⟩
  case round =>
    clear HO0 HB0 HS0
    obtain ⟨k, rfl, hk, HO, HBW, HS⟩ := hrel
    by_cases hlt : k < zs.length
    · have i1 : (k : Int) < (zs.length : Int) := by omega
      obtain ⟨b, off, rfl, hlb, hcell⟩ := HN.out.spot.2 (by omega)
      have q1 : wr.cell? ⟨b, off + k, none⟩ = some (.int .u16 (zs.getD k 0)) := (HBW.out.cell (p := ⟨b, off + k, none⟩) (by rw [HBB.out]; exact hlb)).trans (hcell k hlt)
      have hxu := mod_u (HU.out.at k)
      obtain ⟨x, hx⟩ : ∃ x, x = zs.getD k 0 := ⟨_, rfl⟩
      rw [← hx] at q1 hxu
      have hsn : zs.take k ++ [x] = zs.take (k + 1) := by
        rw [List.take_succ_eq_append_getElem hlt, hx]
        simp [List.getD, hlt]
      have hs := rootsL_snoc (zs.take k) x
      rw [hsn, hxu] at hs
      have hlen := rootsL_len (zs.take k)
      have hin := rootsL_in (zs.take k)
      have htl : (zs.take k).length = k := by rw [List.length_take]; omega
      rw [htl] at hlen
      have hin2 : inU [x, 1] := by rw [← hxu]; exact two_in x
      obtain ⟨L2, hL2⟩ : ∃ L2, L2 = rootsL (zs.take (k + 1)) := ⟨_, rfl⟩
      obtain ⟨L1, hL1⟩ : ∃ L1, L1 = rootsL (zs.take k) := ⟨_, rfl⟩
      rw [← hL1] at HO hs hlen hin
      rw [← hL2] at hs
      have hO2 := own_below HO.out ((Below.refl wr.heap.size wr).alloc (Nat.le_refl _) (.cells #[.int .u16 x, .int .u16 1] 41))
      have hna := (PO.of_own hO2 rfl hin).ns
      obtain ⟨A1, c1, rfl, _, _⟩ := own_form HO.out
      have hnb : NS (wr.alloc (.cells #[.int .u16 x, .int .u16 1] 41)) (.slice (some ⟨wr.heap.size, 0, none⟩) 2 2) [x, 1] := by
        have h1 : RW (wr.alloc (.cells #[.int .u16 x, .int .u16 1] 41)) wr.heap.size [x, 1] := heap_alloc_new wr _
        exact RW.ns h1 hin2 2
      have ht := l05Times_any _ _ L1 [x, 1] (by omega) (by simp) _ hna hnb
      rw [← hs] at ht
      have HT := Lib.hid ht
      have HL2 := Lib.hid hL2
      have HBA := Lib.hid (HBW.out.alloc HS.out (.cells #[.int .u16 x, .int .u16 1] 41))
      clear hsn hs hlen hin htl hin2 hL2 hL1 hO2 hna hnb ht hx hcell hxu
      go_wp2_with fail
      refine HT.out.mono ?_
      rintro e w2 ⟨r2, rfl, ho2, hb2⟩
      have HO2 : Hid (w2.ownsRow B 41 1 r2 (rootsL (zs.take (k + 1))).length (u16s (rootsL (zs.take (k + 1))))) := Lib.hid (by rw [← HL2.out]; exact own_low ho2 (by rw [World.size_alloc]; have := HS.out; omega))
      have HB2 := Lib.hid (HBA.out.trans (hb2.mono (by rw [World.size_alloc]; have := HS.out; omega)))
      have HS2 : Hid (B ≤ w2.heap.size) := Lib.hid (by have := hb2.size; rw [World.size_alloc] at this; have := HS.out; omega)
      clear ho2 hb2 HO HBW HS HT HL2 HBA
      go_wp2_with fail
      exact ⟨⟨k + 1, by go_num, by omega, HO2, HB2, HS2⟩, by simp [intOf]; omega⟩
    · obtain rfl : k = zs.length := by omega
      have HO3 : Hid (wr.ownsRow w.heap.size _ 1 _ (rootsL zs).length (u16s (rootsL zs))) := Lib.hid (by have := HO.out; rw [List.take_length, HBB.out] at this; exact this)
      have HB3 : Hid (Below w.heap.size w wr) := Lib.hid (by rw [← HBB.out]; exact HBW.out)
      clear HO HBW
      go_wp2_with fail
      go_ret
      exact ⟨_, rfl, by rw [HBB.out]; exact HO3.out, by first | exact HB3.out | (rw [HBB.out]; exact HB3.out)⟩
set_option maxHeartbeats 1000000 in
theorem spec_FromRoots (v : Value) (zs : List Int) (hn : zs.length ≤ 1048576) (w : World) (h : NC w v zs) :
    Calls Try.prog 60 #[v] w fun e w' => ∃ r, e = .returned (.tuple #[r, .int .i64 (rootsC zs)]) ∧ PO w' w.heap.size r (rootsA zs) ∧ Below w.heap.size w w' := by
  have HN := Lib.hid h.ns
  obtain ⟨A, c, rfl, hca⟩ := h.form
  clear h
  by_cases hle : zs.length ≤ 20
  · have E := Lib.hid (roots_yes hle)
    have T1 : decide ((20 : Int) < (zs.length : Int)) = false := by simp; omega
    have hle2 : zs.length ≤ 1000 := by omega
    clear hle
    go_enter Try.func60, Try.ntmps60
    go_wp2_with fail
    refine (l05Roots_any _ zs hle2 _ HN.out).mono ?_
    rintro e wn ⟨r, rfl, ho, hb⟩
    have HPO := Lib.hid (PO.of_own ho rfl (rootsL_in zs))
    have HB := Lib.hid hb
    clear ho hb
    go_wp2_with fail
    go_ret2
    exact ⟨_, by rw [E.out.1]; rfl, by rw [E.out.2]; exact HPO.out, HB.out⟩
  · have E := Lib.hid (roots_no hle)
    have T1 : decide ((20 : Int) < (zs.length : Int)) = true := by simp; omega
    clear hle
    go_enter Try.func60, Try.ntmps60
    go_wp2_with fail
    go_ret2
    exact ⟨_, by rw [E.out.1]; rfl, by rw [E.out.2]; exact PO.nil _ _ _ _ (by first | exact Nat.zero_le _ | simp) (fun e => by first | rfl | cases e), (Below.refl _ _).alloc (Nat.le_refl _) _⟩
end Go.Proofs.Ytnpadkkjaeblfaa
