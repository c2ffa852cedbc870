/-
  The program reads a game.
-/
import Derived.Test.YtklddmmbbaaliaaDoorRGS
import Derived.Test.YtklddmmbbaaliaaDoorRead
namespace Go.Proofs.YtklddmmbbaaliaaDoor
set_option linter.unusedVariables false
set_option linter.unusedSimpArgs false
open Go.ChangeShapes Go.WideShapes Go.ChangeAt Go.RowKit Go.Deep
theorem int8_ok {l : List UInt8} {v : Int} (h : Lib.parseIntB 8 l = .ok v) : -128 ≤ v ∧ v < 128 ∧ l ≠ [] := by
  cases l with
  | nil => cases h
  | cons c r =>
    refine ⟨?_, ?_, by simp⟩ <;>
    · by_cases h43 : c.toNat = 43
      · obtain rfl : c = 43 := UInt8.toNat_inj.1 h43
        rw [Lib.parseIntB_plus] at h
        cases hu : Lib.parseUintB 8 r with
        | ok u =>
          rw [hu] at h
          simp only [Lib.signlessC] at h
          split at h
          · cases h
          · injection h with h; omega
        | _ => rw [hu] at h; cases h
      · by_cases h45 : c.toNat = 45
        · obtain rfl : c = 45 := UInt8.toNat_inj.1 h45
          rw [Lib.parseIntB_minus] at h
          cases hu : Lib.parseUintB 8 r with
          | ok u =>
            rw [hu] at h
            simp only [Lib.signedC] at h
            split at h
            · cases h
            · injection h with h; omega
          | _ => rw [hu] at h; cases h
        · rw [Lib.parseIntB_plain 8 c r h43 h45] at h
          cases hu : Lib.parseUintB 8 (c :: r) with
          | ok u =>
            rw [hu] at h
            simp only [Lib.signlessC] at h
            split at h
            · cases h
            · injection h with h; omega
          | _ => rw [hu] at h; cases h
theorem parse8 (u : Nat) (hu : u < 60) : Lib.parseIntB 8 (Lib.decDigits u) = .ok (u : Int) := by
  obtain ⟨h1, h2, h3, _⟩ := dd_digits u
  have hp : Lib.parseUintB 8 (Lib.decDigits u) = .ok u := by
    unfold Lib.parseUintB
    rw [if_neg h3, parse_ok (2 ^ 8 - 1) (by decide) (Lib.decDigits u) 0 h1 (by rw [h2]; omega), h2]
  cases hd : Lib.decDigits u with
  | nil => exact absurd hd h3
  | cons c r =>
    have hc := h1 c (by rw [hd]; exact List.mem_cons_self ..)
    unfold dgt at hc
    rw [Lib.parseIntB_plain 8 c r (by omega) (by omega), ← hd, hp]
    simp only [Lib.signlessC]
    rw [if_neg (by omega)]
/-- a row as the program reads it -/
def IRow (p : List UInt8) (zs : List Int) : Prop := (p = [45] ∧ zs = []) ∨ (p ≠ [45] ∧ (spl 44 p).map (Lib.parseIntB 8) = zs.map Lib.NumEnd.ok)
theorem SRow.irow {p : List UInt8} {us : List Nat} (h : SRow p us) : IRow p (uI us) := by
  rcases h with ⟨h1, h2⟩ | ⟨h1, h2, h3⟩
  · exact .inl ⟨h1, by rw [h2]; rfl⟩
  · refine .inr ⟨h1, ?_⟩
    rw [h2]
    unfold uI
    rw [List.map_map, List.map_map]
    exact List.map_congr_left fun u hu => parse8 u (h3 u hu)
theorem ok_inj : ∀ {zs ys : List Int}, zs.map Lib.NumEnd.ok = ys.map Lib.NumEnd.ok → zs = ys := by
  intro zs
  induction zs with
  | nil => intro ys h; cases ys with
    | nil => rfl
    | cons _ _ => simp at h
  | cons a r ih => intro ys h; cases ys with
    | nil => simp at h
    | cons b t =>
      simp only [List.map_cons, List.cons.injEq] at h
      have e : a = b := by injection h.1
      rw [e, ih h.2]
theorem IRow.inj {p : List UInt8} {zs ys : List Int} (h : IRow p zs) (h' : IRow p ys) : zs = ys := by
  rcases h with ⟨h1, h2⟩ | ⟨h1, h2⟩ <;> rcases h' with ⟨h3, h4⟩ | ⟨h3, h4⟩
  · rw [h2, h4]
  · exact absurd h1 h3
  · exact absurd h3 h1
  · exact ok_inj (h2.symm.trans h4)
theorem IRow.pieces {p : List UInt8} {zs : List Int} (h : IRow p zs) (h45 : p ≠ [45]) : [] ∉ spl 44 p ∧ (spl 44 p).length = zs.length ∧ ∀ z ∈ zs, -128 ≤ z ∧ z < 128 := by
  rcases h with ⟨h1, _⟩ | ⟨_, h2⟩
  · exact absurd h1 h45
  · refine ⟨fun q => ?_, by have := congrArg List.length h2; simpa using this, fun z hz => ?_⟩
    · have : Lib.parseIntB 8 [] ∈ zs.map Lib.NumEnd.ok := by rw [← h2]; exact List.mem_map.2 ⟨[], q, rfl⟩
      obtain ⟨z, _, e⟩ := List.mem_map.1 this
      cases e
    · have : Lib.NumEnd.ok z ∈ (spl 44 p).map (Lib.parseIntB 8) := by rw [h2]; exact List.mem_map.2 ⟨z, hz, rfl⟩
      obtain ⟨d, _, e⟩ := List.mem_map.1 this
      have := int8_ok e
      exact ⟨this.1, this.2.1⟩
theorem IRow.small {p : List UInt8} {zs : List Int} (h : IRow p zs) : ∀ z ∈ zs, -128 ≤ z ∧ z < 128 := by
  by_cases h45 : p = [45]
  · rcases h with ⟨_, h2⟩ | ⟨h1, _⟩
    · rw [h2]; intro z hz; cases hz
    · exact absurd h45 h1
  · exact (h.pieces h45).2.2
theorem IRow.room {p : List UInt8} {zs : List Int} (h : IRow p zs) : 1 ≤ p.length ∧ 2 * zs.length ≤ p.length + 1 := by
  by_cases h45 : p = [45]
  · rcases h with ⟨_, h2⟩ | ⟨h1, _⟩
    · rw [h2, h45]; simp
    · exact absurd h45 h1
  · obtain ⟨h1, h2, _⟩ := h.pieces h45
    have h3 := spl_two 44 p h1
    refine ⟨?_, by omega⟩
    cases p with
    | nil => rw [spl_nil] at h1; simp at h1
    | cons _ _ => simp
/-- the rows that the program has read -/
def IRK (l : List UInt8) (k : Nat) (gs : List (List Int)) : Prop := gs.length = k ∧ ∀ i, i < k → IRow ((spl 32 l).getD i []) (gs.getD i [])
theorem IRK.zero (l : List UInt8) : IRK l 0 [] := ⟨rfl, fun i hi => by omega⟩
theorem IRK.step {l : List UInt8} {k : Nat} {gs : List (List Int)} {zs : List Int} (h : IRK l k gs) (hs : IRow ((spl 32 l).getD k []) zs) : IRK l (k + 1) (gs ++ [zs]) := by
  obtain ⟨h1, h2⟩ := h
  refine ⟨by simp [h1], fun i hi => ?_⟩
  by_cases e : i < k
  · rw [show (gs ++ [zs]).getD i [] = gs.getD i [] from by simp [List.getD, List.getElem?_append_left (show i < gs.length by omega)]]
    exact h2 i e
  · obtain rfl : i = k := by omega
    rw [show (gs ++ [zs]).getD i [] = zs from by simp [List.getD, ← h1]]
    exact hs
theorem IRK.total {l : List UInt8} {gs : List (List Int)} (h : IRK l (spl 32 l).length gs) (hs : l.length ≤ 1048576) : total gs ≤ 1048576 :=
  total_of_parts h.1 (fun i hi => (h.2 i (by rw [← h.1]; exact hi)).room) hs
theorem IRK.ne {l : List UInt8} {gs : List (List Int)} (h : IRK l (spl 32 l).length gs) : l ≠ [] := by
  intro e
  subst e
  have := (h.2 0 (by rw [spl_nil]; simp)).room
  rw [spl_nil] at this
  simp at this
theorem IRK.same {l : List UInt8} {gs gs' : List (List Int)} (h : IRK l (spl 32 l).length gs) (hg : GTX l gs') : gs = gs' := by
  obtain ⟨h1, h2⟩ := gtx_rows hg
  have hl : gs.length = gs'.length := by rw [h.1, h1]
  refine List.ext_getElem hl fun i q1 q2 => ?_
  obtain ⟨us, e, hs⟩ := h2 i q2
  have e1 : gs.getD i [] = gs[i] := by simp [List.getD, q1]
  have e2 : gs'.getD i [] = gs'[i] := by simp [List.getD, q2]
  rw [← e1, ← e2, e]
  exact (h.2 i (by rw [← h.1]; exact q1)).inj hs.irow
theorem bad_irow {l : List UInt8} {k : Nat} (hk : k < (spl 32 l).length) (h : ¬ ∃ zs, IRow ((spl 32 l).getD k []) zs) : ¬ ∃ gs, GTX l gs :=
  bad_part hk (fun us hs => h ⟨_, hs.irow⟩)
theorem bad_piece {p : List UInt8} (hp : p ≠ [45]) {j : Nat} (hj : j < (spl 44 p).length) (h : ∀ z, Lib.parseIntB 8 ((spl 44 p).getD j []) ≠ .ok z) : ¬ ∃ zs, IRow p zs := by
  rintro ⟨zs, hs⟩
  rcases hs with ⟨h1, _⟩ | ⟨_, h2⟩
  · exact hp h1
  · have hl : (spl 44 p).length = zs.length := by have := congrArg List.length h2; simpa using this
    have e := congrArg (fun x => x[j]?) h2
    simp only [List.getElem?_map, List.getElem?_eq_getElem hj, List.getElem?_eq_getElem (show j < zs.length by omega), Option.map_some, Option.some.injEq] at e
    refine h zs[j] ?_
    rw [show (spl 44 p).getD j [] = (spl 44 p)[j] by simp [List.getD, hj]]
    exact e
theorem take_ok {l : List UInt8} {zs : List Int} {q : Nat} {z : Int} (hk : q < (spl 44 l).length) (h : ((spl 44 l).take q).map (Lib.parseIntB 8) = zs.map Lib.NumEnd.ok) (e : Lib.parseIntB 8 ((spl 44 l).getD q []) = .ok z) : ((spl 44 l).take (q + 1)).map (Lib.parseIntB 8) = (zs ++ [z]).map Lib.NumEnd.ok := by
  rw [List.take_succ_eq_append_getElem hk, List.map_append, h, List.map_append]
  have : (spl 44 l).getD q [] = (spl 44 l)[q] := by simp [List.getD, hk]
  rw [← this, List.map_singleton, e]; rfl
theorem split44 (s : ByteArray) : (Lib.splitB ⟨#[44]⟩ 0 (Lib.countB s ⟨#[44]⟩) s).map (·.data.toList) = spl 44 s.data.toList ∧ (Lib.splitB ⟨#[44]⟩ 0 (Lib.countB s ⟨#[44]⟩) s).length = Lib.countB s ⟨#[44]⟩ + 1 := by
  refine ⟨?_, Lib.splitB_all ⟨#[44]⟩ (by decide) 0 _ s rfl⟩
  rw [Lib.splitB_data]
  exact splitK_spl 44 _ s.data.toList (Nat.le_refl _)
theorem spl_piece (b : UInt8) (l : List UInt8) : ∀ x ∈ spl b l, x.length ≤ l.length := by
  intro x hx
  have h := spl_sum b l
  have h1 : 1 ≤ (spl b l).length := by
    cases hs : spl b l with
    | nil => exact absurd hs (spl_length_pos b l)
    | cons _ _ => simp
  have key : ∀ ps : List (List UInt8), ∀ x ∈ ps, x.length ≤ (ps.map List.length).sum := by
    intro ps
    induction ps with
    | nil => intro x hx; cases hx
    | cons p r ih =>
      intro x hx
      simp only [List.map_cons, List.sum_cons]
      rcases List.mem_cons.1 hx with q | q
      · rw [q]; omega
      · have := ih x q; omega
  have := key _ x hx
  omega
theorem piece_size {b : UInt8} {P : List ByteArray} {l : List UInt8} (h : P.map (·.data.toList) = spl b l) : ∀ p ∈ P, p.size ≤ l.length := by
  intro p hp
  have := spl_piece b l p.data.toList (by rw [← h]; exact List.mem_map.2 ⟨p, hp, rfl⟩)
  rwa [Array.length_toList] at this
theorem parse8_any (s : ByteArray) (hs : s.size ≤ 281474976710656) (w : World) (he : ERRS w) :
    Calls Tryd.prog 132 #[.string s, .int .i64 10, .int .i64 8] w fun e w' => ((∃ z : Int, Lib.parseIntB 8 s.data.toList = .ok z ∧ e = .returned (.tuple #[.int .i64 z, .nilIface])) ∨ ((∀ z, Lib.parseIntB 8 s.data.toList ≠ .ok z) ∧ ∃ (v : Int) (t : TypeId) (p : Value), e = .returned (.tuple #[.int .i64 v, .iface t p]))) ∧ Below w.heap.size w w' := by
  rcases hq : Lib.parseIntB 8 s.data.toList with u | _ | _
  · refine (Tryd.strconv_ParseInt_10_at8_ok s (by omega) u hq w).mono ?_
    rintro e w' ⟨rfl, hw⟩
    refine ⟨.inl ⟨u, rfl, rfl⟩, ?_⟩
    rcases hw with rfl | ⟨t, rfl⟩
    · exact Below.refl _ _
    · exact Lib.bytesWorld_below _ _ _
  · obtain ⟨te, pe, h⟩ := he.a
    refine Calls.mono (Any.strconv_ParseInt_10_at8_syntax Tryd.laysC174 s hs hq _ w h (.inr ⟨te, pe, rfl⟩)) ?_
    rintro e w' ⟨N, rfl, _, _, hb⟩
    exact ⟨.inr ⟨fun z => by simp, _, _, _, rfl⟩, hb⟩
  · obtain ⟨te, pe, h⟩ := he.b
    refine Calls.mono (Any.strconv_ParseInt_10_at8_range Tryd.laysC174 s hs hq _ w h (.inr ⟨te, pe, rfl⟩)) ?_
    rintro e w' ⟨N, rfl, _, _, hb⟩
    exact ⟨.inr ⟨fun z => by simp, _, _, _, rfl⟩, hb⟩
theorem i8z_snoc (zs : List Int) (z : Int) : i8s zs ++ [Value.int .i8 z] = i8s (zs ++ [z]) := by simp [i8s]
theorem conv8z (z : Int) (h0 : -128 ≤ z) (h1 : z < 128) : IntKind.wrap .i8 z = z := by
  simp only [IntKind.wrap, show IntKind.i8.bits = 8 from rfl, show IntKind.i8.signed = true from rfl]
  simp; omega
set_option maxRecDepth 100000 in
set_option maxHeartbeats 4000000 in
theorem readMoves_any (p : ByteArray) (hp : p.size ≤ 1048576) (m : Int) (w : World) (herr : ERRS w) (hm : w.cell? ⟨3, 0, none⟩ = some (.int .i64 m)) :
    Calls Tryd.prog 113 #[.string p] w fun e w' => ((∃ zs v, IRow p.data.toList zs ∧ e = .returned (.tuple #[v, .nilIface]) ∧ w'.ownsRow w.heap.size 57 1 v zs.length (i8s zs)) ∨ ((¬ ∃ zs, IRow p.data.toList zs) ∧ ∃ (t : TypeId) (q : Value), e = .returned (.tuple #[.slice none 0 0, .iface t q]))) ∧ Below w.heap.size w w' := by
  obtain ⟨i0, hi, hz0, hz1, hz2⟩ := info_parts infoI8
  have HI0 := Lib.hid (And.intro hi (And.intro hz0 (And.intro hz1 hz2)))
  have HERR := Lib.hid herr
  have HMC := Lib.hid hm
  clear hi hz0 hz1 hz2 herr hm
  by_cases h45 : p.data.toList = [45]
  · have T45 : (p.toList == [45]) = true := by rw [toListIs, h45]; rfl
    have T45' : p.toList = [45] := by rw [toListIs, h45]
    have H45 := Lib.hid h45
    clear h45
    go_enter Tryd.func113, Tryd.ntmps113
    go_wp2_with fail
    go_ret2
    exact ⟨.inl ⟨[], _, .inl ⟨H45.out, rfl⟩, rfl, World.ownsRow_nil _ _ _ _⟩, Below.refl _ _⟩
  · have T45 : (p.toList == [45]) = false := by
      rw [toListIs, beq_eq_false_iff_ne]; exact h45
    have T45' : ¬ p.toList = [45] := by rw [toListIs]; exact h45
    have H45 := Lib.hid h45
    obtain ⟨hp1, hp2⟩ := split44 p
    obtain ⟨P, hP⟩ : ∃ P, P = Lib.splitB ⟨#[44]⟩ 0 (Lib.countB p ⟨#[44]⟩) p := ⟨_, rfl⟩
    rw [← hP] at hp1 hp2
    have hpz := piece_size hp1
    have hpl : P.length ≤ 1048577 := by
      rw [hp2]
      have := Lib.countB_le ⟨#[44]⟩ (by decide) p.size p (Nat.le_refl _)
      omega
    have hsplit := Tryd.strings_Split p ⟨#[44]⟩ m w (by omega) HMC.out (by decide)
    rw [← hP, ← hp2] at hsplit
    have HSPL := Lib.hid hsplit
    have HP := Lib.hid hp1
    have HPZ := Lib.hid hpz
    clear h45 hP hp1 hp2 hpz hsplit
    go_enter Tryd.func113, Tryd.ntmps113
    go_wp2_with fail
    refine HSPL.out.mono ?_
    rintro e w1 ⟨rfl, hw1⟩
    have hb1 : Below w.heap.size w w1 := by rw [hw1]; exact (Below.refl _ _).alloc (Nat.le_refl _) _
    have hs1 : w.heap.size < w1.heap.size := by rw [hw1, World.size_alloc]; omega
    have hcell : ∀ i (hi : i < P.length), w1.cell? ⟨w.heap.size, i, none⟩ = some (.string P[i]) := fun i hi => by
      rw [hw1]
      refine cell_of_row _ _ _ _ _ _ (heap_alloc_new w _) |>.trans ?_
      rw [List.getElem?_toArray, List.getElem?_map, List.getElem?_eq_getElem hi]; rfl
    obtain ⟨g0, hg0⟩ : ∃ g0, g0 = w.heap.size := ⟨_, rfl⟩
    have HB1 := Lib.hid hb1
    rw [← hg0] at hs1 hcell ⊢
    have HG0 := Lib.hid hg0
    have HS1 := Lib.hid hs1
    have HCL := Lib.hid hcell
    obtain ⟨M, hM⟩ : ∃ M, M = w1.heap.size := ⟨_, rfl⟩
    have HM := Lib.hid hM
    clear hw1 hb1 hcell hg0 hs1 hM
    go_wp2_with fail
    go_loopw [4, 14] (fun o i wr => ∃ (k : Nat) (zs : List Int), i = .int .i64 k ∧ k ≤ P.length ∧ zs.length = k ∧ Hid (wr.ownsRow M 57 1 o zs.length (i8s zs)) ∧ Hid (((spl 44 p.data.toList).take k).map (Lib.parseIntB 8) = zs.map Lib.NumEnd.ok) ∧ Hid (Below M w1 wr) ∧ Hid (M ≤ wr.heap.size)) (fun _ i _ => P.length - (intOf i).toNat)
    case atStart => exact ⟨0, [], rfl, Nat.zero_le _, rfl, Lib.hid (World.ownsRow_nil _ _ _ _), Lib.hid rfl, Lib.hid (by rw [HM.out]; exact Below.refl _ _), Lib.hid (by rw [HM.out]; exact Nat.le_refl _)⟩
    case round =>
      obtain ⟨k, zs, rfl, hk, hus, HO, HT, HB, HS⟩ := hrel
      have hbw : Below w.heap.size w wr := HB1.out.trans (HB.out.mono (by rw [HM.out]; exact HB1.out.size))
      have HBW := Lib.hid hbw
      clear hbw
      by_cases hlt : k < P.length
      · have hcl : wr.cell? ⟨g0, k, none⟩ = some (.string (P[k]'hlt)) := (HB.out.cell (p := ⟨g0, k, none⟩) (by show g0 < M; rw [HM.out]; exact HS1.out)).trans (HCL.out k hlt)
        obtain ⟨hk2, hpe⟩ := part_gen HP.out hlt
        have hpz : (P[k]'hlt).size ≤ 1048576 := by
          have h1 := HPZ.out _ (List.getElem_mem hlt)
          rw [Array.length_toList] at h1
          exact Nat.le_trans h1 hp
        have HPE := Lib.hid hpe
        have HK2 := Lib.hid hk2
        have hul0 : zs.length ≤ 1048577 := by omega
        have HUSL := Lib.hid hus
        have hi1 : (k : Int) < (P.length : Int) := by omega
        have T1 : decide ((k : Int) < (P.length : Int)) = true := by simp; omega
        have HEW := Lib.hid (HERR.out.below HERR.out.size HBW.out)
        generalize P[k]'hlt = d at hcl hpz HPE
        obtain ⟨AO, cO, rfl, _, _⟩ := own_form HO.out
        clear hpe hk2 hus
        go_wp2_with fail
        refine (parse8_any d (by omega) _ HEW.out).mono ?_
        rintro e w5 ⟨⟨z, hz, rfl⟩ | ⟨hno, v, t, q, rfl⟩, hb5⟩
        · have hzb := int8_ok hz
          have hz1 := hzb.1
          have hz2 := hzb.2.1
          have cv := conv8z z hz1 hz2
          have HZ := Lib.hid hz
          have ho5 := own_below HO.out hb5
          have HO5 := Lib.hid ho5
          have HB5 := Lib.hid (HB.out.trans (hb5.mono HS.out))
          have HS5 := Lib.hid (Nat.le_trans HS.out hb5.size)
          clear hz hzb ho5 hb5 HO HB HS
          go_wp2_with (at_builtin; refine wpList_append_own _ rfl _ _ 124 rfl (M) 57 i0 (.int .i8 0) 1 1 Tryd.underlying124 HI0.out.1 HI0.out.2.1 HI0.out.2.2.1 HI0.out.2.2.2 rfl (by decide) _ (zs.length) _ rfl (HO5.out.alloc _) ⟨w5.heap.size, 0, none⟩ 1 1 [.int .i8 z] rfl rfl ?d1 ?d2 ?d3 ?d4 ?d5 ?_)
          case d1 => exact one_cellS _ _ _
          case d2 => simp [Value.oneCell']
          case d3 => unfold maxLen; omega
          case d4 => omega
          case d5 => rw [World.size_alloc]; have := HS5.out; omega
          intro y' wz hown hgrow _
          have HB2 := Lib.hid ((HB5.out.alloc HS5.out _).grown hgrow (by rw [World.size_alloc]; have := HS5.out; omega) (fun x hx => (HO5.out.lt x hx).1))
          have HS2 := Lib.hid (Nat.le_trans (show M ≤ (w5.alloc (.cells #[.int .i8 z] 57)).heap.size by rw [World.size_alloc]; have := HS5.out; omega) hgrow.size)
          have hown2 : wz.ownsRow M 57 1 y' (zs ++ [z]).length (i8s (zs ++ [z])) := by
            rw [← i8z_snoc, List.length_append, List.length_singleton]; exact hown
          have HQ2 := Lib.hid hown2
          have HT2 := Lib.hid (take_ok HK2.out HT.out (by rw [HPE.out]; exact HZ.out))
          have HUL := Lib.hid (show (zs ++ [z]).length = zs.length + 1 by rw [List.length_append, List.length_singleton])
          clear hown hown2 hgrow HO5 HB5 HS5 HT
          go_wp2_with fail
          exact ⟨⟨k + 1, zs ++ [z], by go_num, by omega, HUL.out.trans (by rw [HUSL.out]), HQ2, HT2, HB2, HS2⟩, by simp [intOf]; omega⟩
        · have HFIN : Hid (¬ ∃ zs, IRow p.data.toList zs) := Lib.hid (bad_piece H45.out HK2.out (by rw [HPE.out]; exact hno))
          have HB5 := Lib.hid (HBW.out.trans (hb5.mono HBW.out.size))
          clear hno hb5
          go_wp2_with fail
          go_ret2
          exact ⟨.inr ⟨HFIN.out, _, _, rfl⟩, HB5.out⟩
      · obtain rfl : k = P.length := by omega
        have T1 : decide ((P.length : Int) < (P.length : Int)) = false := by simp
        have hAN : IRow p.data.toList zs := .inr ⟨H45.out, by
          have e := HT.out
          rwa [show P.length = (spl 44 p.data.toList).length from by rw [← HP.out, List.length_map], List.take_length] at e⟩
        have HAN := Lib.hid hAN
        clear hAN
        go_wp2_with fail
        go_ret2
        refine ⟨.inl ⟨zs, _, HAN.out, rfl, own_lower2 HO.out ?_⟩, HBW.out⟩
        rw [HM.out]; exact HB1.out.size
set_option maxRecDepth 100000 in
set_option maxHeartbeats 4000000 in
theorem impl_ReadGame (s : ByteArray) (hs : s.size ≤ 1048576) (m : Int) (w : World) (herr : ERRS w) (hm : w.cell? ⟨3, 0, none⟩ = some (.int .i64 m)) :
    Calls Tryd.prog 63 #[.string s] w fun e w' => ((∃ gs v U, GTX s.data.toList gs ∧ e = .returned (.tuple #[v, .int .i64 0]) ∧ OGU U w.heap.size w' v gs) ∨ ((¬ ∃ gs, GTX s.data.toList gs) ∧ ∃ v U, e = .returned (.tuple #[v, .int .i64 5]) ∧ OGU U w.heap.size w' v [])) ∧ Below w.heap.size w w' := by
  obtain ⟨ir, hir, hr0, hr1, hr2⟩ := info_parts infoRow8
  have HIR := Lib.hid (And.intro hir (And.intro hr0 (And.intro hr1 hr2)))
  have HERR := Lib.hid herr
  have HMC := Lib.hid hm
  clear hir hr0 hr1 hr2 herr hm
  obtain ⟨hp1, hp2⟩ := split_parts s
  obtain ⟨P, hP⟩ : ∃ P, P = Lib.splitB ⟨#[32]⟩ 0 (Lib.countB s ⟨#[32]⟩) s := ⟨_, rfl⟩
  rw [← hP] at hp1 hp2
  have hpz := piece_size hp1
  have hpl : P.length ≤ 1048577 := by
    rw [hp2]
    have := Lib.countB_le ⟨#[32]⟩ (by decide) s.size s (Nat.le_refl _)
    omega
  have hsplit := Tryd.strings_Split s ⟨#[32]⟩ m w (by omega) HMC.out (by decide)
  rw [← hP, ← hp2] at hsplit
  have HSPL := Lib.hid hsplit
  have HP := Lib.hid hp1
  have HPZ := Lib.hid hpz
  clear hP hp1 hp2 hpz hsplit
  go_enter Tryd.func63, Tryd.ntmps63
  go_wp2_with fail
  refine HSPL.out.mono ?_
  rintro e w1 ⟨rfl, hw1⟩
  have hb1 : Below w.heap.size w w1 := by rw [hw1]; exact (Below.refl _ _).alloc (Nat.le_refl _) _
  have hs1 : w.heap.size < w1.heap.size := by rw [hw1, World.size_alloc]; omega
  have hcell : ∀ i (hi : i < P.length), w1.cell? ⟨w.heap.size, i, none⟩ = some (.string P[i]) := fun i hi => by
    rw [hw1]
    refine cell_of_row _ _ _ _ _ _ (heap_alloc_new w _) |>.trans ?_
    rw [List.getElem?_toArray, List.getElem?_map, List.getElem?_eq_getElem hi]; rfl
  obtain ⟨g0, hg0⟩ : ∃ g0, g0 = w.heap.size := ⟨_, rfl⟩
  have HB1 := Lib.hid hb1
  rw [← hg0] at hs1 hcell ⊢
  have HG0 := Lib.hid hg0
  have HS1 := Lib.hid hs1
  have HCL := Lib.hid hcell
  obtain ⟨B, hB⟩ : ∃ B, B = w1.heap.size := ⟨_, rfl⟩
  have HBB := Lib.hid hB
  have HLOW := Lib.hid (show w.heap.size ≤ B by rw [hB]; exact hb1.size)
  have m1 : OGU (fun _ => .slice none 0 0) B w1 (.slice none 0 0) [] :=
    ⟨World.ownsRow_nil _ _ _ _, fun i hi => by simp at hi, fun i hi => by simp at hi, fun i j hij hj => by simp at hj⟩
  have M1 := Lib.hid m1
  clear hw1 hb1 hcell hg0 hs1 hB m1
  go_wp2_with fail
  go_loopw [4, 12] (fun o i wr => ∃ (k : Nat) (U : Nat → Value) (gs : List (List Int)), i = .int .i64 k ∧ k ≤ P.length ∧ Hid (IRK s.data.toList k gs) ∧ Hid (OGU U B wr o gs) ∧ Hid (Below B w1 wr) ∧ Hid (B ≤ wr.heap.size)) (fun _ i _ => P.length - (intOf i).toNat)
  case atStart => exact ⟨0, _, [], rfl, Nat.zero_le _, Lib.hid (IRK.zero _), M1, Lib.hid (by rw [HBB.out]; exact Below.refl _ _), Lib.hid (by rw [HBB.out]; exact Nat.le_refl _)⟩
  case round =>
    clear M1
    obtain ⟨k, U, gs, rfl, hk, HK, HO, HB, HS⟩ := hrel
    have hbw : Below w.heap.size w wr := HB1.out.trans (HB.out.mono HLOW.out)
    have HBW := Lib.hid hbw
    clear hbw
    by_cases hlt : k < P.length
    · have hcl : wr.cell? ⟨g0, k, none⟩ = some (.string (P[k]'hlt)) := (HB.out.cell (p := ⟨g0, k, none⟩) (by show g0 < B; rw [HBB.out]; exact HS1.out)).trans (HCL.out k hlt)
      obtain ⟨hk2, hpe⟩ := part_gen HP.out hlt
      have hpz : (P[k]'hlt).size ≤ 1048576 := by
        have h1 := HPZ.out _ (List.getElem_mem hlt)
        rw [Array.length_toList] at h1
        exact Nat.le_trans h1 hs
      have HPE := Lib.hid hpe
      have HK2 := Lib.hid hk2
      have hul0 : gs.length ≤ 1048577 := by have := HK.out.1; omega
      have hi1 : (k : Int) < (P.length : Int) := by omega
      have T1 : decide ((k : Int) < (P.length : Int)) = true := by simp; omega
      have HEW := Lib.hid (HERR.out.below HERR.out.size HBW.out)
      have HMW : Hid (wr.cell? ⟨3, 0, none⟩ = some (.int .i64 m)) := Lib.hid ((HBW.out.cell (p := ⟨3, 0, none⟩) (block_of_cell HMC.out)).trans HMC.out)
      generalize P[k]'hlt = d at hcl hpz HPE
      obtain ⟨AO, cO, rfl, _, _⟩ := own_form HO.out.outer
      obtain ⟨M, hM⟩ : ∃ M, M = wr.heap.size := ⟨_, rfl⟩
      have HM := Lib.hid hM
      have hBM : B ≤ M := by have := HS.out; omega
      clear hpe hk2 hM
      go_wp2_with fail
      refine (readMoves_any d hpz m _ HEW.out HMW.out).mono ?_
      rintro e w5 ⟨⟨zs, v, hz, rfl, hown5⟩ | ⟨hno, t, q, rfl⟩, hb5⟩
      · obtain ⟨AQ, cQ, rfl, _, _⟩ := own_form hown5
        have HZ := Lib.hid hz
        have hb5' : Below M wr w5 := by rw [HM.out]; exact hb5
        have HQ : Hid (w5.ownsRow M 57 1 (.slice AQ zs.length cQ) zs.length (i8s zs)) := Lib.hid (by rw [HM.out]; exact hown5)
        have HBQ := Lib.hid hb5'
        have hU : w5.ownsRow B 124 1 (.slice AO gs.length cO) gs.length ((List.range gs.length).map U) := own_below HO.out.outer hb5
        have HU := Lib.hid hU
        have HSQ := Lib.hid (show M ≤ w5.heap.size by rw [HM.out]; exact hb5.size)
        clear hz hown5 hb5 hb5' hU
        go_wp2_with (at_builtin; refine wpList_append_own _ rfl _ _ 75 rfl (B) 124 ir (.slice none 0 0) 1 24 Tryd.underlying75 HIR.out.1 HIR.out.2.1 HIR.out.2.2.1 HIR.out.2.2.2 rfl (by decide) _ (gs.length) _ rfl (HU.out.alloc _) ⟨w5.heap.size, 0, none⟩ 1 1 [.slice AQ zs.length cQ] rfl rfl ?e1 ?e2 ?e3 ?e4 ?e5 ?_)
        case e1 => exact one_cellS _ _ _
        case e2 => simp [Value.oneCell']
        case e3 => unfold maxLen; omega
        case e4 => omega
        case e5 => rw [World.size_alloc]; have := HSQ.out; omega
        intro s' wy hown hgrow _
        have hd := row_done (zs := zs) HO.out HM.out hBM HBQ.out HQ.out HZ.out.small hgrow hown
        have hb2 := ((HB.out.trans (HBQ.out.mono hBM)).alloc (Nat.le_trans hBM HSQ.out) (.cells #[.slice AQ zs.length cQ] 124)).grown hgrow (by rw [World.size_alloc]; have := HSQ.out; omega) (fun x hx => (HU.out.lt x hx).1)
        have HB2 := Lib.hid hb2
        have HS2 := Lib.hid (show B ≤ wy.heap.size from Nat.le_trans (show B ≤ (w5.alloc (.cells #[.slice AQ zs.length cQ] 124)).heap.size by rw [World.size_alloc]; have := HSQ.out; omega) hgrow.size)
        have HD := Lib.hid hd
        have HK4 := Lib.hid (HK.out.step (by rw [HPE.out]; exact HZ.out))
        clear hown hgrow hd hb2 HO HB HBW HS HU HQ HBQ HSQ
        go_wp2_with fail
        obtain ⟨U', hU'⟩ := HD.out
        exact ⟨⟨k + 1, U', gs ++ [zs], by go_num, by omega, HK4, Lib.hid hU', HB2, HS2⟩, by simp [intOf]; omega⟩
      · have HFIN : Hid (¬ ∃ gs, GTX s.data.toList gs) := Lib.hid (bad_irow HK2.out (by rw [HPE.out]; exact hno))
        have HB5 := Lib.hid (HBW.out.trans (hb5.mono HBW.out.size))
        clear hno hb5
        go_wp2_with fail
        go_ret2
        exact ⟨.inr ⟨HFIN.out, _, fun _ => .slice none 0 0, rfl, ⟨World.ownsRow_nil _ _ _ _, fun i hi => by simp at hi, fun i hi => by simp at hi, fun i j hij hj => by simp at hj⟩⟩, HB5.out⟩
    · obtain rfl : k = P.length := by omega
      have T1 : decide ((P.length : Int) < (P.length : Int)) = false := by simp
      have hPn : P.length = (spl 32 s.data.toList).length := by rw [← HP.out, List.length_map]
      have hk0 : IRK s.data.toList (spl 32 s.data.toList).length gs := by rw [← hPn]; exact HK.out
      have htot := hk0.total (by simpa using hs)
      have HK0 := Lib.hid hk0
      have HG := Lib.hid HO.out.gs
      obtain ⟨AO, cO, rfl, _, _⟩ := own_form HO.out.outer
      have HLO : Hid (∀ w' : World, OGU U B w' (.slice AO gs.length cO) gs → OGU U w.heap.size w' (.slice AO gs.length cO) gs) := Lib.hid (fun w' h => ⟨own_lower2 h.outer HLOW.out, fun i hi => own_lower2 (h.rows i hi) HLOW.out, h.small, h.apart⟩)
      clear hPn hk0
      go_wp2_with fail
      refine (impl_GameText _ gs htot _ _ HG.out).mono ?_
      rintro e w3 ⟨rfl, hb3⟩
      obtain ⟨x, hx⟩ : ∃ x : ByteArray, x = ⟨(gtx gs).toArray⟩ := ⟨_, rfl⟩
      have hxl : x.data.toList = gtx gs := by rw [hx]
      rw [← hx]
      have HB3 := Lib.hid (HBW.out.trans (hb3.mono HBW.out.size))
      have HO3 := Lib.hid (HLO.out _ (HO.out.below hb3))
      clear hb3 hx
      by_cases heq : gtx gs = s.data.toList
      · have T2 : (!x.toList == s.toList) = false := by rw [toListIs, toListIs, hxl, heq]; simp
        have HFIN : Hid (GTX s.data.toList gs) := Lib.hid (by
          cases hv : validB gs
          · exfalso
            have : gtx gs = [] := by unfold gtx; rw [hv]; rfl
            rw [this] at heq
            exact HK0.out.ne heq.symm
          · exact ⟨hv, by rw [← gtx_gl hv]; exact heq⟩)
        clear heq hxl
        go_wp2_with fail
        go_ret2
        exact ⟨.inl ⟨gs, _, U, HFIN.out, rfl, HO3.out⟩, HB3.out⟩
      · have T2 : (!x.toList == s.toList) = true := by
          rw [toListIs, toListIs, hxl]
          simp only [Bool.not_eq_true', beq_eq_false_iff_ne]
          exact heq
        have HFIN : Hid (¬ ∃ gs, GTX s.data.toList gs) := Lib.hid (by
          rintro ⟨gs', hg'⟩
          obtain rfl := HK0.out.same hg'
          exact heq (by rw [gtx_gl hg'.1]; exact hg'.2))
        clear heq hxl
        go_wp2_with fail
        go_ret2
        exact ⟨.inr ⟨HFIN.out, _, fun _ => .slice none 0 0, rfl, ⟨World.ownsRow_nil _ _ _ _, fun i hi => by simp at hi, fun i hi => by simp at hi, fun i j hij hj => by simp at hj⟩⟩, HB3.out⟩
end Go.Proofs.YtklddmmbbaaliaaDoor
