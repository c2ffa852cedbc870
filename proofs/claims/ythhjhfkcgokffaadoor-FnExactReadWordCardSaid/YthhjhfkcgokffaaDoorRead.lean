/-
  Nimbers are read from their texts: both sides.
-/
import Derived.Test.YthhjhfkcgokffaaDoorTxt
import Derived.Test.YthhjhfkcgokffaaDoorErr
namespace Go.Proofs.YthhjhfkcgokffaaDoor
set_option linter.unusedVariables false
set_option linter.unusedSimpArgs false
open Go.ChangeShapes Go.WideShapes Go.ChangeAt Go.RowKit Go.Lib Go.Sort
theorem take_snoc (s : ByteArray) (k : Nat) (h : k < s.size) : s.data.toList.take (k + 1) = s.data.toList.take k ++ [s[k]] := by
  rw [List.take_succ_eq_append_getElem (by simpa using h)]; rfl
def noNum : Value := .tuple #[.int .i64 0, .bool false]
def numV (l : List UInt8) : Value := if (∀ c ∈ l, dgt c) then .tuple #[.int .i64 ((spell 0 l : Nat) : Int), .bool true] else noNum
theorem numb_empty (s : ByteArray) (h : s.toList = []) (w : World) :
    Calls Tryd.prog 37 #[.string s] w fun e w' => e = .returned noNum ∧ w = w' := by
  go_enter Tryd.func37, Tryd.ntmps37
  go_wp2_with fail
  go_ret2
  exact ⟨rfl, rfl⟩
theorem numb_long (s : ByteArray) (h : ¬ s.toList = []) (hi : s.toList.isEmpty = false) (h2 : (10 : Int) < (s.size : Int)) (w : World) :
    Calls Tryd.prog 37 #[.string s] w fun e w' => e = .returned noNum ∧ w = w' := by
  go_enter Tryd.func37, Tryd.ntmps37
  go_wp2_with fail
  go_ret2
  exact ⟨rfl, rfl⟩
theorem numb_zero (s : ByteArray) (h : ¬ s.toList = []) (hi : s.toList.isEmpty = false) (h0 : 0 < s.size) (h1 : (1 : Int) < (s.size : Int)) (h2 : (s.size : Int) ≤ 10) (hz : (s[0].toNat : Int) = 48) (w : World) :
    Calls Tryd.prog 37 #[.string s] w fun e w' => e = .returned noNum ∧ w = w' := by
  go_enter Tryd.func37, Tryd.ntmps37
  go_wp2_with fail
  all_goals
    go_ret2
    exact ⟨rfl, rfl⟩
set_option maxRecDepth 100000 in
set_option maxHeartbeats 2000000 in
theorem numb_loop (s : ByteArray) (h : ¬ s.toList = []) (hi : s.toList.isEmpty = false) (h0 : 0 < s.size) (h2 : (s.size : Int) ≤ 10) (hz : (s[0].toNat : Int) = 48 ∧ (s.size : Int) ≤ 1 ∨ ¬ (s[0].toNat : Int) = 48) (w : World) :
    Calls Tryd.prog 37 #[.string s] w fun e w' => e = .returned (numV s.data.toList) ∧ w = w' := by
  have hlen : s.data.toList.length = s.size := by simp
  have HL := Lib.hid hlen
  clear hlen
  rcases hz with ⟨hz, h3⟩ | hz
  all_goals
    go_enter Tryd.func37, Tryd.ntmps37
    go_wp2_with fail
    go_loop [4, 5] (fun n i => ∃ k m : Nat, k ≤ s.size ∧ i = .int .i64 k ∧ n = .int .i64 (m : Int) ∧ m < 10000000000 ∧ Hid (spell 0 (s.data.toList.take k) = m) ∧ Hid (∀ c ∈ s.data.toList.take k, dgt c)) (fun _ i => s.size - (RowKit.intOf i).toNat)
    case atStart => exact ⟨0, 0, Nat.zero_le _, rfl, rfl, by omega, Lib.hid (by rw [List.take_zero, spell_nil]), Lib.hid (fun c hc => by rw [List.take_zero] at hc; cases hc)⟩
    case round =>
      obtain ⟨k, m, hk, rfl, rfl, hm, HM, HD⟩ := hrel
      clear hz
      by_cases hlt : k < s.size
      · have hts := take_snoc s k hlt
        have hbad : ¬ dgt s[k] → numV s.data.toList = noNum := by
          intro hn
          unfold numV
          rw [if_neg (fun hall => hn (hall _ (by
            rw [← List.take_append_drop (k + 1) s.data.toList, hts]
            simp)))]
        have HB := Lib.hid hbad
        have HTS := Lib.hid hts
        clear hbad hts
        have hc0 := s[k].toNat_lt
        by_cases ha : s[k].toNat < 48
        · have T1 : decide ((s[k].toNat : Int) < 48) = true := by simp; omega
          have HN := Lib.hid (HB.out (fun q => by unfold dgt at q; omega))
          clear ha
          go_wp2_with fail
          go_ret2
          exact ⟨by rw [HN.out]; rfl, rfl⟩
        · have T1 : decide ((s[k].toNat : Int) < 48) = false := by simp; omega
          have g1 : (48 : Int) ≤ (s[k].toNat : Int) := by omega
          by_cases hb : 57 < s[k].toNat
          · have T2 : decide ((57 : Int) < (s[k].toNat : Int)) = true := by simp; omega
            have HN := Lib.hid (HB.out (fun q => by unfold dgt at q; omega))
            clear ha hb
            go_wp2_with fail
            go_ret2
            exact ⟨by rw [HN.out]; rfl, rfl⟩
          · have T2 : decide ((57 : Int) < (s[k].toNat : Int)) = false := by simp; omega
            have g2 : (s[k].toNat : Int) ≤ 57 := by omega
            have hd : dgt s[k] := ⟨by omega, by omega⟩
            have HD2 : Hid (∀ c ∈ s.data.toList.take (k + 1), dgt c) := Lib.hid (by
              rw [HTS.out]
              intro c hc
              rcases List.mem_append.1 hc with q | q
              · exact HD.out c q
              · simp only [List.mem_singleton] at q; rw [q]; exact hd)
            have HM2 : Hid (spell 0 (s.data.toList.take (k + 1)) = m * 10 + (s[k].toNat - 48)) := Lib.hid (by rw [HTS.out, spell_append, HM.out, spell_one])
            have hbd : m * 10 + (s[k].toNat - 48) < 10000000000 := by
              have q := spell_lt (s.data.toList.take (k + 1)) HD2.out 0
              rw [HM2.out, Nat.zero_add, Nat.one_mul] at q
              have hl : (s.data.toList.take (k + 1)).length ≤ 10 := by rw [List.length_take, HL.out]; omega
              exact Nat.lt_of_lt_of_le q (Nat.pow_le_pow_right (n := 10) (by decide) hl)
            clear ha hb hd
            go_wp2_with fail
            go_round
            case rel => exact ⟨k + 1, m * 10 + (s[k].toNat - 48), by omega, by go_num, by congr 1; omega, hbd, HM2, HD2⟩
            case measure => simp [RowKit.intOf]; omega
      · obtain rfl : k = s.size := by omega
        have hfull : s.data.toList.take s.size = s.data.toList := by rw [← HL.out, List.take_length]
        have hv : numV s.data.toList = .tuple #[.int .i64 (m : Int), .bool true] := by
          unfold numV
          have q1 := HD.out
          have q2 := HM.out
          rw [hfull] at q1 q2
          rw [if_pos q1, q2]
        have HV := Lib.hid hv
        clear hfull hv
        go_wp2_with fail
        go_ret2
        exact ⟨by rw [HV.out]; rfl, rfl⟩
theorem loopIs (s : ByteArray) : ∀ (n i : Nat) (r : List UInt8), s.size - i = n → ByteArray.toList.loop s i r = r.reverse ++ s.data.toList.drop i := by
  intro n
  induction n with
  | zero =>
    intro i r h
    rw [ByteArray.toList.loop, if_neg (by omega), List.drop_eq_nil_of_le (by simp; omega), List.append_nil]
  | succ n ih =>
    intro i r h
    have hi : i < s.size := by omega
    rw [ByteArray.toList.loop, if_pos hi, ih (i + 1) _ (by omega), List.reverse_cons, List.append_assoc]
    congr 1
    conv => rhs; rw [List.drop_eq_getElem_cons (by simpa using hi)]
    have e : s.get! i = s.data[i] := by
      unfold ByteArray.get!
      exact getElem!_pos s.data i hi
    rw [e]; rfl
theorem toListIs (s : ByteArray) : s.toList = s.data.toList := by
  unfold ByteArray.toList
  rw [loopIs s s.size 0 [] (by omega)]; simp
theorem head_byte (s : ByteArray) (h : 0 < s.size) : s.data.toList.getD 0 0 = s[0] := by
  rw [List.getD_eq_getElem?_getD, Lib.data_getElem? s 0 h]; rfl
/-- what the model reads -/
theorem numb_any (s : ByteArray) (hs : s.size ≤ 9223372036854775807) (w : World) :
    Calls Tryd.prog 37 #[.string s] w fun e w' => ((NumOk s.data.toList → e = .returned (.tuple #[.int .i64 ((spell 0 s.data.toList : Nat) : Int), .bool true])) ∧ (¬ NumOk s.data.toList → e = .returned noNum)) ∧ w = w' := by
  have hlen : s.data.toList.length = s.size := by simp
  by_cases h0 : 0 < s.size
  · have hne : ¬ s.toList = [] := by rw [toListIs]; intro e; rw [e] at hlen; simp at hlen; omega
    have hie : s.toList.isEmpty = false := by rw [toListIs]; cases e : s.data.toList with
      | nil => rw [e] at hlen; simp at hlen; omega
      | cons c r => rfl
    by_cases h1 : 10 < s.size
    · refine (numb_long s hne hie (by omega) w).mono ?_
      rintro e w' ⟨rfl, rfl⟩
      exact ⟨⟨fun q => absurd q.2.1 (by rw [hlen]; omega), fun _ => rfl⟩, rfl⟩
    · have hh := head_byte s h0
      by_cases hz : s[0].toNat = 48 ∧ 1 < s.size
      · refine (numb_zero s hne hie h0 (by omega) (by omega) (by omega) w).mono ?_
        rintro e w' ⟨rfl, rfl⟩
        exact ⟨⟨fun q => absurd ⟨by rw [hh]; exact hz.1, by rw [hlen]; exact hz.2⟩ q.2.2.1, fun _ => rfl⟩, rfl⟩
      · refine (numb_loop s hne hie h0 (by omega) (by omega) w).mono ?_
        rintro e w' ⟨rfl, rfl⟩
        refine ⟨⟨fun q => by unfold numV; rw [if_pos q.2.2.2], fun q => ?_⟩, rfl⟩
        unfold numV
        rw [if_neg]
        intro hall
        refine q ⟨by intro e; rw [e] at hlen; simp at hlen; omega, by rw [hlen]; omega, ?_, hall⟩
        rintro ⟨q1, q2⟩
        rw [hh] at q1
        rw [hlen] at q2
        exact hz ⟨q1, q2⟩
  · have he : s.data.toList = [] := List.length_eq_zero_iff.1 (by rw [hlen]; omega)
    refine (numb_empty s (by rw [toListIs]; exact he) w).mono ?_
    rintro e w' ⟨rfl, rfl⟩
    exact ⟨⟨fun q => absurd he q.1, fun _ => rfl⟩, rfl⟩
def noNim : Value := .tuple #[.int .u16 0, .bool false]
def badNim : Value := .tuple #[.int .u16 0, .int .i64 5]
theorem tail_bytes (s : ByteArray) : (s.extract 1 s.size).data.toList = s.data.toList.drop 1 := by
  have e : (s.extract 1 s.size).data.toList = List.take (s.size - 1) s.data.toList.tail := by simp [ByteArray.data_extract]
  rw [e, List.take_of_length_le (by simp), List.drop_one]
theorem tail_size (s : ByteArray) : (s.extract 1 s.size).size = s.size - 1 := by
  have h := congrArg List.length (tail_bytes s)
  rw [List.length_drop] at h
  exact h
theorem yes_parts {s : ByteArray} {u : Nat} (hu : u < 65536) (h : s.data.toList = nimT u) : 2 ≤ s.size ∧ (∀ h0 : 0 < s.size, s[0].toNat = 42) ∧ (s.extract 1 s.size).data.toList = Lib.decDigits u := by
  have hl : s.size = (Lib.decDigits u).length + 1 := by
    have := congrArg List.length h
    simpa [nimT] using this
  have hd := (dd_digits u).2.2.1
  have hd2 : 0 < (Lib.decDigits u).length := List.length_pos_iff.2 hd
  refine ⟨by omega, fun h0 => ?_, by rw [tail_bytes, h]; rfl⟩
  rw [← head_byte s h0, h]; rfl
set_option maxHeartbeats 1000000 in
theorem read_yes (s : ByteArray) (hs : s.size ≤ 9223372036854775807) (u : Nat) (hu : u < 65536) (h : s.data.toList = nimT u) (w : World) :
    Calls Tryd.prog 29 #[.string s] w fun e w' => e = .returned (.tuple #[.int .u16 (u : Int), .bool true]) ∧ w = w' := by
  obtain ⟨h2, hh, ht⟩ := yes_parts hu h
  have h0 : 0 < s.size := by omega
  have hh0 := hh h0
  have i2 : (2 : Int) ≤ (s.size : Int) := by omega
  have T1 : ((s[0].toNat : Int) != 42) = false := by simp; omega
  have T2 : decide ((65535 : Int) < (u : Int)) = false := by simp; omega
  have cv : IntKind.u16.wrap (u : Int) = (u : Int) := by rw [IntKind.wrap_u16]; omega
  have hts := tail_size s
  have hok : NumOk (s.extract 1 s.size).data.toList := by rw [ht]; exact numOk_dd (by omega)
  have hsp : spell 0 (s.extract 1 s.size).data.toList = u := by rw [ht]; exact (dd_digits u).2.1
  have HN := fun w => numb_any (s.extract 1 s.size) (by rw [hts]; omega) w
  have HNN := Lib.hid HN
  have HOK := Lib.hid hok
  have HSP := Lib.hid hsp
  clear HN hok hsp ht hh hh0 h hts h2
  go_enter Tryd.func29, Tryd.ntmps29
  go_wp2_with fail
  refine (HNN.out _).mono ?_
  rintro e w' ⟨⟨he, _⟩, rfl⟩
  obtain rfl := he HOK.out
  rw [HSP.out]
  clear he
  go_wp2_with fail
  go_ret2
  exact ⟨rfl, rfl⟩
set_option maxHeartbeats 1000000 in
theorem read_no (s : ByteArray) (hs : s.size ≤ 9223372036854775807) (h : ∀ u, u < 65536 → s.data.toList ≠ nimT u) (w : World) :
    Calls Tryd.prog 29 #[.string s] w fun e w' => e = .returned noNim ∧ w = w' := by
  by_cases h2 : s.size < 2
  · have i2 : (s.size : Int) < 2 := by omega
    clear h
    go_enter Tryd.func29, Tryd.ntmps29
    go_wp2_with fail
    go_ret2
    exact ⟨rfl, rfl⟩
  · have i2 : (2 : Int) ≤ (s.size : Int) := by omega
    have h0 : 0 < s.size := by omega
    by_cases hh : s[0].toNat = 42
    · have T1 : ((s[0].toNat : Int) != 42) = false := by simp; omega
      have hts := tail_size s
      have HN := fun w => numb_any (s.extract 1 s.size) (by rw [hts]; omega) w
      have HNN := Lib.hid HN
      by_cases hok : NumOk (s.extract 1 s.size).data.toList
      · have hbig : 65536 ≤ spell 0 (s.extract 1 s.size).data.toList := by
          rcases Nat.lt_or_ge (spell 0 (s.extract 1 s.size).data.toList) 65536 with q | q
          · exfalso
            refine h _ q ?_
            unfold nimT
            rw [hok.dd, tail_bytes]
            have hb := head_byte s h0
            cases e : s.data.toList with
            | nil =>
              have hl : s.data.toList.length = s.size := by simp
              rw [e, List.length_nil] at hl; omega
            | cons c r =>
              rw [e] at hb
              have : c = s[0] := by simpa [List.getD] using hb
              have hc : c = 42 := UInt8.toNat_inj.1 (by rw [this, hh]; rfl)
              rw [hc]; rfl
          · exact q
        have HOK := Lib.hid hok
        generalize hsp : spell 0 (s.extract 1 s.size).data.toList = v at hbig HNN
        have T2 : decide ((65535 : Int) < (v : Int)) = true := by simp; omega
        clear HN hok hh h hts h2 hsp
        go_enter Tryd.func29, Tryd.ntmps29
        go_wp2_with fail
        refine (HNN.out _).mono ?_
        rintro e w' ⟨⟨he, _⟩, rfl⟩
        obtain rfl := he HOK.out
        clear he
        go_wp2_with fail
        go_ret2
        exact ⟨rfl, rfl⟩
      · have HOK := Lib.hid hok
        clear HN hok hh h hts h2
        go_enter Tryd.func29, Tryd.ntmps29
        go_wp2_with fail
        refine (HNN.out _).mono ?_
        rintro e w' ⟨⟨_, he⟩, rfl⟩
        obtain rfl := he HOK.out
        clear he
        unfold noNum
        go_wp2_with fail
        go_ret2
        exact ⟨rfl, rfl⟩
    · have T1 : ((s[0].toNat : Int) != 42) = true := by simp; omega
      clear h hh
      go_enter Tryd.func29, Tryd.ntmps29
      go_wp2_with fail
      go_ret2
      exact ⟨rfl, rfl⟩
/-! the program -/
theorem impl_ReadNim_yes (s : ByteArray) (hs : s.size ≤ 281474976710656) (u : Nat) (hu : u < 65536) (h : s.data.toList = nimT u) (w : World) (htab : POW w) :
    Calls Tryd.prog 22 #[.string s] w fun e w' => e = .returned (.tuple #[.int .u16 (u : Int), .int .i64 0]) ∧ Below w.heap.size w w' := by
  have hs2 : s = ⟨(nimT u).toArray⟩ := by
    apply ByteArray.ext
    apply Array.toList_inj.1
    simpa using h
  have htr : Lib.trimPrefix s.data.toList [42] = Lib.decDigits u := by
    rw [h]; rfl
  have hp := parse16 u hu
  have hl := dd_le u (by omega)
  have cv : IntKind.u16.wrap (u : Int) = (u : Int) := by rw [IntKind.wrap_u16]; omega
  have HTR := Lib.hid htr
  have HP := Lib.hid hp
  have HS2 := Lib.hid hs2
  have HL := Lib.hid hl
  clear htr hp hs2 h hl
  go_enter Tryd.func22, Tryd.ntmps22
  go_wp2_with fail
  refine (Tryd.strings_TrimPrefix s ⟨#[42]⟩ _).mono ?_
  rintro e w1 ⟨rfl, rfl⟩
  rw [HTR.out]
  go_wp2_with fail
  refine (Tryd.strconv_ParseUint_10_at16_ok ⟨(Lib.decDigits u).toArray⟩ (by show (Lib.decDigits u).toArray.size ≤ _; rw [List.size_toArray]; have := HL.out; omega) u HP.out _).mono ?_
  rintro e w2 ⟨rfl, hw⟩
  have hb : Below w1.heap.size w1 w2 := by
    rcases hw with rfl | rfl
    · exact Below.refl _ _
    · exact Lib.bytesWorld_below _ _ _
  have HB := Lib.hid hb
  have HT := Lib.hid (htab.below hb)
  clear hw hb htab
  go_wp2_with fail
  refine (impl_NimText u hu _ HT.out).mono ?_
  rintro e w3 ⟨rfl, hb3⟩
  rw [← HS2.out]
  have HB3 := Lib.hid (tchain HB.out hb3)
  clear hb3
  go_wp2_with fail
  go_ret2
  exact ⟨rfl, HB3.out⟩
/-- the two errors are no nil -/
structure ERRS (w : World) : Prop where
  a : ∃ te pe, w.cell? ⟨2, 0, none⟩ = some (.iface te pe)
  b : ∃ te pe, w.cell? ⟨3, 0, none⟩ = some (.iface te pe)
theorem parse_any (s : ByteArray) (hs : s.size ≤ 281474976710656) (w : World) (he : ERRS w) :
    Calls Tryd.prog 31 #[.string s, .int .i64 10, .int .i64 16] w fun e w' => ((∃ u : Nat, u < 65536 ∧ e = .returned (.tuple #[.int .u64 (u : Int), .nilIface])) ∨ ∃ (v : Int) (t : TypeId) (p : Value), e = .returned (.tuple #[.int .u64 v, .iface t p])) ∧ Below w.heap.size w w' := by
  rcases hq : Lib.parseUintB 16 s.data.toList with u | _ | _
  · refine (Tryd.strconv_ParseUint_10_at16_ok s (by omega) u hq w).mono ?_
    rintro e w' ⟨rfl, hw⟩
    have := parseUintB_le hq
    refine ⟨.inl ⟨u, by omega, rfl⟩, ?_⟩
    rcases hw with rfl | rfl
    · exact Below.refl _ _
    · exact Lib.bytesWorld_below _ _ _
  · obtain ⟨te, pe, h⟩ := he.a
    refine Calls.mono (Any.strconv_ParseUint_10_at16_syntax Tryd.laysPu14 s hs hq _ w h (.inr ⟨te, pe, rfl⟩)) ?_
    rintro e w' ⟨N, rfl, _, _, hb⟩
    exact ⟨.inr ⟨_, _, _, rfl⟩, hb⟩
  · obtain ⟨te, pe, h⟩ := he.b
    refine Calls.mono (Any.strconv_ParseUint_10_at16_range Tryd.laysPu14 s hs hq _ w h (.inr ⟨te, pe, rfl⟩)) ?_
    rintro e w' ⟨N, rfl, _, _, hb⟩
    exact ⟨.inr ⟨_, _, _, rfl⟩, hb⟩
theorem impl_ReadNim_no (s : ByteArray) (hs : s.size ≤ 281474976710656) (h : ∀ u, u < 65536 → s.data.toList ≠ nimT u) (w : World) (htab : POW w) (herr : ERRS w) :
    Calls Tryd.prog 22 #[.string s] w fun e w' => e = .returned badNim ∧ Below w.heap.size w w' := by
  have hle : (Lib.trimPrefix s.data.toList [42]).length ≤ s.size := by
    unfold Lib.trimPrefix
    split
    · rw [List.length_drop]; simp
    · simp
  have H := Lib.hid h
  have HLE := Lib.hid hle
  have HT := Lib.hid htab
  clear h hle htab
  go_enter Tryd.func22, Tryd.ntmps22
  go_wp2_with fail
  refine (Tryd.strings_TrimPrefix s ⟨#[42]⟩ _).mono ?_
  rintro e w1 ⟨rfl, rfl⟩
  have hsz : (⟨(Lib.trimPrefix s.data.toList [42]).toArray⟩ : ByteArray).size ≤ 281474976710656 := by
    show (Lib.trimPrefix s.data.toList [42]).toArray.size ≤ _
    rw [List.size_toArray]; have := HLE.out; omega
  have HSZ := Lib.hid hsz
  clear hsz
  go_wp2_with fail
  refine (parse_any _ HSZ.out _ herr).mono ?_
  rintro e w2 ⟨⟨u, hu, rfl⟩ | ⟨v, te, pe, rfl⟩, hb⟩
  · have cv : IntKind.u16.wrap (u : Int) = (u : Int) := by rw [IntKind.wrap_u16]; omega
    have HB := Lib.hid hb
    have HT2 := Lib.hid (HT.out.below hb)
    clear hb herr
    have hne : s ≠ ⟨(nimT u).toArray⟩ := fun q => H.out u hu (by rw [q])
    obtain ⟨x, hx⟩ : ∃ x : ByteArray, x = ⟨(nimT u).toArray⟩ := ⟨_, rfl⟩
    rw [← hx] at hne
    have T1 : (!x.toList == s.toList) = true := by
      rw [toListIs, toListIs]
      simp only [Bool.not_eq_true', beq_eq_false_iff_ne]
      intro e
      exact hne (ByteArray.ext (Array.toList_inj.1 e.symm))
    have HX := Lib.hid hx
    clear hx hne
    go_wp2_with fail
    refine (impl_NimText u hu _ HT2.out).mono ?_
    rintro e w3 ⟨rfl, hb3⟩
    rw [← HX.out]
    have HB3 := Lib.hid (tchain HB.out hb3)
    clear hb3
    go_wp2_with fail
    go_ret2
    exact ⟨rfl, HB3.out⟩
  · have HB := Lib.hid hb
    clear hb herr
    go_wp2_with fail
    go_ret2
    exact ⟨rfl, HB.out⟩
theorem errs_of_laid {W : World} (h : laidMetH Tryd.prog [("math/bits.deBruijn32tab", Rows.laid_math_bits_deBruijn32tab), ("math/bits.deBruijn64tab", Rows.laid_math_bits_deBruijn64tab), ("internal/strconv.uint64pow10", Rows.laid_internal_strconv_uint64pow10), ("strconv.ErrRange", Rows.laid_strconv_ErrRange), ("strconv.ErrSyntax", Rows.laid_strconv_ErrSyntax)] W) : POW W ∧ ERRS W := by
  rw [MakeChecks.laidMetH_plain _ _ _ (by kernel_rfl)] at h
  have h3 := h.tail.tail
  have h4 := h3.tail
  have h5 := h4.tail
  have hp : POW W := Lib.tabIs_of_head (n := 20) (t := 94) (e := 47) gPow (by kernel_rfl) (by kernel_rfl) (by kernel_rfl) (by kernel_rfl) (by kernel_rfl) h3
  obtain ⟨a, ha⟩ := err_head h4 (g := 3) (by kernel_rfl) (by kernel_rfl)
  obtain ⟨b, hb⟩ := err_head h5 (g := 2) (by kernel_rfl) (by kernel_rfl)
  exact ⟨hp, ⟨⟨_, _, hb⟩, ⟨_, _, ha⟩⟩⟩
theorem ERRS.below {w w' : World} (h : ERRS w) (hs : 3 < w.heap.size) (hb : Below w.heap.size w w') : ERRS w' := by
  obtain ⟨⟨te, pe, h1⟩, ⟨te2, pe2, h2⟩⟩ := h
  exact ⟨⟨te, pe, (hb.cell (p := ⟨2, 0, none⟩) (by show 2 < w.heap.size; omega)).trans h1⟩, ⟨te2, pe2, (hb.cell (p := ⟨3, 0, none⟩) hs).trans h2⟩⟩
theorem ERRS.size {w : World} (h : ERRS w) : 3 < w.heap.size := by
  obtain ⟨te, pe, h2⟩ := h.b
  exact block_of_cell h2
end Go.Proofs.YthhjhfkcgokffaaDoor
