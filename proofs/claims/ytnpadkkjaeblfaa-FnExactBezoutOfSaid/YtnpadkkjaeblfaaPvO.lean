/-
  Common divisors: what the program's rounds reckon is the rest (no program); the model's common divisor.
-/
import Derived.Test.YtnpadkkjaeblfaaPvU
namespace Go.Proofs.Ytnpadkkjaeblfaa
set_option linter.unusedVariables false
set_option linter.unusedSimpArgs false
open Go.ChangeShapes Go.WideShapes Go.ChangeAt Go.RowKit

theorem xorI_sw (x y : Int) : xorI x y = xorI y x := by unfold xorI; rw [Nat.xor_comm]
theorem xorI_as (x y z : Int) : xorI (xorI x y) z = xorI x (xorI y z) := by unfold xorI; simp [Nat.xor_assoc]
def xsum (f : Nat → Int) : Nat → Int
  | 0 => 0
  | n + 1 => xorI (xsum f n) (f n)
theorem xorI_nn (x y : Int) : 0 ≤ xorI x y := by unfold xorI; omega
theorem xsum_nn (f : Nat → Int) : ∀ n, 0 ≤ xsum f n
  | 0 => Int.le_refl _
  | n + 1 => xorI_nn _ _
theorem xsum_first (f : Nat → Int) (hf : ∀ k, 0 ≤ f k) : ∀ n, xsum f (n + 1) = xorI (f 0) (xsum (fun k => f (k + 1)) n)
  | 0 => by show xorI 0 (f 0) = xorI (f 0) 0; exact xorI_sw _ _
  | n + 1 => by
    show xorI (xsum f (n + 1)) (f (n + 1)) = xorI (f 0) (xorI (xsum (fun k => f (k + 1)) n) (f (n + 1)))
    rw [xsum_first f hf n, xorI_as]
theorem xsum_congr {f g : Nat → Int} : ∀ n, (∀ k, k < n → f k = g k) → xsum f n = xsum g n
  | 0, _ => rfl
  | n + 1, h => by unfold xsum; rw [xsum_congr n (fun k hk => h k (by omega)), h n (by omega)]
theorem xsum_rev (f : Nat → Int) (hf : ∀ k, 0 ≤ f k) : ∀ n, xsum f n = xsum (fun k => f (n - 1 - k)) n
  | 0 => rfl
  | n + 1 => by
    rw [xsum_first (fun k => f (n + 1 - 1 - k)) (fun k => hf _) n]
    show xorI (xsum f n) (f n) = _
    rw [xsum_rev f hf n, xorI_sw]
    show xorI (f n) _ = xorI (f (n + 1 - 1 - 0)) _
    rw [show n + 1 - 1 - 0 = n from by omega]
    congr 1
    exact xsum_congr n fun k hk => by congr 1; omega
def termP (b : List Int) (Q : Nat → Int) (s k : Nat) : Int := if k ≤ s ∧ s < k + b.length then mulI (Q k) (b.getD (s - k) 0) else 0
theorem mulI_nn (x y : Int) : 0 ≤ mulI x y := by unfold mulI; omega
theorem termP_nn (b : List Int) (Q : Nat → Int) (s k : Nat) : 0 ≤ termP b Q s k := by
  unfold termP
  split
  · exact mulI_nn _ _
  · exact Int.le_refl _
theorem divIn_term {b : List Int} {k : Nat} {Q : Nat → Int} {f : Nat → Int} (hf : ∀ s, 0 ≤ f s) (s : Nat) : divIn b k (Q k) f b.length s = xorI (f s) (termP b Q s k) := by
  unfold divIn termP
  split
  · rfl
  · rw [xorI_zero_right _ (hf s)]
theorem divR_sum {a b : List Int} (ha : inU a) (hb : inU b) (m : Nat) : ∀ j, j ≤ m → ∀ s, divR a b m j s = xorI (a.getD s 0) (xsum (fun i => termP b (divT a b m m) s (m - 1 - i)) j)
  | 0, _, s => by show a.getD s 0 = xorI (a.getD s 0) 0; rw [xorI_zero_right _ (ha.at s).1]
  | j + 1, hj, s => by
    have e : divQ b (divR a b m j) (m - 1 - j) = divT a b m m (m - 1 - j) := by
      unfold divT
      rw [if_pos (by omega), show m - 1 - (m - 1 - j) = j from by omega]
    unfold divR
    rw [e, divIn_term (Q := divT a b m m) (fun s => (divR_u ha hb m j s).1) s, divR_sum ha hb m j (by omega) s, xorI_as]
    rfl
theorem convJ_term (a b : List Int) (i : Nat) (f : Nat → Int) (hf : ∀ s, 0 ≤ f s) : ∀ k s, convJ a b i k f s = if i ≤ s ∧ s < i + k then xorI (f s) (mulI (a.getD i 0) (b.getD (s - i) 0)) else f s
  | 0, s => by rw [if_neg (by omega)]; rfl
  | k + 1, s => by
    unfold convJ put
    by_cases e : s = i + k
    · subst e
      rw [if_pos rfl, if_pos (by omega), convJ_term a b i f hf k (i + k), if_neg (by omega), show i + k - i = k from by omega]
    · rw [if_neg e, convJ_term a b i f hf k s]
      by_cases h1 : i ≤ s ∧ s < i + k
      · rw [if_pos h1, if_pos (by omega)]
      · rw [if_neg h1, if_neg (by omega)]
theorem convI_sum {a b : List Int} (ha : inU a) (hb : inU b) : ∀ i s, convI a b i s = xsum (fun k => termP b (fun k => a.getD k 0) s k) i
  | 0, _ => rfl
  | i + 1, s => by
    unfold convI
    rw [convJ_term a b i _ (fun s => (convI_u ha hb i s).1) b.length s, convI_sum ha hb i s]
    show _ = xorI (xsum (fun k => termP b (fun k => a.getD k 0) s k) i) (termP b (fun k => a.getD k 0) s i)
    unfold termP
    by_cases h1 : i ≤ s ∧ s < i + b.length
    · rw [if_pos h1, if_pos h1]
    · rw [if_neg h1, if_neg h1, xorI_zero_right _ (xsum_nn _ _)]
/-- the quotient's product, added, leaves the rest -/
theorem plus_quo {a b : List Int} (ha : inU a) (hb : inU b) (hta : topP a) (hn : 1 ≤ b.length) : pPlus a (pTimes (pQuo a b) b) = pRem a b := by
  by_cases hl : a.length < b.length
  · rw [pQuo_short hl, pTimes_zero (Or.inl rfl), pRem_short hl]
    unfold pPlus
    have e : mx a [] = a.length := by unfold mx; rw [if_neg (by simp)]
    have e2 : tab a.length (pXor a []) = a := by
      have e3 : tab a.length (pXor a []) = tab a.length fun i => a.getD i 0 := tab_ext fun i _ => by
        unfold pXor
        rw [getD_out [] i (Nat.zero_le _), xorI_zero_right _ (ha.at i).1]
      rw [e3]
      exact (list_tab a).symm
    rw [e, e2, pTrim_id hta]
  · rw [pRem_long hl]
    have hq : (pQuo a b).length = quoM a b := by rw [pQuo_tab, tab_len]
    have hm : quoM a b = a.length + 1 - b.length := rfl
    have hM : (pQuo a b).length + b.length - 1 = a.length := by omega
    have ht : pTimes (pQuo a b) b = tab a.length (convI (pQuo a b) b (quoM a b)) := by rw [pTimes_some (by omega), hM, hq]
    unfold pPlus
    have e : mx a (pTimes (pQuo a b) b) = a.length := by unfold mx; rw [ht, tab_len, if_neg (by omega)]
    rw [e]
    congr 1
    refine tab_ext fun s hs => ?_
    unfold pXor
    rw [ht, tab_at _ _ _ hs, convI_sum (pQuo_in ha hb) hb, divR_sum ha hb _ _ (Nat.le_refl _)]
    congr 1
    rw [xsum_rev _ (fun k => termP_nn _ _ _ _)]
    refine xsum_congr _ fun k hk => ?_
    have e5 : (pQuo a b).getD (quoM a b - 1 - k) 0 = divT a b (quoM a b) (quoM a b) (quoM a b - 1 - k) := by rw [pQuo_tab, tab_at _ _ _ (by omega)]
    unfold termP
    dsimp only
    rw [e5]

/-! common divisors -/
def gcdF : Nat → List Int → List Int → List Int
  | 0, a, _ => a
  | f + 1, a, b => if b.length = 0 then a else gcdF f b (pRem a b)
def pGcd (a b : List Int) : List Int := gcdF (b.length + 1) a b
theorem gcdF_go {f : Nat} {a b G : List Int} (h : gcdF f a b = G) (hf : 1 ≤ f) (hb : ¬ b.length = 0) : gcdF (f - 1) b (pRem a b) = G := by
  obtain ⟨g, rfl⟩ : ∃ g, f = g + 1 := ⟨f - 1, by omega⟩
  unfold gcdF at h
  rw [if_neg hb] at h
  exact h
theorem gcdF_stop {f : Nat} {a b G : List Int} (h : gcdF f a b = G) (hf : 1 ≤ f) (hb : b.length = 0) : a = G := by
  obtain ⟨g, rfl⟩ : ∃ g, f = g + 1 := ⟨f - 1, by omega⟩
  unfold gcdF at h
  rw [if_pos hb] at h
  exact h
theorem top_ne {b : List Int} (h : topP b) (h0 : ¬ b.length = 0) : b.getD (b.length - 1) 0 ≠ 0 := by
  rcases h with h | h
  · exact absurd h h0
  · exact h
set_option maxHeartbeats 2000000 in
set_option maxRecDepth 100000 in
theorem l05Common_any (v u : Value) (xs ys : List Int) (hn : xs.length ≤ 21) (hn2 : ys.length ≤ 21) (hta : topP xs) (htb : topP ys) (w : World) (h : NC w v xs) (h' : NC w u ys) :
    Calls Try.prog 103 #[v, u] w fun e w' => ∃ r, e = .returned r ∧ w'.ownsRow w.heap.size 41 1 r (pMonic (pGcd xs ys)).length (u16s (pMonic (pGcd xs ys))) ∧ Below w.heap.size w w' := by
  obtain ⟨A, c, rfl, hca⟩ := h.form
  obtain ⟨A', c', rfl, hca'⟩ := h'.form
  obtain ⟨G, hG⟩ : ∃ G, gcdF (ys.length + 1) xs ys = G := ⟨_, rfl⟩
  have hp : pGcd xs ys = G := hG
  rw [hp]
  have HS : Hid (NC w (.slice A xs.length c) xs ∧ NC w (.slice A' ys.length c') ys ∧ topP xs ∧ topP ys ∧ xs.length ≤ 21 ∧ ys.length ≤ 21) := Lib.hid ⟨h, h', hta, htb, hn, hn2⟩
  have HG := Lib.hid hG
  clear h h' hta htb hG hp
  go_enter Try.func103, Try.ntmps103
  go_wp2_with fail
  go_loopw [0, 1] (fun y0 y1 wr => ∃ (k : Nat) (X Y : List Int), Hid (NC wr y0 X ∧ NC wr y1 Y ∧ topP X ∧ topP Y ∧ X.length ≤ 21 ∧ Y.length ≤ 21) ∧ Y.length + k ≤ ys.length ∧ Hid (gcdF (ys.length + 1 - k) X Y = G) ∧ Hid (Below w.heap.size w wr)) (fun _ y1 _ => match y1 with | .slice _ n _ => n | _ => 0)
  case atStart => exact ⟨0, xs, ys, HS, by omega, HG, Lib.hid (Below.refl _ _)⟩
  case round =>
    clear HS HG
    obtain ⟨k, X, Y, HZ, hlk, HG, HB⟩ := hrel
    obtain ⟨A3, c3, rfl, _⟩ := HZ.out.1.form
    obtain ⟨A4, c4, rfl, _⟩ := HZ.out.2.1.form
    by_cases h0 : Y.length = 0
    · have hx := gcdF_stop HG.out (by omega) h0
      subst hx
      have HX := Lib.hid HZ.out.1.ns
      have hlx : X.length ≤ 1048576 := by have := HZ.out.2.2.2.2.1; omega
      rw [h0]
      clear h0 HZ HG
      go_wp2_with fail
      refine (l05Monic_any _ X hlx _ HX.out).mono ?_
      rintro e w3 ⟨r, rfl, ho, hb⟩
      have HO := Lib.hid (own_low ho HB.out.size)
      have HB3 := Lib.hid (bchain HB.out hb)
      clear ho hb
      go_wp2_with fail
      go_ret
      exact ⟨_, rfl, HO.out, HB3.out⟩
    · have hp : (0 : Int) < (Y.length : Int) := by omega
      have hdv := l05Divide_any _ _ X Y (by have := HZ.out.2.2.2.2.1; omega) (by have := HZ.out.2.2.2.2.2; omega) wr HZ.out.1 HZ.out.2.1 HZ.out.2.2.1 (by omega) (top_ne HZ.out.2.2.2.1 h0)
      have hrl := pRem_len HZ.out.1.inU HZ.out.2.1.inU (by omega) (top_ne HZ.out.2.2.2.1 h0)
      have hrt : topP (pRem X Y) := pRem_top HZ.out.2.2.1
      have hg := gcdF_go HG.out (by omega) h0
      have HDV := Lib.hid hdv
      have HRT := Lib.hid hrt
      have HG2 := Lib.hid hg
      clear hdv hrt hg
      go_wp2_with fail
      refine HDV.out.mono ?_
      rintro e w3 ⟨q, r, rfl, hq, hr, hb⟩
      obtain ⟨A5, c5, rfl, _⟩ := hq.form
      obtain ⟨A6, c6, rfl, _⟩ := hr.form
      have HN3 : Hid (NC w3 (.slice A4 Y.length c4) Y ∧ NC w3 (.slice A6 (pRem X Y).length c6) (pRem X Y) ∧ topP Y ∧ topP (pRem X Y) ∧ Y.length ≤ 21 ∧ (pRem X Y).length ≤ 21) := Lib.hid ⟨HZ.out.2.1.below hb, hr.nc, HZ.out.2.2.2.1, HRT.out, HZ.out.2.2.2.2.2, by have := HZ.out.2.2.2.2.2; omega⟩
      have HB3 := Lib.hid (bchain HB.out hb)
      clear hq hr hb
      go_wp2_with fail
      go_roundw
      case rel => exact ⟨k + 1, Y, pRem X Y, HN3, by omega, Lib.hid (by have := HG2.out; rwa [show ys.length + 1 - k - 1 = ys.length + 1 - (k + 1) from by omega] at this), HB3⟩
      case measure => exact hrl
end Go.Proofs.Ytnpadkkjaeblfaa
