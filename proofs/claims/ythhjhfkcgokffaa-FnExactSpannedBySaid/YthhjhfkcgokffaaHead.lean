/-
  The program's header text, word by word, as lists of signs: three closed facts on it without a long string.
-/
import Derived.Test.YthhjhfkcgokffaaRows
import Derived.ProofKit
import Derived.JoinedOf
namespace Go.Proofs.Ythhjhfkcgokffaa
def blankSign : Char := Char.ofNat 32
def headWords : List (List Char) := [
  List.map Char.ofNat [104, 97, 114, 110, 101, 115, 115],
  List.map Char.ofNat [50, 99, 53, 102, 54, 54, 51, 53, 55, 101, 51, 57, 50, 53, 102, 49, 54, 97, 51, 53, 56, 99, 56, 48, 48, 50, 57, 49, 50, 54, 49, 98, 102, 57, 97, 53, 56, 56, 56, 53, 100, 50, 55, 97, 97, 55, 101, 54, 51, 102, 52, 50, 99, 98, 57, 53, 57, 99, 49, 48, 57, 98, 102, 53],
  List.map Char.ofNat [99, 117, 116],
  List.map Char.ofNat [97, 116],
  List.map Char.ofNat [108, 111, 111, 112, 46, 101, 120, 97, 109, 112, 108, 101, 47, 103, 48, 49, 51, 48, 55, 47, 108, 97, 119, 115, 46, 70, 110, 69, 120, 97, 99, 116, 86, 97, 108, 105, 100, 87, 111, 114, 100],
  List.map Char.ofNat [108, 111, 111, 112, 46, 101, 120, 97, 109, 112, 108, 101, 47, 103, 48, 49, 51, 48, 55, 47, 108, 97, 119, 115, 46, 70, 110, 69, 120, 97, 99, 116, 83, 97, 109, 101, 87, 111, 114, 100],
  List.map Char.ofNat [108, 111, 111, 112, 46, 101, 120, 97, 109, 112, 108, 101, 47, 103, 48, 49, 51, 48, 55, 47, 108, 97, 119, 115, 46, 70, 110, 69, 120, 97, 99, 116, 87, 101, 105, 103, 104, 116, 79, 102],
  List.map Char.ofNat [108, 111, 111, 112, 46, 101, 120, 97, 109, 112, 108, 101, 47, 103, 48, 49, 51, 48, 55, 47, 108, 97, 119, 115, 46, 70, 110, 69, 120, 97, 99, 116, 65, 112, 97, 114, 116, 79, 102],
  List.map Char.ofNat [108, 111, 111, 112, 46, 101, 120, 97, 109, 112, 108, 101, 47, 103, 48, 49, 51, 48, 55, 47, 108, 97, 119, 115, 46, 70, 110, 69, 120, 97, 99, 116, 80, 108, 117, 115, 87, 111, 114, 100],
  List.map Char.ofNat [108, 111, 111, 112, 46, 101, 120, 97, 109, 112, 108, 101, 47, 103, 48, 49, 51, 48, 55, 47, 108, 97, 119, 115, 46, 70, 110, 69, 120, 97, 99, 116, 83, 99, 97, 108, 101, 87, 111, 114, 100],
  List.map Char.ofNat [108, 111, 111, 112, 46, 101, 120, 97, 109, 112, 108, 101, 47, 103, 48, 49, 51, 48, 55, 47, 108, 97, 119, 115, 46, 70, 110, 69, 120, 97, 99, 116, 80, 108, 97, 99, 101, 79, 102, 87, 111, 114, 100],
  List.map Char.ofNat [108, 111, 111, 112, 46, 101, 120, 97, 109, 112, 108, 101, 47, 103, 48, 49, 51, 48, 55, 47, 108, 97, 119, 115, 46, 70, 110, 69, 120, 97, 99, 116, 87, 111, 114, 100, 65, 116, 80, 108, 97, 99, 101],
  List.map Char.ofNat [108, 111, 111, 112, 46, 101, 120, 97, 109, 112, 108, 101, 47, 103, 48, 49, 51, 48, 55, 47, 108, 97, 119, 115, 46, 70, 110, 69, 120, 97, 99, 116, 71, 114, 101, 101, 100, 121, 67, 111, 100, 101],
  List.map Char.ofNat [108, 111, 111, 112, 46, 101, 120, 97, 109, 112, 108, 101, 47, 103, 48, 49, 51, 48, 55, 47, 108, 97, 119, 115, 46, 70, 110, 69, 120, 97, 99, 116, 71, 114, 101, 101, 100, 121, 66, 97, 115, 105, 115],
  List.map Char.ofNat [108, 111, 111, 112, 46, 101, 120, 97, 109, 112, 108, 101, 47, 103, 48, 49, 51, 48, 55, 47, 108, 97, 119, 115, 46, 70, 110, 69, 120, 97, 99, 116, 83, 112, 97, 110, 110, 101, 100, 66, 121],
  List.map Char.ofNat [108, 111, 111, 112, 46, 101, 120, 97, 109, 112, 108, 101, 47, 103, 48, 49, 51, 48, 55, 47, 108, 97, 119, 115, 46, 70, 110, 69, 120, 97, 99, 116, 67, 108, 111, 115, 101, 100, 85, 110, 100, 101, 114, 83, 117, 109, 115],
  List.map Char.ofNat [108, 111, 111, 112, 46, 101, 120, 97, 109, 112, 108, 101, 47, 103, 48, 49, 51, 48, 55, 47, 108, 97, 119, 115, 46, 70, 110, 69, 120, 97, 99, 116, 67, 108, 111, 115, 101, 100, 85, 110, 100, 101, 114, 80, 114, 111, 100, 117, 99, 116, 115],
  List.map Char.ofNat [108, 111, 111, 112, 46, 101, 120, 97, 109, 112, 108, 101, 47, 103, 48, 49, 51, 48, 55, 47, 108, 97, 119, 115, 46, 70, 110, 69, 120, 97, 99, 116, 76, 101, 97, 115, 116, 65, 112, 97, 114, 116, 79, 102],
  List.map Char.ofNat [108, 111, 111, 112, 46, 101, 120, 97, 109, 112, 108, 101, 47, 103, 48, 49, 51, 48, 55, 47, 108, 97, 119, 115, 46, 70, 110, 69, 120, 97, 99, 116, 78, 101, 97, 114, 101, 115, 116, 79, 102],
  List.map Char.ofNat [108, 111, 111, 112, 46, 101, 120, 97, 109, 112, 108, 101, 47, 103, 48, 49, 51, 48, 55, 47, 108, 97, 119, 115, 46, 70, 110, 69, 120, 97, 99, 116, 82, 101, 112, 97, 105, 114, 87, 105, 116, 104],
  List.map Char.ofNat [108, 111, 111, 112, 46, 101, 120, 97, 109, 112, 108, 101, 47, 103, 48, 49, 51, 48, 55, 47, 108, 97, 119, 115, 46, 70, 110, 69, 120, 97, 99, 116, 87, 101, 105, 103, 104, 116, 115, 73, 110],
  List.map Char.ofNat [108, 111, 111, 112, 46, 101, 120, 97, 109, 112, 108, 101, 47, 103, 48, 49, 51, 48, 55, 47, 108, 97, 119, 115, 46, 70, 110, 69, 120, 97, 99, 116, 67, 104, 101, 99, 107, 83, 117, 109],
  List.map Char.ofNat [108, 111, 111, 112, 46, 101, 120, 97, 109, 112, 108, 101, 47, 103, 48, 49, 51, 48, 55, 47, 108, 97, 119, 115, 46, 70, 110, 69, 120, 97, 99, 116, 87, 105, 116, 104, 67, 104, 101, 99, 107, 83, 117, 109, 115],
  List.map Char.ofNat [108, 111, 111, 112, 46, 101, 120, 97, 109, 112, 108, 101, 47, 103, 48, 49, 51, 48, 55, 47, 108, 97, 119, 115, 46, 70, 110, 69, 120, 97, 99, 116, 82, 101, 112, 97, 105, 114, 66, 121, 83, 117, 109, 115]]
def joinSigns : List (List Char) → List Char
  | [] => []
  | w :: ws => match ws with
    | [] => w
    | _ :: _ => w ++ blankSign :: joinSigns ws
theorem wordsSigns_cons (c : Char) (r : List Char) (h : c ≠ blankSign) : wordsSigns (c :: r) = match wordsSigns r with
    | w :: ws => (c :: w) :: ws
    | [] => [[c]] := by
  have e := wordsSigns.eq_3 c r (fun e => h e)
  exact e
theorem wordsSigns_word (w : List Char) (h : ∀ c ∈ w, c ≠ blankSign) : wordsSigns w = [w] := by
  induction w with
  | nil => rfl
  | cons c w ih =>
    rw [wordsSigns_cons c w (h c (List.mem_cons_self ..)), ih (fun c' h' => h c' (List.mem_cons_of_mem _ h'))]
theorem wordsSigns_blank (r : List Char) : wordsSigns (blankSign :: r) = [] :: wordsSigns r := rfl
theorem wordsSigns_append (w r : List Char) (h : ∀ c ∈ w, c ≠ blankSign) : wordsSigns (w ++ blankSign :: r) = w :: wordsSigns r := by
  induction w with
  | nil => exact wordsSigns_blank r
  | cons c w ih =>
    rw [List.cons_append, wordsSigns_cons c _ (h c (List.mem_cons_self ..)), ih (fun c' h' => h c' (List.mem_cons_of_mem _ h'))]
theorem wordsSigns_join (ws : List (List Char)) (hne : ws ≠ []) (h : ∀ w ∈ ws, ∀ c ∈ w, c ≠ blankSign) : wordsSigns (joinSigns ws) = ws := by
  induction ws with
  | nil => exact absurd rfl hne
  | cons w ws ih =>
    cases ws with
    | nil => exact wordsSigns_word w (h w (List.mem_cons_self ..))
    | cons v vs =>
      show wordsSigns (w ++ blankSign :: joinSigns (v :: vs)) = _
      rw [wordsSigns_append w _ (h w (List.mem_cons_self ..)), ih (by simp) (fun w' h' => h w' (List.mem_cons_of_mem _ h'))]
theorem headPlain : headWords.all (fun w => w.all (fun c => c != blankSign)) = true := by decide +kernel
theorem headIs : Try.prog.initOrder = String.ofList (joinSigns headWords) := by
  conv => lhs; whnf
  kernel_rfl
theorem headList : Try.prog.initOrder.toList = joinSigns headWords := by rw [headIs, String.toList_ofList]
theorem headSplit : wordsSigns Try.prog.initOrder.toList = headWords := by
  rw [headList]
  refine wordsSigns_join _ (by decide +kernel) (fun w hw c hc => ?_)
  have h1 := List.all_eq_true.1 headPlain w hw
  have h2 := List.all_eq_true.1 h1 c hc
  simpa using h2
theorem headBehind : behindMainWord (wordsSigns Try.prog.initOrder.toList) = "cut".toList :: headWords.drop 3 := by rw [headSplit]; kernel_rfl
theorem strip_cut (rest : List (List Char)) : stripLifts liftWords ("cut".toList :: rest) = ([], "cut".toList :: rest) := by kernel_rfl
theorem make_cut (P : Program) (rest : List (List Char)) (h : behindMainWord (wordsSigns P.initOrder.toList) = "cut".toList :: rest) : P.make = some .cut := by
  unfold Program.make
  rw [h]
  kernel_rfl
theorem headLifts_cut (P : Program) (rest : List (List Char)) (h : behindMainWord (wordsSigns P.initOrder.toList) = "cut".toList :: rest) : P.headLifts = [] := by
  unfold Program.headLifts
  rw [h, strip_cut]
  kernel_rfl
theorem liftsFinal_cut (P : Program) (rest : List (List Char)) (h : behindMainWord (wordsSigns P.initOrder.toList) = "cut".toList :: rest) : P.liftsFinal = false := by
  unfold Program.liftsFinal
  rw [headLifts_cut P rest h, h]
  kernel_rfl
theorem mayEnter_cut (P : Program) (rest : List (List Char)) (h : behindMainWord (wordsSigns P.initOrder.toList) = "cut".toList :: rest)
    (h1 : P.laysLater = false) (h2 : P.bearsReflect = false) (h3 : P.doorFits [] = true) : P.mayEnter = true := by
  unfold Program.mayEnter
  rw [h]
  simp only [strip_cut, h1, h2, h3]
  kernel_rfl
theorem mayEnterIs : Try.prog.mayEnter = true := mayEnter_cut _ _ headBehind (by kernel_rfl) (by kernel_rfl) (by kernel_rfl)
theorem liftsFinalIs : Try.prog.liftsFinal = false := liftsFinal_cut _ _ headBehind
theorem makeIs : Try.prog.make = some .cut := make_cut _ _ headBehind
/-- the closed facts of a row, as a function of the three on the header -/
def rowFacts (P : Program) (f : FuncId) (fn : Func) (s : ChangeSpec) (c : OpenClaim) :
    { F : Bool → Bool → Option Make → Bool // joinedFacts P f fn s c = F P.mayEnter P.liftsFinal P.make } := by
  refine ⟨?F, ?h⟩
  case h =>
    unfold joinedFacts
    generalize P.mayEnter = b1
    generalize P.liftsFinal = b2
    generalize P.make = m
    rfl
theorem joinedSub {x a b : Bool} {m : Option Make} (r : { F : Bool → Bool → Option Make → Bool // x = F a b m }) (h1 : a = true) (h2 : b = false) (h3 : m = some .cut) (h : r.1 true false (some .cut) = true) : x = true := by
  subst h1 h2 h3
  exact r.2.trans h
theorem joinedGen (P : Program) (f : FuncId) (fn : Func) (s : ChangeSpec) (c : OpenClaim) (h1 : P.mayEnter = true) (h2 : P.liftsFinal = false) (h3 : P.make = some .cut)
    (h : (rowFacts P f fn s c).1 true false (some .cut) = true) : joinedFacts P f fn s c = true :=
  joinedSub (rowFacts P f fn s c) h1 h2 h3 h
theorem joinedBy (f : FuncId) (fn : Func) (s : ChangeSpec) (c : OpenClaim) (h : (rowFacts Try.prog f fn s c).1 true false (some .cut) = true) : joinedFacts Try.prog f fn s c = true :=
  joinedGen Try.prog f fn s c mayEnterIs liftsFinalIs makeIs h
end Go.Proofs.Ythhjhfkcgokffaa
