/-
  Several texts put together (part 32): what the law and the program call, walked; their contracts.
-/
import Derived.Test.YtdoambpiafkmmaaGreatDoorQ31
namespace Go.Proofs.YtdoambpiafkmmaaGreatDoor
open Go.RowKit
set_option linter.unusedVariables false
set_option linter.unusedSimpArgs false
structure TxOk (l : List UInt8) : Prop where
  ok : Lib.validD l = true
  sg : ∀ c ∈ l, c ≠ 13 ∧ c ≠ 123 ∧ c ≠ 125
theorem TxOk.nil : TxOk [] := ⟨rfl, fun c hc => by cases hc⟩
theorem TxOk.append {a b : List UInt8} (h : TxOk a) (g : TxOk b) : TxOk (a ++ b) := ⟨valid_two h.ok g.ok, fun c hc => by
  rcases List.mem_append.1 hc with hc | hc
  · exact h.sg c hc
  · exact g.sg c hc⟩
theorem valid_rep (c : UInt8) (hc : c.toNat < 128) : ∀ n, Lib.validD (List.replicate n c) = true
  | 0 => rfl
  | n + 1 => by rw [List.replicate_succ, Lib.validD_cons _ _ hc]; exact valid_rep c hc n
theorem TxOk.rep (c : UInt8) (hc : c.toNat < 128) (h : c ≠ 13 ∧ c ≠ 123 ∧ c ≠ 125) (n : Nat) : TxOk (List.replicate n c) := ⟨valid_rep c hc n, fun x hx => by rw [List.eq_of_mem_replicate hx]; exact h⟩
theorem trim_eq (l : List UInt8) : ∃ z, (∀ c ∈ z, c = 32) ∧ l = trimR l ++ z := by
  refine ⟨(l.reverse.takeWhile (· == 32)).reverse, fun c hc => ?_, ?_⟩
  · rw [List.mem_reverse] at hc
    have h := List.all_takeWhile (l := l.reverse) (p := (· == (32 : UInt8)))
    rw [List.all_eq_true] at h
    exact beq_iff_eq.1 (h c hc)
  · unfold trimR
    rw [← List.reverse_append, List.takeWhile_append_dropWhile, List.reverse_reverse]
theorem trim_end9 (l A : List UInt8) (x : UInt8) (h : trimR l = A ++ [x]) : x ≠ 32 := by
  intro e
  subst e
  unfold trimR at h
  have h2 := congrArg List.reverse h
  rw [List.reverse_reverse, List.reverse_append] at h2
  have h3 : (l.reverse.dropWhile (· == 32)).head? = some 32 := by rw [h2]; rfl
  have h4 := List.head?_dropWhile_not (· == (32 : UInt8)) l.reverse
  rw [h3] at h4
  simp at h4
theorem TxOk.trim {l : List UInt8} (h : TxOk l) : TxOk (trimR l) := by
  obtain ⟨z, hz, e⟩ := trim_eq l
  refine ⟨?_, fun c hc => h.sg c (by rw [e]; exact List.mem_append_left _ hc)⟩
  cases z with
  | nil => rw [List.append_nil] at e; rw [← e]; exact h.ok
  | cons a z =>
    have h1 := h.ok
    rw [e] at h1
    exact (valid_split _ _ _ _ (Nat.le_refl _) (by rw [hz a (List.mem_cons_self ..)]; decide) h1).1
def ElOk : EL → Prop
  | .mk t none => TxOk t.data.toList ∧ t.data.toList ≠ [] ∧ ∀ c ∈ t.data.toList, c ≠ 10
  | .mk t (some _) => t = E0
def stE : Bool → List EL → Bool
  | b, [] => b
  | _, .mk _ none :: r => stE true r
  | _, .mk _ (some _) :: r => stE false r
theorem textsB_app : ∀ (a b : List EL) (be : Bool), textsB be (a ++ b) = (textsB be a && textsB (stE be a) b)
  | [], b, be => by rw [List.nil_append, textsB, stE, Bool.true_and]
  | .mk t none :: r, b, be => by rw [List.cons_append, textsB, textsB, stE, textsB_app r b true, Bool.and_assoc, Bool.and_assoc, Bool.and_assoc, Bool.and_assoc, Bool.and_assoc, Bool.and_assoc, Bool.and_assoc]
  | .mk t (some e) :: r, b, be => by rw [List.cons_append, textsB, textsB, stE, textsB_app r b false, Bool.and_assoc]
theorem stE_app : ∀ (a b : List EL) (be : Bool), stE be (a ++ b) = stE (stE be a) b
  | [], b, be => rfl
  | .mk t none :: r, b, be => by rw [List.cons_append, stE, stE, stE_app r b true]
  | .mk t (some e) :: r, b, be => by rw [List.cons_append, stE, stE, stE_app r b false]
theorem mkB_dl (l : List UInt8) : (mkB l).data.toList = l := List.toList_toArray
theorem emp_list (X : ByteArray) : emp X = X.data.toList.isEmpty := by
  rw [emp_size, ← size_data]
  cases X.data.toList <;> simp
theorem textsB_one {l : List UInt8} (h : TxOk l) (hl : l ≠ []) : textsB false [.mk (mkB l) none] = true := by
  rw [textsB, textsB, emp_list, mkB_dl]
  unfold textB validB
  rw [mkB_dl, h.ok]
  have h1 : l.contains 13 = false := by
    rw [List.contains_eq_any_beq, List.any_eq_false]
    intro c hc e
    exact (h.sg c hc).1 (beq_iff_eq.1 e).symm
  have h2 : l.contains 123 = false := by
    rw [List.contains_eq_any_beq, List.any_eq_false]
    intro c hc e
    exact (h.sg c hc).2.1 (beq_iff_eq.1 e).symm
  have h3 : l.contains 125 = false := by
    rw [List.contains_eq_any_beq, List.any_eq_false]
    intro c hc e
    exact (h.sg c hc).2.2 (beq_iff_eq.1 e).symm
  rw [h1, h2, h3]
  cases l with
  | nil => exact absurd rfl hl
  | cons a l => rfl
structure JsOk (b : JS) : Prop where
  txs : textsB false b.1 = true
  st : stE false b.1 = false
  tx : TxOk b.2
theorem JsOk.ends {b : JS} (h : JsOk b) : textsB false (endS b) = true := by
  unfold endS
  split
  · exact h.txs
  · next hn => rw [textsB_app, h.txs, h.st, textsB_one h.tx hn]; rfl
theorem JsOk.part {b : JS} (h : JsOk b) : ∀ {x : EL}, ElOk x → JsOk (partJ b x)
  | .mk t none, hx => ⟨h.txs, h.st, h.tx.append hx.1⟩
  | .mk t (some e), hx => by
    obtain rfl : t = E0 := hx
    refine ⟨?_, ?_, TxOk.nil⟩
    · show textsB false (endS b ++ [.mk E0 (some e)]) = true
      rw [textsB_app, h.ends, textsB, textsB, emp_E0]; rfl
    · show stE false (endS b ++ [.mk E0 (some e)]) = false
      rw [stE_app, stE, stE]
theorem JsOk.parts : ∀ {l : List EL} {b : JS}, JsOk b → (∀ x ∈ l, ElOk x) → JsOk (l.foldl partJ b)
  | [], b, h, _ => h
  | x :: r, b, h, hl => by
    rw [List.foldl_cons]
    exact JsOk.parts (h.part (hl x (List.mem_cons_self ..))) (fun y hy => hl y (List.mem_cons_of_mem _ hy))
theorem JsOk.head {b : JS} (h : JsOk b) (least : Nat) (x : LN) : JsOk (headJ least b x) := by
  unfold headJ
  split
  · exact h
  · exact ⟨h.txs, h.st, (h.tx.append (TxOk.rep 10 (by decide) (by decide) _)).append (TxOk.rep 32 (by decide) (by decide) _)⟩
theorem JsOk.line {b : JS} (h : JsOk b) (least : Nat) {x : LN} (hx : ∀ e ∈ x.parts, ElOk e) : JsOk (lineJ least b x) := by
  unfold lineJ
  exact (h.head least x).parts hx
def flatJ (b : JS) : List UInt8 := linesOf 123 b.1 ++ b.2
theorem linesOf_app (c : UInt8) : ∀ a b : List EL, linesOf c (a ++ b) = linesOf c a ++ linesOf c b
  | [], b => by rw [List.nil_append, linesOf, List.nil_append]
  | .mk t none :: r, b => by rw [List.cons_append, linesOf, linesOf, linesOf_app c r b, List.append_assoc]
  | .mk t (some e) :: r, b => by rw [List.cons_append, linesOf, linesOf, linesOf_app c r b, List.cons_append]
theorem flat_end (b : JS) : linesOf 123 (endS b) = flatJ b := by
  unfold endS flatJ
  split
  · next h => rw [h, List.append_nil]
  · rw [linesOf_app, linesOf, linesOf, mkB_dl, List.append_nil]
theorem flat_part (b : JS) : ∀ x : EL, flatJ (partJ b x) = flatJ b ++ linesOf 123 [x]
  | .mk t none => by
    rw [linesOf, linesOf, List.append_nil]
    show linesOf 123 b.1 ++ (b.2 ++ t.data.toList) = _
    unfold flatJ
    rw [List.append_assoc]
  | .mk t (some e) => by
    rw [linesOf, linesOf]
    show linesOf 123 (endS b ++ [.mk t (some e)]) ++ [] = _
    rw [linesOf_app, flat_end, linesOf, linesOf, List.append_nil]
theorem flat_parts : ∀ (l : List EL) (b : JS), flatJ (l.foldl partJ b) = flatJ b ++ linesOf 123 l
  | [], b => by rw [linesOf, List.append_nil]; rfl
  | x :: r, b => by
    rw [List.foldl_cons, flat_parts r, flat_part, List.append_assoc, ← linesOf_app]
    rfl
theorem lines_ne : ∀ {l : List EL} {be : Bool}, textsB be l = true → l ≠ [] → linesOf 123 l ≠ []
  | [], _, _, h => absurd rfl h
  | .mk t none :: r, be, h, _ => by
    rw [textsB] at h
    rw [linesOf]
    intro e
    have e1 := List.append_eq_nil_iff.1 e
    rw [emp_list, e1.1] at h
    simp at h
  | .mk t (some x) :: r, _, _, _ => by rw [linesOf]; exact fun e => by cases e
theorem JsOk.none {b : JS} (h : JsOk b) : flatJ b = [] ↔ (b.1 = [] ∧ b.2 = []) := by
  unfold flatJ
  rw [List.append_eq_nil_iff]
  constructor
  · rintro ⟨h1, h2⟩
    refine ⟨Classical.byContradiction fun hn => lines_ne h.txs hn h1, h2⟩
  · rintro ⟨h1, h2⟩
    exact ⟨by rw [h1, linesOf], h2⟩
theorem flat_head {b : JS} (h : JsOk b) (least : Nat) (x : LN) : flatJ (headJ least b x) = if flatJ b = [] then [] else flatJ b ++ (List.replicate x.feeds 10 ++ List.replicate (x.spaces - least) 32) := by
  unfold headJ
  by_cases hn : flatJ b = []
  · rw [if_pos (h.none.1 hn), if_pos hn, hn]
  · rw [if_neg (fun e => hn (h.none.2 e)), if_neg hn]
    show linesOf 123 b.1 ++ (b.2 ++ _ ++ _) = _
    unfold flatJ
    rw [List.append_assoc, List.append_assoc]
theorem flat_line {b : JS} (h : JsOk b) (least : Nat) (x : LN) : flatJ (lineJ least b x) = (if flatJ b = [] then [] else flatJ b ++ (List.replicate x.feeds 10 ++ List.replicate (x.spaces - least) 32)) ++ linesOf 123 x.parts := by
  unfold lineJ
  rw [flat_parts, flat_head h]
theorem ends_place : ∀ (l : List EL) (be : Bool), stE be l = false → l = [] ∨ ∃ Z, linesOf 123 l = Z ++ [123]
  | [], _, _ => Or.inl rfl
  | .mk t none :: r, _, h => by
    rw [stE] at h
    rcases ends_place r true h with rfl | ⟨Z, hZ⟩
    · rw [stE] at h; cases h
    · exact Or.inr ⟨t.data.toList ++ Z, by rw [linesOf, hZ, List.append_assoc]⟩
  | .mk t (some e) :: r, _, h => by
    rw [stE] at h
    rcases ends_place r false h with rfl | ⟨Z, hZ⟩
    · exact Or.inr ⟨[], by rw [linesOf, linesOf]; rfl⟩
    · exact Or.inr ⟨123 :: Z, by rw [linesOf, hZ]; rfl⟩
theorem trim_behind (Z l : List UInt8) : trimR (Z ++ [123] ++ l) = Z ++ [123] ++ trimR l := by
  unfold trimR
  rw [List.reverse_append, List.reverse_append]
  obtain ⟨r, hr⟩ : ∃ r, l.reverse = r := ⟨_, rfl⟩
  rw [hr]
  clear hr
  induction r with
  | nil => simp
  | cons a r ih =>
    rw [List.cons_append, List.dropWhile_cons, List.dropWhile_cons]
    split
    · exact ih
    · simp
theorem flat_trim {b : JS} (h : JsOk b) : flatJ (b.1, trimR b.2) = trimR (flatJ b) := by
  unfold flatJ
  rcases ends_place b.1 false h.st with e | ⟨Z, hZ⟩
  · rw [e, linesOf]; rfl
  · rw [hZ, trim_behind]
end Go.Proofs.YtdoambpiafkmmaaGreatDoor

namespace Go.Proofs.YtdoambpiafkmmaaGreatDoor
open Go.RowKit
set_option linter.unusedVariables false
set_option linter.unusedSimpArgs false
def goodS (R : List UInt8) : Prop := (∃ R', R = 10 :: R') ∨ ∃ (p : Nat) (c : UInt8) (R' : List UInt8), R = List.replicate p 32 ++ c :: R' ∧ c ≠ 32 ∧ c ≠ 10 ∧ isMarkB c = false
def GoodL (l : List UInt8) : Prop := ∀ A R, l = A ++ 10 :: R → goodS R
theorem goodS.append {R : List UInt8} (h : goodS R) (X : List UInt8) : goodS (R ++ X) := by
  rcases h with ⟨R', rfl⟩ | ⟨p, c, R', rfl, h1, h2, h3⟩
  · exact Or.inl ⟨R' ++ X, rfl⟩
  · exact Or.inr ⟨p, c, R' ++ X, by rw [List.append_assoc]; rfl, h1, h2, h3⟩
theorem GoodL.no10 {l : List UInt8} (h : ∀ c ∈ l, c ≠ 10) : GoodL l := fun A R e => absurd rfl (h 10 (by rw [e]; simp))
theorem GoodL.app {a b : List UInt8} (h : GoodL a) (g : GoodL b) : GoodL (a ++ b) := by
  intro A R e
  rcases List.append_eq_append_iff.1 e with ⟨a', e1, e2⟩ | ⟨c', e1, e2⟩
  · exact g a' R e2
  · cases c' with
    | nil =>
      rw [List.nil_append] at e2
      exact g [] R (by rw [List.nil_append]; exact e2.symm)
    | cons x c' =>
      rw [List.cons_append] at e2
      injection e2 with e3 e4
      subst e3
      rw [e4]
      exact (h A c' e1).append b
theorem GoodL.seg {p : Nat} {c : UInt8} {B : List UInt8} (h1 : c ≠ 32) (h2 : c ≠ 10) (h3 : isMarkB c = false) (hB : ∀ x ∈ B, x ≠ 10) : ∀ f, GoodL (List.replicate f 10 ++ (List.replicate p 32 ++ c :: B))
  | 0 => GoodL.no10 (fun x hx => by
      rw [List.replicate_zero, List.nil_append] at hx
      rcases List.mem_append.1 hx with hx | hx
      · rw [List.eq_of_mem_replicate hx]; decide
      · rcases List.mem_cons.1 hx with hx | hx
        · rw [hx]; exact h2
        · exact hB x hx)
  | f + 1 => by
    intro A R e
    rw [List.replicate_succ, List.cons_append] at e
    cases A with
    | nil =>
      rw [List.nil_append] at e
      injection e with _ e
      subst e
      cases f with
      | zero => exact Or.inr ⟨p, c, B, rfl, h1, h2, h3⟩
      | succ f => exact Or.inl ⟨_, by rw [List.replicate_succ]; rfl⟩
    | cons a A =>
      rw [List.cons_append] at e
      injection e with _ e
      exact GoodL.seg h1 h2 h3 hB f A R e
def Hd0 (l : List UInt8) : Prop := ∀ c B, l = c :: B → c ≠ 32 ∧ c ≠ 10
def NoMk (l : List UInt8) : Prop := ∀ c B, l = c :: B → isMarkB c = false
def FlushL (l : List UInt8) : Prop := ∃ A c R, l = A ++ 10 :: c :: R ∧ c ≠ 32 ∧ c ≠ 10
theorem FlushL.append {l : List UInt8} (h : FlushL l) (X : List UInt8) : FlushL (l ++ X) := by
  obtain ⟨A, c, R, rfl, h1, h2⟩ := h
  exact ⟨A, c, R ++ X, by rw [List.append_assoc]; rfl, h1, h2⟩
theorem anyTo_no {p : Nat → Bool} : ∀ {m : Nat}, (∀ i, i < m → p i = false) → anyTo p m = false
  | 0, _ => rfl
  | m + 1, h => by rw [anyTo, anyTo_no (fun i hi => h i (by omega)), h m (by omega)]; rfl
theorem anyTo_yes {p : Nat → Bool} {i : Nat} (hp : p i = true) : ∀ {m : Nat}, i < m → anyTo p m = true
  | 0, h => by omega
  | m + 1, h => by
    rw [anyTo]
    by_cases he : i = m
    · rw [← he, hp, Bool.or_true]
    · rw [anyTo_yes hp (by omega : i < m)]; rfl
theorem at_mid (A : List UInt8) (c : UInt8) (R : List UInt8) : at0 (A ++ c :: R) A.length = c := by
  unfold at0
  rw [List.getD_eq_getElem?_getD, List.getElem?_append_right (Nat.le_refl _), Nat.sub_self]
  rfl
theorem at_split {l : List UInt8} {i : Nat} (h : i < l.length) : ∃ A R, l = A ++ at0 l i :: R ∧ A.length = i := by
  refine ⟨l.take i, l.drop (i + 1), ?_, by rw [List.length_take]; omega⟩
  rw [at0_get l i h, ← List.drop_eq_getElem_cons h, List.take_append_drop]
theorem behN_mid (A : List UInt8) (p : Nat) (c : UInt8) (R : List UInt8) (hc : c ≠ 32) : behN spB (A ++ (List.replicate p 32 ++ c :: R)) A.length = A.length + p := by
  unfold behN
  have e1 : (A ++ (List.replicate p 32 ++ c :: R)).drop A.length = List.replicate p 32 ++ c :: R := by rw [List.drop_left]
  rw [e1]
  have hf : spB c = false := by
    unfold spB
    refine decide_eq_false fun h => hc (UInt8.toNat_inj.1 ?_)
    show c.toNat = 32
    omega
  have e2 : ∀ p, (List.replicate p 32 ++ c :: R).takeWhile spB = List.replicate p 32 := by
    intro p
    induction p with
    | zero => rw [List.replicate_zero, List.nil_append, List.takeWhile_cons, hf]; rfl
    | succ p ih => rw [List.replicate_succ, List.cons_append, List.takeWhile_cons, show spB 32 = true by decide, if_pos rfl, ih]
  rw [e2, List.length_replicate]
theorem ne32 {c : UInt8} (h : c ≠ 32) : ¬ (c.toNat : Int) = 32 := fun e => h (UInt8.toNat_inj.1 (by show c.toNat = 32; omega))
theorem ne10 {c : UInt8} (h : c ≠ 10) : ¬ (c.toNat : Int) = 10 := fun e => h (UInt8.toNat_inj.1 (by show c.toNat = 10; omega))
theorem linesB_ok {l : List UInt8} (hne : l ≠ []) (h0 : Hd0 l) (hl : ∀ A x, l = A ++ [x] → x ≠ 32) (hG : GoodL l) (hM : NoMk l ∨ (∀ c ∈ l, c ≠ 10) ∨ FlushL l) : linesB l = true := by
  have hlen : 0 < l.length := List.length_pos_iff.2 hne
  have q1 : blB (at0 l 0) = false := by
    cases l with
    | nil => exact absurd rfl hne
    | cons c B =>
      obtain ⟨a1, a2⟩ := h0 c B rfl
      show decide ((c.toNat : Int) = 32 ∨ (c.toNat : Int) = 10) = false
      exact decide_eq_false (fun h => h.elim (ne32 a1) (ne10 a2))
  have q2 : blB (at0 l (l.length - 1)) = false := by
    obtain ⟨A, R, e, hA⟩ := at_split (l := l) (i := l.length - 1) (by omega)
    have hR : R = [] := by
      have := congrArg List.length e
      rw [List.length_append, List.length_cons] at this
      exact List.eq_nil_of_length_eq_zero (by omega)
    rw [hR] at e
    have a1 := hl A _ e
    have a2 : at0 l (l.length - 1) ≠ 10 := fun e10 => by
      rw [e10] at e
      rcases hG A [] e with ⟨R', h⟩ | ⟨p, c, R', h, _⟩
      · cases h
      · have := congrArg List.length h
        simp at this
    exact decide_eq_false (fun h => h.elim (ne32 a1) (ne10 a2))
  have q3 : anyTo (badAt l) l.length = false := anyTo_no fun i hi => by
    unfold badAt
    by_cases hn : newAt l i = true
    · have hn2 := hn
      unfold newAt at hn2
      rw [Bool.and_eq_true, Bool.and_eq_true, beq_iff_eq, decide_eq_true_iff, Bool.not_eq_true'] at hn2
      obtain ⟨⟨n1, n2⟩, n3⟩ := hn2
      obtain ⟨A, R, e, hA⟩ := at_split (l := l) (i := i) hi
      rw [n1] at e
      have e' : l = (A ++ [10]) ++ R := by rw [e, List.append_assoc]; rfl
      have hA' : (A ++ [(10 : UInt8)]).length = i + 1 := by rw [List.length_append, hA]; rfl
      rcases hG A R e with ⟨R', rfl⟩ | ⟨p, c, R', rfl, a1, a2, a3⟩
      · have := at_mid (A ++ [10]) 10 R'
        rw [← e', hA'] at this
        rw [this] at n3
        exact absurd n3 (by decide)
      · have hb := behN_mid (A ++ [10]) p c R' a1
        rw [← e', hA'] at hb
        rw [hb]
        have hc := at_mid ((A ++ [10]) ++ List.replicate p 32) c R'
        rw [List.append_assoc, ← e', List.length_append, hA', List.length_replicate] at hc
        rw [hc, a3, hn, beq_eq_false_iff_ne.2 a2]
        rfl
    · rw [Bool.not_eq_true] at hn
      rw [hn]; rfl
  unfold linesB
  rw [q1, q2, q3]
  rcases hM with hM | hM | ⟨A, c, R, e, a1, a2⟩
  · cases l with
    | nil => exact absurd rfl hne
    | cons c B =>
      have := hM c B rfl
      rw [show at0 (c :: B) 0 = c from rfl, this]
      rfl
  · have q4 : anyTo (newAt l) l.length = false := anyTo_no fun i hi => by
      unfold newAt
      have : at0 l i ≠ 10 := hM _ (by rw [at0_get l i hi]; exact List.getElem_mem hi)
      rw [beq_eq_false_iff_ne.2 this]; rfl
    rw [q4]
    simp
  · have q4 : flushAt l A.length = true := by
      have h1 := at_mid A 10 (c :: R)
      have h2 := at_mid (A ++ [10]) c R
      rw [List.append_assoc, List.length_append] at h2
      have h2' : at0 (A ++ 10 :: c :: R) (A.length + 1) = c := h2
      rw [← e] at h1 h2'
      unfold flushAt newAt
      rw [h1, h2', beq_eq_false_iff_ne.2 a2, decide_eq_true (by rw [e, List.length_append, List.length_cons, List.length_cons]; omega)]
      have : spB c = false := decide_eq_false (ne32 a1)
      rw [this]; rfl
    have q5 : anyTo (flushAt l) l.length = true := anyTo_yes q4 (by rw [e, List.length_append, List.length_cons]; omega)
    rw [q5]
    simp
theorem lines_trim {F : List UInt8} (hne : F ≠ []) (h0 : Hd0 F) (hG : GoodL F) (hM : NoMk F ∨ (∀ c ∈ F, c ≠ 10) ∨ FlushL F) : linesB (trimR F) = true := by
  obtain ⟨z, hz, e⟩ := trim_eq F
  obtain ⟨l, hl⟩ : ∃ l, trimR F = l := ⟨_, rfl⟩
  rw [hl] at e
  have hlne : l ≠ [] := by
    rintro rfl
    rw [List.nil_append] at e
    cases F with
    | nil => exact hne rfl
    | cons c B => exact (h0 c B rfl).1 (hz c (by rw [← e]; exact List.mem_cons_self ..))
  rw [hl]
  refine linesB_ok hlne ?_ ?_ ?_ ?_
  · intro c B hc
    exact h0 c (B ++ z) (by rw [e, hc]; rfl)
  · intro A x hx
    exact trim_end9 F A x (by rw [hl]; exact hx)
  · intro A R hA
    have := hG A (R ++ z) (by rw [e, hA, List.append_assoc]; rfl)
    rcases this with ⟨R', h⟩ | ⟨p, c, R', h, a1, a2, a3⟩
    · cases R with
      | nil =>
        rw [List.nil_append] at h
        exact absurd (hz 10 (by rw [h]; exact List.mem_cons_self ..)) (by decide)
      | cons r R =>
        rw [List.cons_append] at h
        injection h with h1 h2
        exact Or.inl ⟨R, by rw [h1]⟩
    · rcases List.append_eq_append_iff.1 h with ⟨a', e1, e2⟩ | ⟨c', e1, e2⟩
      · exact absurd (hz c (by rw [e2]; simp)) a1
      · cases c' with
        | nil =>
          rw [List.nil_append] at e2
          exact absurd (hz c (by rw [← e2]; exact List.mem_cons_self ..)) a1
        | cons x c' =>
          rw [List.cons_append] at e2
          injection e2 with e3 e4
          subst e3
          exact Or.inr ⟨p, c, c', e1, a1, a2, a3⟩
  · rcases hM with hM | hM | ⟨A, c, R, hA, a1, a2⟩
    · exact Or.inl (fun c B hc => hM c (B ++ z) (by rw [e, hc]; rfl))
    · exact Or.inr (Or.inl (fun c hc => hM c (by rw [e]; exact List.mem_append_left _ hc)))
    · refine Or.inr (Or.inr ?_)
      have h2 : (A ++ [10, c]) ++ R = l ++ z := by rw [← e, hA, List.append_assoc]; rfl
      rcases List.append_eq_append_iff.1 h2 with ⟨a', e1, e2⟩ | ⟨c', e1, e2⟩
      · exact ⟨A, c, a', by rw [e1, List.append_assoc]; rfl, a1, a2⟩
      · rcases List.eq_nil_or_concat c' with rfl | ⟨c', x, rfl⟩
        · exact ⟨A, c, [], by rw [List.append_nil] at e1; exact e1.symm, a1, a2⟩
        · exfalso
          rw [List.concat_eq_append] at e1 e2
          have h3 : (A ++ [10]) ++ [c] = (l ++ c') ++ [x] := by rw [List.append_assoc, List.append_assoc]; exact e1
          have h4 := (List.append_inj' h3 rfl).2
          injection h4 with h5 _
          exact a1 (hz c (by rw [e2, h5]; simp))
structure TailOk (x : LN) : Prop where
  els : ∀ e ∈ x.parts, ElOk e
  fd : 1 ≤ x.feeds
  hd : ∃ c B, linesOf 123 x.parts = c :: B ∧ c ≠ 32 ∧ c ≠ 10 ∧ isMarkB c = false
theorem els_no10 : ∀ {l : List EL}, (∀ e ∈ l, ElOk e) → ∀ c ∈ linesOf 123 l, c ≠ 10
  | [], _, c, hc => by rw [linesOf] at hc; cases hc
  | .mk t none :: r, h, c, hc => by
    rw [linesOf] at hc
    rcases List.mem_append.1 hc with hc | hc
    · exact (h _ (List.mem_cons_self ..)).2.2 c hc
    · exact els_no10 (fun e he => h e (List.mem_cons_of_mem _ he)) c hc
  | .mk t (some x) :: r, h, c, hc => by
    rw [linesOf] at hc
    rcases List.mem_cons.1 hc with hc | hc
    · rw [hc]; decide
    · exact els_no10 (fun e he => h e (List.mem_cons_of_mem _ he)) c hc
theorem least_in : ∀ (l : List LN) (m : Nat), (l.foldl (fun m y => if y.spaces < m then y.spaces else m) m = m) ∨ ∃ x ∈ l, x.spaces = l.foldl (fun m y => if y.spaces < m then y.spaces else m) m
  | [], m => Or.inl rfl
  | y :: r, m => by
    rw [List.foldl_cons]
    rcases least_in r (if y.spaces < m then y.spaces else m) with h | ⟨x, hx, h⟩
    · by_cases hc : y.spaces < m
      · rw [if_pos hc] at h ⊢
        exact Or.inr ⟨y, List.mem_cons_self .., h.symm⟩
      · rw [if_neg hc] at h ⊢
        exact Or.inl h
    · exact Or.inr ⟨x, List.mem_cons_of_mem _ hx, h⟩
theorem leastS_in : ∀ {l : List LN}, l ≠ [] → ∃ x ∈ l, x.spaces = leastS l
  | [], h => absurd rfl h
  | y :: r, _ => by
    unfold leastS
    rcases least_in r y.spaces with h | ⟨x, hx, h⟩
    · exact ⟨y, List.mem_cons_self .., h.symm⟩
    · exact ⟨x, List.mem_cons_of_mem _ hx, h⟩
structure Jn (least : Nat) (done : List LN) (b : JS) : Prop where
  ok : JsOk b
  hd : Hd0 (flatJ b)
  good : GoodL (flatJ b)
  mkk : NoMk (flatJ b) ∨ (flatJ b ≠ [] ∧ (∀ x ∈ done, x.spaces ≤ least → FlushL (flatJ b)) ∧ (done = [] → ∀ c ∈ flatJ b, c ≠ 10))
theorem Jn.step {least : Nat} {done : List LN} {b : JS} (h : Jn least done b) {x : LN} (hx : TailOk x) : Jn least (done ++ [x]) (lineJ least b x) := by
  obtain ⟨c, B, hcB, a1, a2, a3⟩ := hx.hd
  have hB : ∀ y ∈ c :: B, y ≠ 10 := by rw [← hcB]; exact els_no10 hx.els
  have hfl := flat_line h.ok least x
  by_cases hn : flatJ b = []
  · rw [if_pos hn, List.nil_append, hcB] at hfl
    refine ⟨h.ok.line least hx.els, ?_, ?_, Or.inl ?_⟩
    · rw [hfl]; intro d D e; injection e with e1 _; rw [← e1]; exact ⟨a1, a2⟩
    · rw [hfl]; exact GoodL.no10 hB
    · rw [hfl]; intro d D e; injection e with e1 _; rw [← e1]; exact a3
  · rw [if_neg hn, hcB, List.append_assoc, List.append_assoc] at hfl
    have hnew : ∀ d D, flatJ (lineJ least b x) = d :: D → ∃ D', flatJ b = d :: D' := fun d D e => by
      rw [hfl] at e
      cases hb : flatJ b with
      | nil => exact absurd hb hn
      | cons y Y =>
        rw [hb, List.cons_append] at e
        injection e with e1 _
        exact ⟨Y, by rw [e1]⟩
    refine ⟨h.ok.line least hx.els, ?_, ?_, ?_⟩
    · intro d D e
      obtain ⟨D', e'⟩ := hnew d D e
      exact h.hd d D' e'
    · rw [hfl]
      exact h.good.app (GoodL.seg a1 a2 a3 (fun y hy => hB y (List.mem_cons_of_mem _ hy)) x.feeds)
    · rcases h.mkk with hk | ⟨k1, k2, k3⟩
      · left
        intro d D e
        obtain ⟨D', e'⟩ := hnew d D e
        exact hk d D' e'
      · right
        refine ⟨?_, ?_, fun e => ?_⟩
        · rw [hfl]
          exact fun e => hn (List.append_eq_nil_iff.1 e).1
        · intro y hy hle
          rcases List.mem_append.1 hy with hy | hy
          · rw [hfl]; exact (k2 y hy hle).append _
          · rw [List.mem_singleton] at hy
            subst hy
            obtain ⟨f, hf⟩ : ∃ f, y.feeds = f + 1 := ⟨y.feeds - 1, by have := hx.fd; omega⟩
            rw [show y.spaces - least = 0 by omega, List.replicate_zero, List.nil_append, hf, List.replicate_succ'] at hfl
            exact ⟨flatJ b ++ List.replicate f 10, c, B, by rw [hfl]; simp, a1, a2⟩
        · exact absurd e (by simp)
theorem Jn.steps {least : Nat} : ∀ {more done : List LN} {b : JS}, Jn least done b → (∀ x ∈ more, TailOk x) → Jn least (done ++ more) (more.foldl (lineJ least) b)
  | [], done, b, h, _ => by rw [List.append_nil]; exact h
  | x :: r, done, b, h, hx => by
    have := Jn.steps (h.step (hx x (List.mem_cons_self ..))) (fun y hy => hx y (List.mem_cons_of_mem _ hy))
    rw [List.append_assoc] at this
    exact this
theorem join_rule {x : LN} {more : List LN} (hE : ∀ e ∈ x.parts, ElOk e) (hH : Hd0 (linesOf 123 x.parts)) (hT : ∀ y ∈ more, TailOk y) : patL (joinS (x :: more)) = true := by
  have hno := els_no10 hE
  obtain ⟨least, hle⟩ : ∃ m, leastS more = m := ⟨_, rfl⟩
  have j0 : JsOk (([], []) : JS) := ⟨rfl, rfl, TxOk.nil⟩
  have f0 : flatJ (lineJ least ([], []) x) = linesOf 123 x.parts := by
    have e0 : flatJ (([], []) : JS) = [] := by unfold flatJ; rw [linesOf]; rfl
    rw [flat_line j0, e0, if_pos rfl, List.nil_append]
  have J1 : Jn least [] (lineJ least ([], []) x) := by
    refine ⟨j0.line least hE, by rw [f0]; exact hH, by rw [f0]; exact GoodL.no10 hno, ?_⟩
    rw [f0]
    by_cases hn : linesOf 123 x.parts = []
    · left; rw [hn]; intro c B e; cases e
    · exact Or.inr ⟨hn, fun y hy => (by cases hy), fun _ => hno⟩
  have J2 := J1.steps hT
  rw [List.nil_append] at J2
  obtain ⟨b, hb⟩ : ∃ b, more.foldl (lineJ least) (lineJ least ([], []) x) = b := ⟨_, rfl⟩
  rw [hb] at J2
  have hj : joinS (x :: more) = endS (b.1, trimR b.2) := by
    unfold joinS
    rw [List.tail_cons, hle, List.foldl_cons, hb]
  have hok : JsOk (b.1, trimR b.2) := ⟨J2.ok.txs, J2.ok.st, J2.ok.tx.trim⟩
  rw [hj]
  unfold patL
  rw [hok.ends, Bool.true_and, flat_end, flat_trim J2.ok]
  by_cases hn : flatJ b = []
  · obtain ⟨e1, e2⟩ := J2.ok.none.1 hn
    rw [e1, e2]
    rfl
  · rw [lines_trim hn J2.hd J2.good ?_, Bool.or_true]
    rcases J2.mkk with h | ⟨_, h2, h3⟩
    · exact Or.inl h
    · right
      by_cases hm : more = []
      · exact Or.inl (h3 hm)
      · obtain ⟨y, hy, hy2⟩ := leastS_in hm
        exact Or.inr (h2 y hy (by rw [hy2, hle]; exact Nat.le_refl _))
end Go.Proofs.YtdoambpiafkmmaaGreatDoor
