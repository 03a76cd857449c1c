/-
  Taken together by bin/slice.py: what small_any,lright_any want (part 1).
-/
import Derived.Test.YtminidoiaplhjaaDoorAtt
import Derived.Test.YtminidoiaplhjaaDoorScMath2
import Derived.Test.YtminidoiaplhjaaDoorCh
import Derived.Test.YtminidoiaplhjaaDoorTDec0
import Derived.Test.YtminidoiaplhjaaDoorKp0
import Derived.Lib.OthersKept
import Derived.Lib.MapLaws
import Derived.Lib.OwnKind
import Derived.Lib.Builder
import Derived.WalkSmall
import Derived.OneCell
import Derived.Laws.EntriesVeiled
import Derived.Lib.ValidU
import Derived.Lib.Bytealg
import Derived.Lib.Strings
import Derived.Laws.RangeAny
import Derived.Laws.RangeString
import Derived.Lib.TrimU
import Derived.WalkMore
import Derived.Deep.LoopGhost
import Derived.Deep.QuietTactic
import Derived.BigQuiet
import Derived.Lib.TrimUEq
import Derived.Deep.DeepCutAuto
import Derived.Maps.Own
import Derived.Maps.OwnOps
import Derived.Maps.OwnSet
import Derived.Maps.Views
import Derived.WideMake
import Derived.StillTailTactics
import Derived.Deep.RegionHeld3
namespace Go.Proofs.YtminidoiaplhjaaDoor
open Go.RowKit
set_option linter.unusedVariables false
set_option linter.unusedSimpArgs false

-- from Sc3
/-- The place behind a name. -/
def nameI (l : List UInt8) (i : Int) : Int := if 0 ≤ i ∧ i < l.length ∧ leB (l.getD i.toNat 0) = true then behI naB l i else i
/-- The place behind a sign that may stand there. -/
def sgnI (l : List UInt8) (c : UInt8) (i : Int) : Int := if 0 ≤ i ∧ i < l.length ∧ l.getD i.toNat 0 = c then i + 1 else i
def numI (l : List UInt8) (i : Int) : Int :=
  if sgnI l 45 i < behI dgB l (sgnI l 45 i) then
    if sgnI l 46 (behI dgB l (sgnI l 45 i)) < behI dgB l (sgnI l 46 (behI dgB l (sgnI l 45 i))) then behI dgB l (sgnI l 46 (behI dgB l (sgnI l 45 i)))
    else behI dgB l (sgnI l 45 i)
  else i
-- from Sc4
def bigV (s : ByteArray) : Bool := !s.data.toList.isEmpty && (behI biB s.data.toList 0 == (s.size : Int))
def isNameV (s : ByteArray) : Bool := !s.data.toList.isEmpty && (nameI s.data.toList 0 == (s.size : Int))
-- from Asp
/-- Is a text made of signs alone? Is it a number? -/
def validB (s : ByteArray) : Bool := Lib.validD s.data.toList
def isNum (s : ByteArray) : Bool := !s.data.toList.isEmpty && (numI s.data.toList 0 == (s.size : Int))
/-- Where an expression stands: inline, in braces, asked. -/
inductive Md where | inl | brc | ask
/-- What is asked of an expression's own fields, but for what stands within. -/
def inlP (k : Int) (t n a : ByteArray) (as0 i0 vs0 argsOk innerOk : Bool) : Bool :=
  if k = 0 then validB t && (emp n && emp a && as0 && i0 && vs0)
  else if k = 1 then isNum t && (emp n && emp a && as0 && i0 && vs0)
  else if k = 2 then isNameV n && (emp t && emp a && as0 && i0 && vs0)
  else if k = 3 then isNameV n && (emp a || isNameV a) && (emp t && as0 && i0 && vs0)
  else if k = 4 then isNameV n && argsOk && (emp t && emp a && i0 && vs0)
  else if k = 5 then isNameV n && bigV n && argsOk && (emp t && emp a && i0 && vs0)
  else if k = 6 then innerOk && (emp t && emp n && emp a && as0 && vs0)
  else false
/-- The names of arguments: first those without, then those with one, none twice, each of a text or a number. -/
def argNames : List ByteArray → List AR → Bool
  | _, [] => true
  | seen, .mk n (.mk k _ _ _ _ _ _) :: r =>
    if emp n then seen.isEmpty && argNames seen r
    else !memB n seen && isNameV n && (k == 0 || k == 1) && argNames (n :: seen) r
/-- A pattern's lines: '{' (or another sign) for each place. -/
def linesOf (c : UInt8) : List EL → List UInt8
  | [] => []
  | .mk t none :: r => t.data.toList ++ linesOf c r
  | .mk t (some _) :: r => c :: linesOf c r
def isMarkB (c : UInt8) : Bool := decide ((c.toNat : Int) = 46 ∨ (c.toNat : Int) = 42 ∨ (c.toNat : Int) = 91)
/-- A line that isn't empty begins behind this place; with something wrong behind its spaces; without spaces. -/
def newAt (l : List UInt8) (i : Nat) : Bool := (at0 l i == 10) && decide (i + 1 < l.length) && !(at0 l (i + 1) == 10)
def badAt (l : List UInt8) (i : Nat) : Bool := newAt l i && (at0 l (behN spB l (i + 1)) == 10 || isMarkB (at0 l (behN spB l (i + 1))))
def flushAt (l : List UInt8) (i : Nat) : Bool := newAt l i && !spB (at0 l (i + 1))
def anyTo (p : Nat → Bool) : Nat → Bool
  | 0 => false
  | m + 1 => anyTo p m || p m
def linesB (l : List UInt8) : Bool :=
  !blB (at0 l 0) && !blB (at0 l (l.length - 1)) && !anyTo (badAt l) l.length && (!isMarkB (at0 l 0) || !anyTo (newAt l) l.length || anyTo (flushAt l) l.length)
/-- A pattern's texts. -/
def textB (t : ByteArray) : Bool := validB t && !t.data.toList.contains 13
def textsB : Bool → List EL → Bool
  | _, [] => true
  | beside, .mk t none :: r => !emp t && textB t && !(t.data.toList.contains 123 || t.data.toList.contains 125) && !beside && textsB true r
  | _, .mk t (some _) :: r => emp t && textsB false r
/-- A pattern, but for its places. -/
def patL (l : List EL) : Bool := textsB false l && (l.isEmpty || linesB (linesOf 123 l))
/-- A Select's variants, but for what stands in them. -/
def varsL (vs : List VA) : Bool := vs.all (fun v => (isNameV (vaKey v) || isNum (vaKey v)) && !(vaVal v).isEmpty && patL (vaVal v)) && (vs.countP vaDflt == 1)
mutual
def okE : Md → EX → Nat → Bool
  | m, .mk k t n a al i vs, d =>
    match m with
    | .inl => inlP k t n a al.isEmpty i.isNone vs.isEmpty (argNames [] al && okAs al d) (okO .brc i (d + 1))
    | .brc => decide (d ≤ 20) && (if k = 7 then emp t && emp n && emp a && al.isEmpty && varsL vs && okVs vs d && okO .ask i d
        else inlP k t n a al.isEmpty i.isNone vs.isEmpty (argNames [] al && okAs al d) (okO .brc i (d + 1)))
    | .ask => if k = 4 then isNameV a && inlP k t n ByteArray.empty al.isEmpty i.isNone vs.isEmpty (argNames [] al && okAs al d) (okO .brc i (d + 1))
        else if k = 0 ∨ k = 1 ∨ k = 2 ∨ k = 5 then inlP k t n a al.isEmpty i.isNone vs.isEmpty (argNames [] al && okAs al d) (okO .brc i (d + 1)) else false
def okO : Md → Option EX → Nat → Bool
  | _, none, _ => false
  | m, some e, d => okE m e d
def okAs : List AR → Nat → Bool
  | [], _ => true
  | .mk _ e :: r, d => okE .inl e d && okAs r d
def okVs : List VA → Nat → Bool
  | [], _ => true
  | .mk _ _ v :: r, d => okEs v (d + 1) && okVs r d
def okEs : List EL → Nat → Bool
  | [], _ => true
  | .mk _ none :: r, d => okEs r d
  | .mk _ (some e) :: r, d => okE .brc e d && okEs r d
end
/-- May a pattern be, within so many braces? -/
def patB (l : List EL) (d : Nat) : Bool := patL l && okEs l (d + 1)
/-- What may still be to be asked. -/
inductive Qn where
  | same (a b : EX)
  | pats (a b : List EL)
  | may (m : Md) (e : EX) (d : Nat)
def Qn.ans : Qn → Bool
  | .same a b => sameE a b
  | .pats a b => sameEs a b
  | .may m e d => okE m e d
def Qn.size : Qn → Nat
  | .same a _ => a.size
  | .pats a _ => 1 + sizeEs a
  | .may _ e _ => e.size
def total : List Qn → Nat
  | [] => 0
  | q :: r => q.size + total r
theorem EX.size_pos : ∀ e : EX, 1 ≤ e.size
  | .mk .. => by rw [EX.size]; omega
theorem Qn.size_pos (q : Qn) : 1 ≤ q.size := by
  cases q with
  | same a b => exact a.size_pos
  | pats a b => rw [Qn.size]; omega
  | may m e d => exact e.size_pos
def answers (qs : List Qn) : Bool := qs.all Qn.ans
-- from Aqn
theorem ne_of_box {w : World} {k qb : Nat} {cs cs' : Array Value} {t t' : TypeId} (h : BoxAt w k cs t) (h' : BoxAt w qb cs' t') (ht : t ≠ t') : k ≠ qb := by
  rintro rfl
  unfold BoxAt at h h'
  rw [h] at h'
  cases h'
  exact ht rfl
-- from Asm
theorem EsAt.get {W : World} : ∀ {l : List EL} {b o : Nat} (j : Nat) {t : ByteArray} {p : Option EX}, EsAt W l b o → l[j]? = some (.mk t p) →
    b < W.heap.size ∧ W.cell? ⟨b, o + j * 2, none⟩ = some (.string t) ∧ ∃ u, W.cell? ⟨b, o + j * 2 + 1, none⟩ = some u ∧ OAt W p u
  | [], b, o, j, t, p, h, hj => by simp at hj
  | .mk t' p' :: r, b, o, 0, t, p, h, hj => by
    rw [EsAt] at h
    simp at hj
    obtain ⟨rfl, rfl⟩ := hj
    obtain ⟨h0, h1, h2, _⟩ := h
    exact ⟨h0, by simpa using h1, by simpa using h2⟩
  | .mk t' p' :: r, b, o, j + 1, t, p, h, hj => by
    rw [EsAt] at h
    have := EsAt.get j h.2.2.2 (by simpa using hj)
    rw [show o + (j + 1) * 2 = o + 2 + j * 2 by omega]
    exact this
theorem AsAt.get {W : World} : ∀ {l : List AR} {b o : Nat} (j : Nat) {t : ByteArray} {e : EX}, AsAt W l b o → l[j]? = some (.mk t e) →
    b < W.heap.size ∧ W.cell? ⟨b, o + j * 8, none⟩ = some (.string t) ∧ ∃ c, CellsAt W b (o + j * 8 + 1) c ∧ ExAt W e c
  | [], b, o, j, t, p, h, hj => by simp at hj
  | .mk t' p' :: r, b, o, 0, t, p, h, hj => by
    rw [AsAt] at h
    simp at hj
    obtain ⟨rfl, rfl⟩ := hj
    obtain ⟨h0, h1, h2, _⟩ := h
    exact ⟨h0, by simpa using h1, by simpa using h2⟩
  | .mk t' p' :: r, b, o, j + 1, t, p, h, hj => by
    rw [AsAt] at h
    have := AsAt.get j h.2.2.2 (by simpa using hj)
    rw [show o + (j + 1) * 8 = o + 8 + j * 8 by omega]
    exact this
theorem VsAt.get {W : World} : ∀ {l : List VA} {b o : Nat} (j : Nat) {t : ByteArray} {d : Bool} {v : List EL}, VsAt W l b o → l[j]? = some (.mk t d v) →
    b < W.heap.size ∧ W.cell? ⟨b, o + j * 3, none⟩ = some (.string t) ∧ W.cell? ⟨b, o + j * 3 + 1, none⟩ = some (.bool d) ∧ ∃ u, W.cell? ⟨b, o + j * 3 + 2, none⟩ = some u ∧ PatAt W v u
  | [], b, o, j, t, d, p, h, hj => by simp at hj
  | .mk t' d' p' :: r, b, o, 0, t, d, p, h, hj => by
    rw [VsAt] at h
    simp at hj
    obtain ⟨rfl, rfl, rfl⟩ := hj
    obtain ⟨h0, h1, hd, h2, _⟩ := h
    exact ⟨h0, by simpa using h1, by simpa using hd, by simpa [PatAt] using h2⟩
  | .mk t' d' p' :: r, b, o, j + 1, t, d, p, h, hj => by
    rw [VsAt] at h
    have := VsAt.get j h.2.2.2.2 (by simpa using hj)
    rw [show o + (j + 1) * 3 = o + 3 + j * 3 by omega]
    exact this
-- from Atx
/-- utf8's tables lie in memory. -/
def TabU (w : World) : Prop := Lib.Utf8Tabs 0 1 w
-- from Aln
theorem badAt_no {l : List UInt8} {j : Nat} (h : newAt l j = false) : badAt l j = false := by unfold badAt; rw [h]; rfl
theorem flushAt_no {l : List UInt8} {j : Nat} (h : newAt l j = false) : flushAt l j = false := by unfold flushAt; rw [h]; rfl
theorem at0_data (s : ByteArray) (k : Nat) (h : k < s.size) : at0 s.data.toList k = s[k] := by
  rw [at0_get _ _ (by rw [size_data]; exact h)]; rfl
theorem beh_pos (p : UInt8 → Bool) (l : List UInt8) (k : Nat) (h : k < l.length) : decide ((k : Int) < (behN p l k : Int)) = p (at0 l k) := by
  rw [at0_get l k h]
  cases hb : p l[k]
  · rw [behN_no p l k h hb]; simp
  · have h1 := behN_yes p l k h hb
    have h2 := behN_ge p l (k + 1)
    exact decide_eq_true (by omega)
theorem sp_at (l : List UInt8) (k : Nat) (h : k < l.length) : ((behN spB l k : Int) == (k : Int)) = !spB (at0 l k) := by
  have := beh_pos spB l k h
  have hg := behN_ge spB l k
  rw [← this]
  by_cases e : behN spB l k = k
  · rw [e]; simp
  · have h1 : (k : Int) < (behN spB l k : Int) := by omega
    rw [decide_eq_true h1]
    simp
    omega
/-- Behind spaces something stands, if the last sign is none. -/
theorem sp_lt (l : List UInt8) (k : Nat) (h : k < l.length) (hl : blB (at0 l (l.length - 1)) = false) : behN spB l k < l.length := by
  have h1 := behN_le spB l k (by omega)
  rcases Nat.lt_or_ge (behN spB l k) l.length with h2 | h2
  · exact h2
  · have := behN_so spB l k (l.length - 1) (by omega) (by omega)
    unfold blB at hl
    unfold spB at this
    simp at hl this
    omega
theorem anyTo_true (p : Nat → Bool) (i : Nat) (h : p i = true) : ∀ n, i < n → anyTo p n = true
  | 0, hn => by omega
  | n + 1, hn => by
    rw [anyTo]
    by_cases e : i = n
    · subst e; rw [h, Bool.or_true]
    · rw [anyTo_true p i h n (by omega), Bool.true_or]
-- from Apk
theorem IsBuilderF.box {n b : Nat} {bs : List Value} {w : World} (h : Lib.IsBuilderF 44 5 n b bs w) : ∃ cs, BoxAt w b cs 44 := by
  rcases h with ⟨_, v, h, _⟩ | ⟨_, v, h, _⟩
  · exact ⟨_, h⟩
  · exact ⟨_, h⟩
-- from Apa
/-- Does a text stand ahead? -/
def besideAt (l : List EL) : Nat → Bool
  | 0 => false
  | j + 1 => match l[j]? with
    | some (.mk _ none) => true
    | _ => false
/-- The value of an element's place. -/
theorem pat_get {W0 : World} {l : List EL} {v : Value} (h : PatAt W0 l v) {i : Nat} (hi : i < l.length) : ∃ b o c, v = .slice (some ⟨b, o, none⟩) l.length c ∧ b < W0.heap.size ∧
    ∀ j t p, l[j]? = some (.mk t p) → W0.cell? ⟨b, o + j * 2, none⟩ = some (.string t) ∧ ∃ u, W0.cell? ⟨b, o + j * 2 + 1, none⟩ = some u ∧ OAt W0 p u := by
  obtain ⟨A, c, rfl, _, _, h2⟩ := h
  obtain ⟨b, o, rfl, h3⟩ := h2 (by omega)
  obtain ⟨t, p⟩ : EL := l[0]'(by omega)
  have h0 : l[0]? = some l[0] := List.getElem?_eq_getElem (by omega)
  refine ⟨b, o, c, rfl, ?_, fun j t p hj => ?_⟩
  · cases e : l[0]'(by omega) with
    | mk t p => rw [e] at h0; exact (h3.get 0 h0).1
  · exact ⟨(h3.get j hj).2.1, (h3.get j hj).2.2⟩
theorem sizeEs_length : ∀ l : List EL, l.length ≤ sizeEs l
  | [] => Nat.zero_le _
  | .mk t p :: r => by have := sizeEs_length r; rw [sizeEs, List.length_cons]; omega
theorem sizeEs_append : ∀ a b : List EL, sizeEs (a ++ b) = sizeEs a + sizeEs b
  | [], b => by rw [List.nil_append, sizeEs]; omega
  | .mk t p :: r, b => by rw [List.cons_append, sizeEs, sizeEs, sizeEs_append r b]; omega
theorem linesOf_append (c : UInt8) : ∀ a b : List EL, linesOf c (a ++ b) = linesOf c a ++ linesOf c b
  | [], b => by simp [linesOf]
  | .mk t none :: r, b => by rw [List.cons_append, linesOf, linesOf, linesOf_append c r b, List.append_assoc]
  | .mk t (some e) :: r, b => by rw [List.cons_append, linesOf, linesOf, linesOf_append c r b, List.cons_append]
theorem linesOf_length (c : UInt8) : ∀ l : List EL, (linesOf c l).length ≤ sizeEs l
  | [] => by simp [linesOf]
  | .mk t none :: r => by have := linesOf_length c r; have := size_data t; rw [linesOf, sizeEs, List.length_append]; omega
  | .mk t (some e) :: r => by have := linesOf_length c r; rw [linesOf, sizeEs, List.length_cons]; omega
theorem sizeEs_take (l : List EL) (i : Nat) : sizeEs (l.take i) ≤ sizeEs l := by
  have := sizeEs_append (l.take i) (l.drop i)
  rw [List.take_append_drop] at this
  omega
theorem IsBuilderF.later {n b : Nat} {bs : List Value} {w w' : World} (h : Lib.IsBuilderF 44 5 n b bs w) (hb : Below w.heap.size w w') : Lib.IsBuilderF 44 5 n b bs w' := by
  have go : ∀ {p : Value}, Lib.BuilderAtF 44 5 n b p bs w → Lib.BuilderAtF 44 5 n b p bs w' := by
    rintro p ⟨h1, v, h2, h3, h4⟩
    refine ⟨h1, v, (hb.block b (Array.getElem?_eq_some_iff.1 h2).1).trans h2, ?_, h4⟩
    obtain ⟨g1, g2⟩ := h3
    refine ⟨g1, ?_⟩
    rcases g2 with g2 | ⟨g, cap, cur, fz, e, hg, hh, r⟩
    · exact .inl g2
    · exact .inr ⟨g, cap, cur, fz, e, hg, (hb.block g (Array.getElem?_eq_some_iff.1 hh).1).trans hh, r⟩
  rcases h with h | h
  · exact .inl (go h)
  · exact .inr (go h)
theorem TabU.below {W w : World} (h : TabU W) (hb : Below W.heap.size W w) : TabU w := Go.Proofs.Utf8Tabs_below h hb
-- from Asg
def strSize : Value → Nat | .string b => b.size | _ => 0
theorem decodeL_pos (l : List UInt8) : 1 ≤ (Lib.decodeL l).2 := Lib.decodeL_width l
theorem ext_size (t : ByteArray) (n : Nat) (h : n ≤ t.size) : (t.extract 0 n).size = n ∧ (t.extract n t.size).size = t.size - n := by
  constructor
  · simp; omega
  · simp
theorem runeIn_any (s : ByteArray) (w : World) (hT : TabU w) (hs : 0 < s.size) : Calls Tryd.prog 33 #[.string s] w fun e w' => e = .returned (.tuple #[.int .i32 (Lib.decodeL s.data.toList).1, .int .i64 (Lib.decodeL s.data.toList).2]) ∧ Below w.heap.size w w' := by
  have h := Tryd.utf8_DecodeRuneInString s w hT
  have e : Lib.decodeGo s = Lib.decodeL s.data.toList := by
    unfold Lib.decodeGo Lib.decodeL
    rw [if_neg (by omega)]
  rw [e] at h
  exact h
theorem infoStr : (Tryd.prog.info? 9).map (fun i => (i.zero, i.size, i.bytes)) = some (some (.string ⟨#[]⟩), 1, 16) := by kernel_rfl
/-- A text's signs, one by one; none: it isn't made of signs alone. -/
def sigs : Nat → List UInt8 → Option (List (List UInt8))
  | 0, _ => some []
  | f + 1, l => if l = [] then some [] else if (Lib.decodeL l).1 = 65533 ∧ (Lib.decodeL l).2 ≤ 1 then none else (sigs f (l.drop (Lib.decodeL l).2)).map (l.take (Lib.decodeL l).2 :: ·)
def strV (l : List UInt8) : Value := .string ⟨l.toArray⟩
def sigAll (l : List UInt8) : Option (List (List UInt8)) := sigs l.length l
def SignsEnd (l : List UInt8) (B : Nat) (w' : World) (e : Ending) : Prop :=
  (sigAll l = none ∧ e = .returned (.tuple #[.slice none 0 0, .bool false])) ∨ ∃ xs v, sigAll l = some xs ∧ xs.length ≤ l.length ∧ e = .returned (.tuple #[v, .bool true]) ∧ w'.ownsRowF B 9 1 v xs.length (xs.map strV)
theorem sigs_step (f : Nat) (l : List UInt8) (hne : l ≠ []) : sigs (f + 1) l = if (Lib.decodeL l).1 = 65533 ∧ (Lib.decodeL l).2 ≤ 1 then none else (sigs f (l.drop (Lib.decodeL l).2)).map (l.take (Lib.decodeL l).2 :: ·) := by
  rw [sigs, if_neg hne]
theorem sigs_nil (f : Nat) : sigs f [] = some [] := by cases f <;> rfl
theorem strV_extract (t : ByteArray) (n : Nat) : strV (t.data.toList.take n) = .string (t.extract 0 n) := by
  unfold strV
  congr 1
  apply bytes_eq
  rw [extract_take]
theorem ownsRowF_below {w w1 : World} {base : Nat} {e : TypeId} {size : Nat} {v : Value} {n : Nat} {xs : List Value} (h : w.ownsRowF base e size v n xs) (hb : Below w.heap.size w w1) : w1.ownsRowF base e size v n xs := by
  refine ⟨h.1, ?_⟩
  rcases h.2 with hn | ⟨g, cap, cur, fz, hv, hbg, hg, rest⟩
  · exact Or.inl hn
  · exact Or.inr ⟨g, cap, cur, fz, hv, hbg, (hb.block g (Array.getElem?_eq_some_iff.1 hg).1).trans hg, rest⟩
theorem owns_empty (w : World) (e : TypeId) : (w.alloc (.cells #[] e)).ownsRowF w.heap.size e 1 (.slice (some ⟨w.heap.size, 0, none⟩) 0 0) 0 [] := by
  refine ⟨rfl, Or.inr ⟨w.heap.size, 0, #[], (0, 0), rfl, Nat.le_refl _, heap_alloc_new w _, Nat.le_refl _, Nat.le_refl _, by decide, rfl, ?_⟩⟩
  simp
set_option maxHeartbeats 4000000 in
set_option maxRecDepth 1000000 in
theorem signs_any (s : ByteArray) (w : World) (hT : TabU w) (hs : s.size ≤ 4000000) :
    Calls Tryd.prog 25 #[.string s] w fun e w' => SignsEnd s.data.toList w.heap.size w' e ∧ Below w.heap.size w w' := by
  obtain ⟨i0, hi, hz0, hz1, hz2⟩ := info_parts infoStr
  have hTw := Lib.hid hT
  clear hT
  go_enter Tryd.func25, Tryd.ntmps25
  go_wp2
  go_loopw [0, 4] (fun st ot wr => ∃ (t : ByteArray) (done : List (List UInt8)) (f : Nat), st = .string t ∧ Hid (wr.ownsRowF w.heap.size 9 1 ot done.length (done.map strV)) ∧ Hid ((sigs f t.data.toList).map (done ++ ·) = sigAll s.data.toList) ∧ Hid (t.size ≤ f) ∧ Hid (done.length + t.size ≤ s.size) ∧ Below w.heap.size w wr) (fun st _ _ => strSize st)
  case atStart =>
    refine ⟨s, [], s.size, rfl, ?_, ?_, by show s.size ≤ s.size; omega, by show 0 + s.size ≤ s.size; omega, (Below.refl _ w).alloc (Nat.le_refl _) _⟩
    · exact owns_empty w 9
    · show _ = _
      unfold sigAll
      rw [size_data]
      cases sigs s.size s.data.toList <;> simp
  case round =>
    obtain ⟨t, done, f, rfl, Hown, Hsig, Hf, Hlen, hbw⟩ := hrel
    by_cases h0 : 0 < t.size
    · have hne : t.data.toList ≠ [] := by
        intro e
        have h1 := size_data t
        rw [e, List.length_nil] at h1
        omega
      obtain ⟨f, rfl⟩ : ∃ f', f = f' + 1 := ⟨f - 1, by have := Hf.out; omega⟩
      have hsg := Hsig.out
      rw [sigs_step f _ hne] at hsg
      have hw1 := decodeL_pos t.data.toList
      have hw2 := Lib.decodeL_le t.data.toList hne
      have hcall' := runeIn_any t wr (hTw.out.below hbw) h0
      have hsv := strV_extract t (Lib.decodeL t.data.toList).2
      have hed := extract_drop t (Lib.decodeL t.data.toList).2
      rw [size_data] at hw2
      generalize Lib.decodeL t.data.toList = rn at *
      obtain ⟨r, n⟩ := rn
      dsimp only at *
      have Hsv := Lib.hid hsv
      have Hed := Lib.hid hed
      have Hsg := Lib.hid hsg
      have hflen := Hlen.out
      clear hsv hed hsg hne Hsig
      have hn1 : (1 : Int) ≤ n := by omega
      have hn2 : (n : Int) ≤ t.size := by omega
      by_cases hbad : r = 65533 ∧ n ≤ 1
      · obtain ⟨hr, hn⟩ := hbad
        obtain rfl : n = 1 := by omega
        subst hr
        have hfin := Hsg.out
        rw [if_pos ⟨rfl, Nat.le_refl _⟩] at hfin
        have Hfin := Lib.hid hfin
        clear hfin Hsg
        go_wp2_with fail
        go_at_call 33
        refine hcall'.mono ?_
        rintro e W1 ⟨rfl, b1⟩
        go_wp2
        go_ret2
        exact ⟨Or.inl ⟨Hfin.out.symm, rfl⟩, hbw.trans (b1.mono hbw.size)⟩
      · have hpart : (((r : Int) == 65533) = true ∧ ¬ ((n : Int) ≤ 1)) ∨ ((r : Int) == 65533) = false := by
          by_cases h : r = 65533
          · left; exact ⟨by rw [h]; rfl, by intro e; exact hbad ⟨h, by omega⟩⟩
          · right; rw [beq_eq_false_iff_ne]; omega
        have hfin := Hsg.out
        rw [if_neg hbad] at hfin
        have Hfin := Lib.hid hfin
        clear hfin Hsg hbad
        rcases hpart with ⟨hq1, hq2⟩ | hq1
        all_goals
          go_wp2_with fail
          go_at_call 33
          refine hcall'.mono ?_
          rintro e W1 ⟨rfl, b1⟩
          have hown1 := ownsRowF_below Hown.out b1
          go_wp2_with (at_builtin; refine wpList_append_ownF _ rfl _ _ 49 rfl w.heap.size 9 i0 (.string ⟨#[]⟩) 1 16 Tryd.underlying49 hi hz0 hz1 hz2 rfl (by decide) _ _ _ rfl (hown1.alloc _) ⟨W1.heap.size, 0, none⟩ 1 1 [.string (t.extract 0 n)] rfl rfl ?c1 ?c2 ?c3 ?c4 ?c5 ?_)
          case c1 =>
            intro j u hj
            match j, hj with
            | 0, hj => simp at hj; subst hj; simp [Addr.add]
          case c2 => intro u hu; simp at hu; subst hu; rfl
          case c3 => unfold maxLen; omega
          case c4 => omega
          case c5 => have := hbw.size; have := b1.size; simp; omega
          intro v' w2 hown' hgrow _
          have hbw2 : Below w.heap.size w w2 := ((hbw.trans (b1.mono hbw.size)).alloc (by have := hbw.size; have := b1.size; omega) _).grown hgrow (by have := hbw.size; have := b1.size; simp; omega) (fun k hk => ((hown1.alloc (.cells #[.string (t.extract 0 n)] 9)).lt k hk).1)
          have Hown' := Lib.hid hown'
          clear hown' hgrow hown1
          go_wp2
          go_roundw
          case rel =>
            refine ⟨_, done ++ [t.data.toList.take n], f, rfl, ?_, ?_, ?_, ?_, hbw2⟩
            · show World.ownsRowF _ _ _ _ _ _ _
              have := Hown'.out
              rw [← Hsv.out] at this
              simpa using this
            · show _ = _
              rw [Hed.out, ← Hfin.out, Option.map_map]
              congr 1
              funext x
              simp
            · show _ ≤ _
              rw [(ext_size t n hw2).2]; have := Hf.out; omega
            · show _ ≤ _
              rw [(ext_size t n hw2).2, List.length_append, List.length_singleton]; omega
          case measure =>
            show (t.extract n t.size).size < t.size
            rw [(ext_size t n hw2).2]; omega
    · have ht0 : t.data.toList = [] := List.eq_nil_of_length_eq_zero (by rw [size_data]; omega)
      have hsg := Hsig.out
      rw [ht0, sigs_nil] at hsg
      have Hsg := Lib.hid hsg
      clear hsg ht0 Hsig
      go_wp2
      go_ret2
      exact ⟨Or.inr ⟨done, _, by rw [← Hsg.out]; simp, by rw [size_data]; have := Hlen.out; omega, rfl, Hown.out⟩, hbw⟩
-- from Alnm
theorem ldigit_any (c : UInt8) (w : World) : Calls Tryd.prog 27 #[.int .u8 (c.toNat : Int)] w fun e w' => e = .returned (.bool (dgB c)) ∧ w = w' := by
  by_cases h : (48 : Int) ≤ (c.toNat : Int)
  all_goals
    go_enter Tryd.func27, Tryd.ntmps27
    go_wp2
    go_ret
    refine ⟨ret_bool ?_, rfl⟩
    rw [Bool.eq_iff_iff]
    simp [dgB]
    omega
theorem lletter_any (c : UInt8) (w : World) : Calls Tryd.prog 26 #[.int .u8 (c.toNat : Int)] w fun e w' => e = .returned (.bool (leB c)) ∧ w = w' := by
  by_cases h1 : (97 : Int) ≤ (c.toNat : Int)
  · by_cases h2 : (c.toNat : Int) ≤ 122
    · go_enter Tryd.func26, Tryd.ntmps26
      go_wp2
      go_ret
      refine ⟨ret_bool ?_, rfl⟩
      simp [leB, h1, h2]
    · have hb : decide ((c.toNat : Int) ≤ 122) = false := by simp; omega
      by_cases h3 : (65 : Int) ≤ (c.toNat : Int)
      all_goals
        go_enter Tryd.func26, Tryd.ntmps26
        go_wp2
        go_ret
        refine ⟨ret_bool ?_, rfl⟩
        rw [Bool.eq_iff_iff]
        simp [leB]
        omega
  · by_cases h3 : (65 : Int) ≤ (c.toNat : Int)
    all_goals
      go_enter Tryd.func26, Tryd.ntmps26
      go_wp2
      go_ret
      refine ⟨ret_bool ?_, rfl⟩
      rw [Bool.eq_iff_iff]
      simp [leB]
      omega
theorem jo_or (c : UInt8) : joB c = true ↔ ((c.toNat : Int) = 95 ∨ (c.toNat : Int) = 45) := by simp [joB]
set_option maxHeartbeats 2000000 in
theorem lname_any (s : ByteArray) (w : World) (hs : s.size ≤ 4000000) :
    Calls Tryd.prog 17 #[.string s] w fun e w' => e = .returned (.bool (lnameB s.data.toList)) ∧ w = w' := by
  obtain ⟨R, hR⟩ : ∃ R, lnameB s.data.toList = R := ⟨_, rfl⟩
  rw [hR]
  have HR := Lib.hid hR
  clear hR
  have hbad : ∀ j, j < s.size → goodAt s.data.toList j = false → R = false := by
    intro j hj hg
    rw [← HR.out]
    apply Bool.eq_false_iff.2
    intro h
    have := (of_decide_eq_true h).2 j (by rw [size_data]; exact hj)
    rw [hg] at this
    cases this
  have HBad := Lib.hid hbad
  clear hbad
  go_enter Tryd.func17, Tryd.ntmps17
  go_wp2_with fail
  go_loop [3, 4] (fun t _ => ∃ j : Nat, t = .int .i64 j ∧ j ≤ s.size ∧ Hid (∀ m, m < j → goodAt s.data.toList m = true)) (fun t _ => s.size - (intOf t).toNat)
  case atStart => exact ⟨0, rfl, Nat.zero_le _, Lib.hid fun m h => by omega⟩
  case round =>
    obtain ⟨j, rfl, hjs, hg⟩ := hrel
    by_cases hlt : j < s.size
    · have hlt' : j < s.data.toList.length := by rw [size_data]; exact hlt
      have hat : at0 s.data.toList j = s[j] := at0_get _ j hlt'
      have hnext : goodAt s.data.toList j = true → Hid (∀ m, m < j + 1 → goodAt s.data.toList m = true) := fun h => Lib.hid fun m hm => by
        by_cases e : m = j
        · subst e; exact h
        · exact hg.out m (by omega)
      have Hnext := Lib.hid hnext
      have Hat := Lib.hid hat
      clear hnext hat
      cases hl : leB s[j]
      · cases hd : dgB s[j]
        · cases hj : joB s[j]
          · obtain rfl : R = false := HBad.out j hlt (by unfold goodAt; rw [Hat.out, hl, hd, hj]; simp)
            have h1 : ((s[j].toNat : Int) != 95) = true := by
              apply bne_iff_ne.2; intro h; rw [(jo_or _).2 (.inl h)] at hj; cases hj
            have h2 : ((s[j].toNat : Int) != 45) = true := by
              apply bne_iff_ne.2; intro h; rw [(jo_or _).2 (.inr h)] at hj; cases hj
            clear hj
            by_cases hz : j = 0
            · subst hz
              go_wp2_with (first | (go_at_call 26; refine (lletter_any _ _).mono ?_; rw [hl]; rintro e w' ⟨rfl, rfl⟩) | (go_at_call 27; refine (ldigit_any _ _).mono ?_; rw [hd]; rintro e w' ⟨rfl, rfl⟩))
              go_ret
              exact ⟨rfl, rfl⟩
            · have hz' : ((j : Int) == 0) = false := by simp; omega
              go_wp2_with (first | (go_at_call 26; refine (lletter_any _ _).mono ?_; rw [hl]; rintro e w' ⟨rfl, rfl⟩) | (go_at_call 27; refine (ldigit_any _ _).mono ?_; rw [hd]; rintro e w' ⟨rfl, rfl⟩))
              go_ret
              exact ⟨rfl, rfl⟩
          · by_cases hz : j = 0
            · subst hz
              obtain rfl : R = false := HBad.out 0 hlt (by unfold goodAt; rw [Hat.out, hl]; simp)
              clear hj
              go_wp2_with (first | (go_at_call 26; refine (lletter_any _ _).mono ?_; rw [hl]; rintro e w' ⟨rfl, rfl⟩) | (go_at_call 27; refine (ldigit_any _ _).mono ?_; rw [hd]; rintro e w' ⟨rfl, rfl⟩))
              go_ret
              exact ⟨rfl, rfl⟩
            · have hz' : ((j : Int) == 0) = false := by simp; omega
              have hgd := Hnext.out (by unfold goodAt; rw [Hat.out, hl, hj]; simp; omega)
              rcases (jo_or _).1 hj with h | h
              · have h1 : ((s[j].toNat : Int) != 95) = false := by rw [h]; rfl
                clear hj h
                go_wp2_with (first | (go_at_call 26; refine (lletter_any _ _).mono ?_; rw [hl]; rintro e w' ⟨rfl, rfl⟩) | (go_at_call 27; refine (ldigit_any _ _).mono ?_; rw [hd]; rintro e w' ⟨rfl, rfl⟩))
                go_round
                case rel => exact ⟨j + 1, by go_num, by omega, hgd⟩
                case measure => simp [intOf]; omega
              · have h1 : ((s[j].toNat : Int) != 95) = true := by rw [h]; rfl
                have h2 : ((s[j].toNat : Int) != 45) = false := by rw [h]; rfl
                clear hj h
                go_wp2_with (first | (go_at_call 26; refine (lletter_any _ _).mono ?_; rw [hl]; rintro e w' ⟨rfl, rfl⟩) | (go_at_call 27; refine (ldigit_any _ _).mono ?_; rw [hd]; rintro e w' ⟨rfl, rfl⟩))
                go_round
                case rel => exact ⟨j + 1, by go_num, by omega, hgd⟩
                case measure => simp [intOf]; omega
        · by_cases hz : j = 0
          · subst hz
            obtain rfl : R = false := HBad.out 0 hlt (by unfold goodAt; rw [Hat.out, hl]; simp)
            go_wp2_with (first | (go_at_call 26; refine (lletter_any _ _).mono ?_; rw [hl]; rintro e w' ⟨rfl, rfl⟩) | (go_at_call 27; refine (ldigit_any _ _).mono ?_; rw [hd]; rintro e w' ⟨rfl, rfl⟩))
            go_ret
            exact ⟨rfl, rfl⟩
          · have hz' : ((j : Int) == 0) = false := by simp; omega
            have hgd := Hnext.out (by unfold goodAt; rw [Hat.out, hl, hd]; simp; omega)
            go_wp2_with (first | (go_at_call 26; refine (lletter_any _ _).mono ?_; rw [hl]; rintro e w' ⟨rfl, rfl⟩) | (go_at_call 27; refine (ldigit_any _ _).mono ?_; rw [hd]; rintro e w' ⟨rfl, rfl⟩))
            go_round
            case rel => exact ⟨j + 1, by go_num, by omega, hgd⟩
            case measure => simp [intOf]; omega
      · have hgd := Hnext.out (by unfold goodAt; rw [Hat.out, hl]; rfl)
        go_wp2_with (first | (go_at_call 26; refine (lletter_any _ _).mono ?_; rw [hl]; rintro e w' ⟨rfl, rfl⟩) | (go_at_call 27; refine (ldigit_any _ _).mono ?_; rintro e w' ⟨rfl, rfl⟩))
        go_round
        case rel => exact ⟨j + 1, by go_num, by omega, hgd⟩
        case measure => simp [intOf]; omega
    · obtain rfl : j = s.size := by omega
      have hfin := Lib.hid (show R = decide (0 < s.size) by
        rw [← HR.out]
        unfold lnameB
        rw [Bool.eq_iff_iff, decide_eq_true_iff, decide_eq_true_iff, size_data]
        exact ⟨fun h => by omega, fun h => ⟨by omega, hg.out⟩⟩)
      go_wp2
      go_ret
      exact ⟨ret_bool hfin.out.symm, rfl⟩
def bigTo (s : ByteArray) (j : Nat) : Bool := decide (0 < s.size) && (s.data.toList.take j).all biB
theorem behN_all (p : UInt8 → Bool) (l : List UInt8) : (behN p l 0 = l.length) ↔ l.all p = true := by
  rw [all_at]
  constructor
  · intro h m hm
    exact behN_so p l 0 m (Nat.zero_le _) (by omega)
  · intro h
    have h1 := behN_le p l 0 (Nat.zero_le _)
    by_cases e : behN p l 0 < l.length
    · have := behN_stop p l 0 e
      rw [h _ e] at this
      cases this
    · omega
theorem empty_size (s : ByteArray) : s.data.toList.isEmpty = !decide (0 < s.size) := by
  rw [Bool.eq_iff_iff, List.isEmpty_iff, ← List.length_eq_zero_iff, size_data]
  simp
theorem bigV_to (s : ByteArray) : bigV s = bigTo s s.size := by
  unfold bigV bigTo behI
  have h := behN_all biB s.data.toList
  rw [if_neg (by omega), empty_size, Bool.not_not, ← size_data, List.take_length]
  congr 1
  rw [Bool.eq_iff_iff, beq_iff_eq, ← h]
  simp only [Int.toNat_zero]
  omega
theorem nameV_l (s : ByteArray) : isNameV s = lnameB s.data.toList := by
  unfold isNameV lnameB
  rw [empty_size, Bool.not_not, Bool.eq_iff_iff, Bool.and_eq_true, decide_eq_true_iff, decide_eq_true_iff, beq_iff_eq, size_data]
  have hl := lname_iff s.data.toList 0 s.size (by rw [size_data]; exact Nat.le_refl _)
  unfold lnameB at hl
  have hpc : pc s.data.toList 0 s.size = s.data.toList := by
    unfold pc
    rw [List.drop_zero, ← size_data, List.take_length]
  rw [hpc, decide_eq_true_iff, size_data] at hl
  rw [hl]
  unfold nameI
  rw [size_data]
  constructor
  · rintro ⟨h0, h1⟩
    by_cases hc : (0 : Int) ≤ 0 ∧ (0 : Int) < s.size ∧ leB (s.data.toList.getD (0 : Int).toNat 0) = true
    · rw [if_pos hc] at h1
      refine ⟨h0, hc.2.2, fun m _ hm => ?_⟩
      unfold behI at h1
      rw [if_neg (by omega)] at h1
      exact behN_so naB _ 0 m (Nat.zero_le _) (by rw [show (0 : Int).toNat = 0 from rfl] at h1; omega)
    · rw [if_neg hc] at h1; omega
  · rintro ⟨h0, h1, h2⟩
    refine ⟨h0, ?_⟩
    rw [if_pos ⟨by omega, by omega, h1⟩]
    unfold behI
    rw [if_neg (by omega), show (0 : Int).toNat = 0 from rfl]
    have h := (behN_all naB s.data.toList).2 ((all_at _ _).2 fun m hm => h2 m (Nat.zero_le _) (by rw [size_data] at hm; exact hm))
    rw [h, size_data]
-- from ScMath3
def ptAt (t : List UInt8) (m : Nat) : Bool := decide (at0 t m = 46 ∧ 0 < m ∧ m + 1 < t.length)
def okAt (t : List UInt8) (m : Nat) : Bool := ptAt t m || dgB (at0 t m)
def cntP (t : List UInt8) : Nat → Nat
  | 0 => 0
  | m + 1 => cntP t m + if ptAt t m = true then 1 else 0
def numB (t : List UInt8) : Bool := decide (0 < t.length ∧ (∀ m, m < t.length → okAt t m = true) ∧ cntP t t.length ≤ 1)
def strip (x : List UInt8) : List UInt8 := if at0 x 0 = 45 then x.drop 1 else x
def lnumB (x : List UInt8) : Bool := numB (strip x)
theorem cnt_mono (t : List UInt8) : ∀ (n m : Nat), m ≤ n → cntP t m ≤ cntP t n
  | 0, m, h => by rw [show m = 0 by omega]; exact Nat.le_refl _
  | n + 1, m, h => by
    by_cases e : m = n + 1
    · rw [e]; exact Nat.le_refl _
    · have := cnt_mono t n m (by omega)
      rw [cntP]; omega
theorem cnt_two (t : List UInt8) (p q n : Nat) (hpq : p < q) (hq : q < n) (h1 : ptAt t p = true) (h2 : ptAt t q = true) : 2 ≤ cntP t n := by
  have a := cnt_mono t n (q + 1) (by omega)
  have b := cnt_mono t q (p + 1) (by omega)
  rw [cntP, if_pos h2] at a
  rw [cntP, if_pos h1] at b
  omega
theorem cnt_none (t : List UInt8) : ∀ n, (∀ m, m < n → ptAt t m = false) → cntP t n = 0
  | 0, _ => rfl
  | n + 1, h => by
    rw [cntP, cnt_none t n (fun m hm => h m (by omega)), if_neg (by rw [h n (by omega)]; decide)]
theorem cnt_one (t : List UInt8) (p : Nat) : ∀ n, (∀ m, m < n → m ≠ p → ptAt t m = false) → cntP t n ≤ 1
  | 0, _ => by rw [cntP]; omega
  | n + 1, h => by
    rw [cntP]
    by_cases e : n = p
    · subst e
      rw [cnt_none t n (fun m hm => h m (by omega) (by omega))]
      split <;> omega
    · have := cnt_one t p n (fun m hm => h m (by omega))
      rw [if_neg (by rw [h n (by omega) e]; decide)]
      omega
theorem dg_46 : dgB 46 = false := by decide
/-- A piece behind its sign: the piece from a on. -/
theorem strip_pc (l : List UInt8) (i k : Nat) (hik : i < k) (hk : k ≤ l.length) : strip (pc l i k) = pc l (if at0 l i = 45 then i + 1 else i) k := by
  unfold strip
  rw [pc_at l i k 0 (by omega), Nat.add_zero]
  split
  · unfold pc; rw [List.drop_drop]
  · rfl
section
variable (l : List UInt8) (a k : Nat) (hk : k ≤ l.length)
include hk
theorem pt_pc (m : Nat) (h : a + m < k) : ptAt (pc l a k) m = decide (at0 l (a + m) = 46 ∧ 0 < m ∧ a + m + 1 < k) := by
  unfold ptAt
  rw [pc_at l a k m h, pc_length l a k hk]
  congr 1
  apply propext
  constructor
  · rintro ⟨x, y, z⟩; exact ⟨x, y, by omega⟩
  · rintro ⟨x, y, z⟩; exact ⟨x, y, by omega⟩
theorem ok_pc (m : Nat) (h : a + m < k) : okAt (pc l a k) m = (decide (at0 l (a + m) = 46 ∧ 0 < m ∧ a + m + 1 < k) || dgB (at0 l (a + m))) := by
  unfold okAt
  rw [pt_pc l a k hk m h, pc_at l a k m h]
/-- Digits alone. -/
theorem num_digits (h : a < k) (hd : ∀ m, a ≤ m → m < k → dgB (at0 l m) = true) : numB (pc l a k) = true := by
  unfold numB
  rw [decide_eq_true_iff, pc_length l a k hk]
  refine ⟨by omega, fun m hm => ?_, ?_⟩
  · rw [ok_pc l a k hk m (by omega), hd _ (by omega) (by omega)]; simp
  · rw [cnt_none]
    · omega
    · intro m hm
      rw [pt_pc l a k hk m (by omega)]
      apply decide_eq_false
      rintro ⟨x, _, _⟩
      have := hd (a + m) (by omega) (by omega)
      rw [x, dg_46] at this
      cases this
/-- Digits, a point, digits. -/
theorem num_point (e : Nat) (hae : a < e) (hek : e + 1 < k) (hp : at0 l e = 46) (hd1 : ∀ m, a ≤ m → m < e → dgB (at0 l m) = true) (hd2 : ∀ m, e + 1 ≤ m → m < k → dgB (at0 l m) = true) : numB (pc l a k) = true := by
  unfold numB
  rw [decide_eq_true_iff, pc_length l a k hk]
  have hdg : ∀ m, a ≤ m → m < k → m ≠ e → dgB (at0 l m) = true := fun m h1 h2 h3 => by
    by_cases h : m < e
    · exact hd1 m h1 h
    · exact hd2 m (by omega) h2
  refine ⟨by omega, fun m hm => ?_, ?_⟩
  · rw [ok_pc l a k hk m (by omega)]
    by_cases h : a + m = e
    · rw [decide_eq_true ⟨by rw [h]; exact hp, by omega, by omega⟩]; rfl
    · rw [hdg _ (by omega) (by omega) h]; simp
  · apply cnt_one _ (e - a)
    intro m hm hne
    rw [pt_pc l a k hk m (by omega)]
    apply decide_eq_false
    rintro ⟨x, _, _⟩
    have := hdg (a + m) (by omega) (by omega) (by omega)
    rw [x, dg_46] at this
    cases this
/-- What is none: a sign that is neither a digit nor a point where one may be. -/
theorem num_bad (p : Nat) (h1 : a ≤ p) (h2 : p < k) (hd : dgB (at0 l p) = false) (hn : ¬ (at0 l p = 46 ∧ a < p ∧ p + 1 < k)) : numB (pc l a k) = false := by
  unfold numB
  apply decide_eq_false
  rintro ⟨_, h, _⟩
  rw [pc_length l a k hk] at h
  have := h (p - a) (by omega)
  rw [ok_pc l a k hk _ (by omega), show a + (p - a) = p by omega, hd, Bool.or_false, decide_eq_true_iff] at this
  exact hn ⟨this.1, by omega, this.2.2⟩
/-- .. or two points. -/
theorem num_two (p q : Nat) (h1 : a < p) (hpq : p < q) (h2 : q < k) (hp : at0 l p = 46) (hd : dgB (at0 l q) = false) : numB (pc l a k) = false := by
  by_cases hq : at0 l q = 46 ∧ a < q ∧ q + 1 < k
  · unfold numB
    apply decide_eq_false
    rintro ⟨_, _, h⟩
    rw [pc_length l a k hk] at h
    have := cnt_two (pc l a k) (p - a) (q - a) (k - a) (by omega) (by omega) (by
      rw [pt_pc l a k hk _ (by omega), show a + (p - a) = p by omega]
      exact decide_eq_true ⟨hp, by omega, by omega⟩) (by
      rw [pt_pc l a k hk _ (by omega), show a + (q - a) = q by omega]
      exact decide_eq_true ⟨hq.1, by omega, by omega⟩)
    omega
  · exact num_bad l a k hk q (by omega) h2 hd hq
omit hk in
theorem num_empty (h : k ≤ a) : numB (pc l a k) = false := by
  unfold numB
  apply decide_eq_false
  rintro ⟨h0, _⟩
  have : (pc l a k).length = 0 := by unfold pc; rw [List.length_drop, List.length_take]; omega
  omega
end
/-- The place behind the longest number: as the program tells it, over places from 0 on. -/
def numN (l : List UInt8) (i : Nat) : Nat :=
  let a := if i < l.length ∧ at0 l i = 45 then i + 1 else i
  let e := behN dgB l a
  let b := if e < l.length ∧ at0 l e = 46 then e + 1 else e
  let e2 := behN dgB l b
  if a < e then (if b < e2 then e2 else e) else i
theorem long_num (l : List UInt8) (i : Nat) (hi : i ≤ l.length) : longN lnumB l i l.length = numN l i := by
  have hstrip : ∀ k, i < k → k ≤ l.length → lnumB (pc l i k) = numB (pc l (if i < l.length ∧ at0 l i = 45 then i + 1 else i) k) := by
    intro k h1 h2
    unfold lnumB
    rw [strip_pc l i k h1 h2]
    by_cases h : at0 l i = 45
    · rw [if_pos h, if_pos ⟨by omega, h⟩]
    · rw [if_neg h, if_neg (fun x => h x.2)]
  unfold numN
  dsimp only
  have hia : i ≤ (if i < l.length ∧ at0 l i = 45 then i + 1 else i) ∧ (if i < l.length ∧ at0 l i = 45 then i + 1 else i) ≤ l.length := by split <;> omega
  generalize (if i < l.length ∧ at0 l i = 45 then i + 1 else i) = a at *
  have he1 := behN_ge dgB l a
  have he2 := behN_le dgB l a hia.2
  have hso := behN_so dgB l a
  have hst := behN_stop dgB l a
  generalize behN dgB l a = e at *
  by_cases hae : a < e
  · rw [if_pos hae]
    by_cases hpt : e < l.length ∧ at0 l e = 46
    · rw [if_pos hpt]
      have hf1 := behN_ge dgB l (e + 1)
      have hf2 := behN_le dgB l (e + 1) (by omega)
      have hso2 := behN_so dgB l (e + 1)
      have hst2 := behN_stop dgB l (e + 1)
      generalize behN dgB l (e + 1) = e2 at *
      by_cases hb : e + 1 < e2
      · rw [if_pos hb]
        apply longN_eq
        · exact .inr ⟨by omega, by rw [hstrip _ (by omega) hf2]; exact num_point l a e2 hf2 e hae hb hpt.2 hso (fun m x y => hso2 m x y)⟩
        · exact .inl hf2
        · intro k h1 h2
          rw [hstrip k (by omega) h2]
          exact num_two l a k h2 e e2 hae (by omega) h1 hpt.2 (hst2 (by omega))
      · rw [if_neg hb]
        have e2e : e2 = e + 1 := by omega
        subst e2e
        apply longN_eq
        · exact .inr ⟨by omega, by rw [hstrip _ (by omega) he2]; exact num_digits l a e he2 hae hso⟩
        · exact .inl he2
        · intro k h1 h2
          rw [hstrip k (by omega) h2]
          by_cases hk1 : k = e + 1
          · exact num_bad l a k h2 e (by omega) h1 (hst (by omega)) (by omega)
          · exact num_two l a k h2 e (e + 1) hae (by omega) (by omega) hpt.2 (hst2 (by omega))
    · rw [if_neg hpt]
      have hb : behN dgB l e = e := by
        by_cases h : e < l.length
        · exact behN_no dgB l e h (by rw [← at0_get l e h]; exact hst h)
        · exact behN_end dgB l e (by omega)
      rw [hb, if_neg (by omega)]
      apply longN_eq
      · exact .inr ⟨by omega, by rw [hstrip _ (by omega) he2]; exact num_digits l a e he2 hae hso⟩
      · exact .inl he2
      · intro k h1 h2
        rw [hstrip k (by omega) h2]
        exact num_bad l a k h2 e (by omega) h1 (hst (by omega)) (fun h => hpt ⟨by omega, h.1⟩)
  · rw [if_neg hae]
    apply longN_eq
    · exact .inl rfl
    · exact .inr rfl
    · intro k h1 h2
      rw [hstrip k h1 h2]
      have : e = a := by omega
      subst this
      by_cases hka : k ≤ e
      · exact num_empty l e k hka
      · exact num_bad l e k h2 e (Nat.le_refl _) (by omega) (hst (by omega)) (by omega)
theorem sgn_nat (l : List UInt8) (c : UInt8) (k : Nat) : sgnI l c (k : Int) = ((if k < l.length ∧ at0 l k = c then k + 1 else k : Nat) : Int) := by
  unfold sgnI at0
  rw [Int.toNat_natCast]
  by_cases h : k < l.length ∧ l.getD k 0 = c
  · rw [if_pos h, if_pos ⟨by omega, by omega, h.2⟩]; rfl
  · rw [if_neg h, if_neg (fun x => h ⟨by omega, x.2.2⟩)]
theorem behI_nat (p : UInt8 → Bool) (l : List UInt8) (k : Nat) : behI p l (k : Int) = (behN p l k : Int) := by
  unfold behI
  rw [if_neg (by omega), Int.toNat_natCast]
theorem numI_nat (l : List UInt8) (k : Nat) : numI l (k : Int) = (numN l k : Int) := by
  unfold numI numN
  dsimp only
  rw [sgn_nat, behI_nat, sgn_nat, behI_nat]
  generalize (if k < l.length ∧ at0 l k = 45 then k + 1 else k) = a
  generalize behN dgB l a = e
  generalize (if e < l.length ∧ at0 l e = 46 then e + 1 else e) = b
  generalize behN dgB l b = e2
  by_cases h1 : a < e
  · by_cases h2 : b < e2
    · rw [if_pos (by omega), if_pos (by omega), if_pos h1, if_pos h2]
    · rw [if_pos (by omega), if_neg (by omega), if_pos h1, if_neg h2]
  · rw [if_neg (by omega), if_neg h1]
-- from Alnu
theorem bad_num (T : ByteArray) (j : Nat) (h : j < T.size) (hb : okAt T.data.toList j = false) : numB T.data.toList = false := by
  apply Bool.eq_false_iff.2
  intro hq
  have := (of_decide_eq_true hq).2.1 j (by rw [size_data]; exact h)
  rw [hb] at this
  cases this
set_option maxHeartbeats 8000000 in
theorem lnumber_any (s : ByteArray) (w : World) (hs : s.size ≤ 4000000) :
    Calls Tryd.prog 36 #[.string s] w fun e w' => e = .returned (.bool (lnumB s.data.toList)) ∧ w = w' := by
  obtain ⟨R, hR⟩ : ∃ R, lnumB s.data.toList = R := ⟨_, rfl⟩
  rw [hR]
  by_cases hpos : 0 < s.size
  · have hp1 : decide ((0 : Int) < (s.size : Int)) = true := by simp; omega
    have hat : at0 s.data.toList 0 = s[0] := at0_get _ 0 (by rw [size_data]; exact hpos)
    by_cases h45 : s[0] = 45
    · have h1 : ((s[0].toNat : Int) == 45) = true := by rw [h45]; rfl
      obtain ⟨T, hT⟩ : ∃ T : ByteArray, s.extract 1 s.size = T := ⟨_, rfl⟩
      have hTs : T.size ≤ 4000000 := by rw [← hT, ByteArray.size_extract]; omega
      have HR : Hid (numB T.data.toList = R) := Lib.hid (by
        rw [← hR, ← hT, extract_drop]
        unfold lnumB strip
        rw [hat, if_pos h45])
      clear hR hat h45
      go_enter Tryd.func36, Tryd.ntmps36
      go_wp2_with fail
      go_loop [3, 4] (fun c t => ∃ (j n : Nat), t = .int .i64 j ∧ c = .int .i64 n ∧ j ≤ T.size ∧ n ≤ j ∧ Hid (n = cntP T.data.toList j) ∧ Hid (∀ m, m < j → okAt T.data.toList m = true)) (fun _ t => T.size - (intOf t).toNat)
      case atStart => exact ⟨0, 0, rfl, rfl, Nat.zero_le _, Nat.le_refl _, Lib.hid rfl, Lib.hid fun m h => by omega⟩
      case round =>
        obtain ⟨j, n, rfl, rfl, hjs, hnj, hn, hok⟩ := hrel
        by_cases hlt : j < T.size
        · have hlt' : j < T.data.toList.length := by rw [size_data]; exact hlt
          have Hat := Lib.hid (at0_get T.data.toList j hlt')
          have Hnext := Lib.hid (fun (h : okAt T.data.toList j = true) => Lib.hid (show ∀ m, m < j + 1 → okAt T.data.toList m = true from fun m hm => by
            by_cases e : m = j
            · subst e; exact h
            · exact hok.out m (by omega)))
          have Hcnt : Hid (cntP T.data.toList (j + 1) = cntP T.data.toList j + if ptAt T.data.toList j = true then 1 else 0) := Lib.hid rfl
          have Hbad := Lib.hid (bad_num T j hlt)
          rw [HR.out] at Hbad
          have hq : ((T[j].toNat : Int) == 46) = decide (T[j] = 46) := by
            rw [Bool.eq_iff_iff, beq_iff_eq, decide_eq_true_iff]
            constructor
            · intro h; exact UInt8.toNat_inj.1 (by have : (46 : UInt8).toNat = 46 := rfl; omega)
            · intro h; rw [h]; rfl
          by_cases h46 : T[j] = 46
          · have h1 : ((T[j].toNat : Int) == 46) = true := by rw [hq]; simpa using h46
            have hd0 : dgB T[j] = false := by rw [h46]; decide
            have Hd0 := Lib.hid hd0
            have H46 := Lib.hid h46
            clear hq hd0 h46
            by_cases hj0 : j = 0
            · subst hj0
              obtain rfl : R = false := Hbad.out (by unfold okAt ptAt; rw [Hat.out]; rw [show dgB T.data.toList[0] = false from Hd0.out]; simp)
              go_wp2_with (go_at_call 27; refine (ldigit_any T[0] _).mono ?_; rw [Hd0.out]; rintro e w' ⟨rfl, rfl⟩)
              go_ret
              exact ⟨rfl, rfl⟩
            · have h2 : decide ((0 : Int) < (j : Int)) = true := by simp; omega
              have h2n : decide (0 < j) = true := by simp; omega
              by_cases hje : j + 1 < T.size
              · have h3 : decide ((j : Int) < (T.size : Int) - 1) = true := by simp; omega
                have Hp := Lib.hid (show ptAt T.data.toList j = true by unfold ptAt; rw [Hat.out, size_data]; exact decide_eq_true ⟨H46.out, by omega, hje⟩)
                have Ho := Lib.hid (show okAt T.data.toList j = true by unfold okAt; rw [Hp.out]; rfl)
                go_wp2_with (go_at_call 27; refine (ldigit_any T[j] _).mono ?_; rw [Hd0.out]; rintro e w' ⟨rfl, rfl⟩)
                go_round
                case rel => exact ⟨j + 1, n + 1, by go_num, by go_num, by omega, by omega, Lib.hid (by rw [Hcnt.out, if_pos Hp.out, ← hn.out]), Hnext.out Ho.out⟩
                case measure => simp [intOf]; omega
              · have h3 : decide ((j : Int) < (T.size : Int) - 1) = false := by simp; omega
                obtain rfl : R = false := Hbad.out (by unfold okAt ptAt; rw [Hat.out, size_data]; rw [show dgB T.data.toList[j] = false from Hd0.out]; simp; omega)
                go_wp2_with (go_at_call 27; refine (ldigit_any T[j] _).mono ?_; rw [Hd0.out]; rintro e w' ⟨rfl, rfl⟩)
                go_ret
                exact ⟨rfl, rfl⟩
          · have h1 : ((T[j].toNat : Int) == 46) = false := by rw [hq]; simpa using h46
            have Hp := Lib.hid (show ptAt T.data.toList j = false by unfold ptAt; rw [Hat.out]; exact decide_eq_false fun x => h46 x.1)
            clear hq h46
            cases hd : dgB T[j]
            · obtain rfl : R = false := Hbad.out (by unfold okAt; rw [Hp.out, Hat.out]; exact hd)
              have Hd := Lib.hid hd
              clear hd
              go_wp2_with (go_at_call 27; refine (ldigit_any T[j] _).mono ?_; rw [Hd.out]; rintro e w' ⟨rfl, rfl⟩)
              go_ret
              exact ⟨rfl, rfl⟩
            · have Ho := Lib.hid (show okAt T.data.toList j = true by unfold okAt; rw [Hp.out, Hat.out]; exact hd)
              have Hd := Lib.hid hd
              clear hd
              go_wp2_with (go_at_call 27; refine (ldigit_any T[j] _).mono ?_; rw [Hd.out]; rintro e w' ⟨rfl, rfl⟩)
              go_round
              case rel => exact ⟨j + 1, n, by go_num, rfl, by omega, by omega, Lib.hid (by rw [Hcnt.out, if_neg (by rw [Hp.out]; decide), ← hn.out]; rfl), Hnext.out Ho.out⟩
              case measure => simp [intOf]; omega
        · obtain rfl : j = T.size := by omega
          have Hfin := Lib.hid (show R = (decide (0 < T.size) && decide (n ≤ 1)) by
            rw [← HR.out]
            unfold numB
            rw [Bool.eq_iff_iff, Bool.and_eq_true, decide_eq_true_iff, decide_eq_true_iff, decide_eq_true_iff, size_data, ← hn.out]
            exact ⟨fun h => ⟨h.1, h.2.2⟩, fun h => ⟨h.1, hok.out, h.2⟩⟩)
          by_cases hz : 0 < T.size
          · have hz1 : decide ((0 : Int) < (T.size : Int)) = true := decide_eq_true (by omega); have hz2 : decide (0 < T.size) = true := decide_eq_true hz
            go_wp2
            go_ret
            exact ⟨ret_bool (by rw [Hfin.out, hz2]; simp; omega), rfl⟩
          · have hz0 : T.size = 0 := by omega
            have Hf2 := Lib.hid (show R = false by rw [Hfin.out, decide_eq_false hz]; rfl)
            go_wp2
            go_ret
            exact ⟨ret_bool (by rw [Hf2.out]), rfl⟩
    · have h1 : ((s[0].toNat : Int) == 45) = false := by
        apply beq_eq_false_iff_ne.2
        intro h
        exact h45 (UInt8.toNat_inj.1 (by have : (45 : UInt8).toNat = 45 := rfl; omega))
      have HR : Hid (numB s.data.toList = R) := Lib.hid (by
        rw [← hR]
        unfold lnumB strip
        rw [hat, if_neg h45])
      clear hR hat h45
      have hTs := hs
      go_enter Tryd.func36, Tryd.ntmps36
      go_wp2_with fail
      go_loop [3, 4] (fun c t => ∃ (j n : Nat), t = .int .i64 j ∧ c = .int .i64 n ∧ j ≤ s.size ∧ n ≤ j ∧ Hid (n = cntP s.data.toList j) ∧ Hid (∀ m, m < j → okAt s.data.toList m = true)) (fun _ t => s.size - (intOf t).toNat)
      case atStart => exact ⟨0, 0, rfl, rfl, Nat.zero_le _, Nat.le_refl _, Lib.hid rfl, Lib.hid fun m h => by omega⟩
      case round =>
        obtain ⟨j, n, rfl, rfl, hjs, hnj, hn, hok⟩ := hrel
        by_cases hlt : j < s.size
        · have hlt' : j < s.data.toList.length := by rw [size_data]; exact hlt
          have Hat := Lib.hid (at0_get s.data.toList j hlt')
          have Hnext := Lib.hid (fun (h : okAt s.data.toList j = true) => Lib.hid (show ∀ m, m < j + 1 → okAt s.data.toList m = true from fun m hm => by
            by_cases e : m = j
            · subst e; exact h
            · exact hok.out m (by omega)))
          have Hcnt : Hid (cntP s.data.toList (j + 1) = cntP s.data.toList j + if ptAt s.data.toList j = true then 1 else 0) := Lib.hid rfl
          have Hbad := Lib.hid (bad_num s j hlt)
          rw [HR.out] at Hbad
          have hq : ((s[j].toNat : Int) == 46) = decide (s[j] = 46) := by
            rw [Bool.eq_iff_iff, beq_iff_eq, decide_eq_true_iff]
            constructor
            · intro h; exact UInt8.toNat_inj.1 (by have : (46 : UInt8).toNat = 46 := rfl; omega)
            · intro h; rw [h]; rfl
          by_cases h46 : s[j] = 46
          · have h1 : ((s[j].toNat : Int) == 46) = true := by rw [hq]; simpa using h46
            have hd0 : dgB s[j] = false := by rw [h46]; decide
            have Hd0 := Lib.hid hd0
            have H46 := Lib.hid h46
            clear hq hd0 h46
            by_cases hj0 : j = 0
            · subst hj0
              obtain rfl : R = false := Hbad.out (by unfold okAt ptAt; rw [Hat.out]; rw [show dgB s.data.toList[0] = false from Hd0.out]; simp)
              go_wp2_with (go_at_call 27; refine (ldigit_any s[0] _).mono ?_; rw [Hd0.out]; rintro e w' ⟨rfl, rfl⟩)
              go_ret
              exact ⟨rfl, rfl⟩
            · have h2 : decide ((0 : Int) < (j : Int)) = true := by simp; omega
              have h2n : decide (0 < j) = true := by simp; omega
              by_cases hje : j + 1 < s.size
              · have h3 : decide ((j : Int) < (s.size : Int) - 1) = true := by simp; omega
                have Hp := Lib.hid (show ptAt s.data.toList j = true by unfold ptAt; rw [Hat.out, size_data]; exact decide_eq_true ⟨H46.out, by omega, hje⟩)
                have Ho := Lib.hid (show okAt s.data.toList j = true by unfold okAt; rw [Hp.out]; rfl)
                go_wp2_with (go_at_call 27; refine (ldigit_any s[j] _).mono ?_; rw [Hd0.out]; rintro e w' ⟨rfl, rfl⟩)
                go_round
                case rel => exact ⟨j + 1, n + 1, by go_num, by go_num, by omega, by omega, Lib.hid (by rw [Hcnt.out, if_pos Hp.out, ← hn.out]), Hnext.out Ho.out⟩
                case measure => simp [intOf]; omega
              · have h3 : decide ((j : Int) < (s.size : Int) - 1) = false := by simp; omega
                obtain rfl : R = false := Hbad.out (by unfold okAt ptAt; rw [Hat.out, size_data]; rw [show dgB s.data.toList[j] = false from Hd0.out]; simp; omega)
                go_wp2_with (go_at_call 27; refine (ldigit_any s[j] _).mono ?_; rw [Hd0.out]; rintro e w' ⟨rfl, rfl⟩)
                go_ret
                exact ⟨rfl, rfl⟩
          · have h1 : ((s[j].toNat : Int) == 46) = false := by rw [hq]; simpa using h46
            have Hp := Lib.hid (show ptAt s.data.toList j = false by unfold ptAt; rw [Hat.out]; exact decide_eq_false fun x => h46 x.1)
            clear hq h46
            cases hd : dgB s[j]
            · obtain rfl : R = false := Hbad.out (by unfold okAt; rw [Hp.out, Hat.out]; exact hd)
              have Hd := Lib.hid hd
              clear hd
              go_wp2_with (go_at_call 27; refine (ldigit_any s[j] _).mono ?_; rw [Hd.out]; rintro e w' ⟨rfl, rfl⟩)
              go_ret
              exact ⟨rfl, rfl⟩
            · have Ho := Lib.hid (show okAt s.data.toList j = true by unfold okAt; rw [Hp.out, Hat.out]; exact hd)
              have Hd := Lib.hid hd
              clear hd
              go_wp2_with (go_at_call 27; refine (ldigit_any s[j] _).mono ?_; rw [Hd.out]; rintro e w' ⟨rfl, rfl⟩)
              go_round
              case rel => exact ⟨j + 1, n, by go_num, rfl, by omega, by omega, Lib.hid (by rw [Hcnt.out, if_neg (by rw [Hp.out]; decide), ← hn.out]; rfl), Hnext.out Ho.out⟩
              case measure => simp [intOf]; omega
        · obtain rfl : j = s.size := by omega
          have Hfin := Lib.hid (show R = (decide (0 < s.size) && decide (n ≤ 1)) by
            rw [← HR.out]
            unfold numB
            rw [Bool.eq_iff_iff, Bool.and_eq_true, decide_eq_true_iff, decide_eq_true_iff, decide_eq_true_iff, size_data, ← hn.out]
            exact ⟨fun h => ⟨h.1, h.2.2⟩, fun h => ⟨h.1, hok.out, h.2⟩⟩)
          by_cases hz : 0 < s.size
          · have hz1 : decide ((0 : Int) < (s.size : Int)) = true := decide_eq_true (by omega); have hz2 : decide (0 < s.size) = true := decide_eq_true hz
            go_wp2
            go_ret
            exact ⟨ret_bool (by rw [Hfin.out, hz2]; simp; omega), rfl⟩
          · have hz0 : s.size = 0 := by omega
            have Hf2 := Lib.hid (show R = false by rw [Hfin.out, decide_eq_false hz]; rfl)
            go_wp2
            go_ret
            exact ⟨ret_bool (by rw [Hf2.out]), rfl⟩
  · have hp1 : decide ((0 : Int) < (s.size : Int)) = false := decide_eq_false (by omega)
    have hp2 : decide (0 < s.size) = false := decide_eq_false hpos
    obtain rfl : R = false := by
      rw [← hR]
      have : s.data.toList = [] := List.eq_nil_of_length_eq_zero (by rw [size_data]; omega)
      rw [this]
      decide
    have hz : s.size = 0 := by omega
    clear hR
    go_enter Tryd.func36, Tryd.ntmps36
    go_wp2_with fail
    go_loop [3, 4] (fun c t => t = .int .i64 0 ∧ c = .int .i64 0) (fun _ t => 0)
    case atStart => exact ⟨rfl, rfl⟩
    case round =>
      obtain ⟨rfl, rfl⟩ := hrel
      go_wp2
      go_ret
      exact ⟨rfl, rfl⟩
end Go.Proofs.YtminidoiaplhjaaDoor
