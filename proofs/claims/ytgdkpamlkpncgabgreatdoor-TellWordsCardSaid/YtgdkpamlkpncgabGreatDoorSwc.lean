/-
  Package script: steps as bytes: what is written, and what is read.
-/
import Derived.Test.YtgdkpamlkpncgabGreatDoorSwa
import Derived.Test.YtgdkpamlkpncgabGreatDoorA6
namespace Go.Proofs.YtgdkpamlkpncgabGreatDoor
open Go.RowKit
set_option linter.unusedVariables false
set_option linter.unusedSimpArgs false

structure SA where
  name : ByteArray
  kind : Int
  text : ByteArray
structure ST where
  kind : Int
  tag : ByteArray
  bytes : ByteArray
  over : Bool
  wishes : List ByteArray
  name : ByteArray
  attr : ByteArray
  args : List SA
def eS : ByteArray := ⟨#[]⟩
def mkS (l : List UInt8) : ByteArray := ⟨l.toArray⟩
theorem mkS_data (l : List UInt8) : (mkS l).data.toList = l := rfl
theorem mkS_of (s : ByteArray) : mkS s.data.toList = s := bytes_eq rfl
theorem size_mkS (l : List UInt8) : (mkS l).size = l.length := size_mk l

/-- Has an argument a value? -/
def okA (a : SA) : Bool :=
  if a.kind = 0 then true
  else if a.kind = 1 then (parseL a.text.data.toList).isSome
  else if a.kind = 2 then (wholeS a.text.data.toList (-9007199254740992) 9007199254740992).isSome
  else false
theorem okA_kind {a : SA} (h : okA a = true) : a.kind = 0 ∨ a.kind = 1 ∨ a.kind = 2 := by
  unfold okA at h
  split at h
  · omega
  · split at h
    · omega
    · split at h
      · omega
      · cases h
def addsS (s : ST) : Bool := !s.bytes.data.toList.isEmpty || s.over
def asksS (s : ST) : Bool := !s.name.data.toList.isEmpty || !s.attr.data.toList.isEmpty || !s.args.isEmpty
def rightS (s : ST) : Bool :=
  if s.kind = 0 then s.wishes.isEmpty && !asksS s
  else if s.kind = 1 then !addsS s && !asksS s
  else if s.kind = 2 then !addsS s && s.wishes.isEmpty && s.tag.data.toList.isEmpty && s.args.all okA
  else false
def signA (k : Int) : UInt8 := if k = 0 then 116 else if k = 1 then 110 else 109
def textsA (a : SA) : List (List UInt8) := [a.name.data.toList, [signA a.kind], a.text.data.toList]
def textsS (s : ST) : List (List UInt8) :=
  if s.kind = 0 then [[97], s.tag.data.toList, [if s.over then 49 else 48], s.bytes.data.toList]
  else if s.kind = 1 then [99] :: s.tag.data.toList :: Lib.decDigits s.wishes.length :: s.wishes.map (fun w => w.data.toList)
  else [113] :: s.name.data.toList :: s.attr.data.toList :: Lib.decDigits s.args.length :: s.args.flatMap textsA
def encS (s : ST) : List UInt8 := (textsS s).flatMap encT
def encA (a : SA) : List UInt8 := (textsA a).flatMap encT
def encL (l : List ST) : List UInt8 := l.flatMap encS

/-! What is read. -/
abbrev RSt := ByteArray × Bool
def textG (st : RSt) : ByteArray × RSt :=
  if st.2 = true then (eS, st) else match textR st.1 with | none => (eS, (st.1, true)) | some (t, r) => (t, (r, false))
def oneOk (signs : List UInt8) (t : ByteArray) : Bool := decide (t.size = 1) && decide (0 ≤ Lib.indexByte signs (t.data.toList.headD 0))
def oneG (signs : List UInt8) (st : RSt) : Int × RSt :=
  if oneOk signs (textG st).1 = true then (Lib.indexByte signs ((textG st).1.data.toList.headD 0), (textG st).2) else (0, ((textG st).2.1, true))
def countG (st : RSt) : Nat × RSt :=
  match wholeS (textG st).1.data.toList 0 262144 with | some n => (n.toNat, (textG st).2) | none => (0, ((textG st).2.1, true))
def argG (st : RSt) : SA × RSt :=
  (⟨(textG st).1, (oneG [116, 110, 109] (textG st).2).1, (textG (oneG [116, 110, 109] (textG st).2).2).1⟩, (textG (oneG [116, 110, 109] (textG st).2).2).2)
def manyG {α : Type} (f : RSt → α × RSt) : Nat → List α → RSt → List α × RSt
  | 0, acc, st => (acc, st)
  | k + 1, acc, st => if st.2 = true then (acc, st) else manyG f k (acc ++ [(f st).1]) (f st).2
def addG (st : RSt) : ST × RSt :=
  (⟨0, (textG st).1, (textG (oneG [48, 49] (textG st).2).2).1, decide ((oneG [48, 49] (textG st).2).1 = 1), [], eS, eS, []⟩, (textG (oneG [48, 49] (textG st).2).2).2)
def chooseG (st : RSt) : ST × RSt :=
  (⟨1, (textG st).1, eS, false, (manyG textG (countG (textG st).2).1 [] (countG (textG st).2).2).1, eS, eS, []⟩, (manyG textG (countG (textG st).2).1 [] (countG (textG st).2).2).2)
def askG (st : RSt) : ST × RSt :=
  (⟨2, eS, eS, false, [], (textG st).1, (textG (textG st).2).1, (manyG argG (countG (textG (textG st).2).2).1 [] (countG (textG (textG st).2).2).2).1⟩, (manyG argG (countG (textG (textG st).2).2).1 [] (countG (textG (textG st).2).2).2).2)
def stepG (st : RSt) : ST × RSt :=
  if (oneG [97, 99, 113] st).1 = 0 then addG (oneG [97, 99, 113] st).2
  else if (oneG [97, 99, 113] st).1 = 1 then chooseG (oneG [97, 99, 113] st).2
  else askG (oneG [97, 99, 113] st).2
/-- Steps of bytes, up to the first that are none: they, where they end, and the error. -/
def decG (size : Nat) : Nat → List ST → ByteArray → List ST × Nat × Int
  | 0, acc, r => (acc, size, 0)
  | n + 1, acc, r =>
    if r.size = 0 then (acc, size, 0)
    else if (stepG (r, false)).2.2 = true ∨ rightS (stepG (r, false)).1 = false then (acc, size - r.size, 2)
    else if acc.length = 4096 then (acc, size - r.size, 4)
    else decG size n (acc ++ [(stepG (r, false)).1]) (stepG (r, false)).2.1

/-! Read and written. -/
/-- f reads what e writes of what is V. -/
structure Rds {α : Type} (f : RSt → α × RSt) (e : α → List UInt8) (V : α → Prop) : Prop where
  of : ∀ r a r', f (r, false) = (a, (r', false)) → V a ∧ r.data.toList = e a ++ r'.data.toList
  tw : ∀ r a r', V a → r.data.toList = e a ++ r'.data.toList → f (r, false) = (a, (r', false))
  no : ∀ r, (f (r, true)).2.2 = true
theorem Rds.fail {α : Type} {f : RSt → α × RSt} {e : α → List UInt8} {V : α → Prop} (h : Rds f e V) {st : RSt} (hs : (f st).2.2 = false) : st.2 = false := by
  obtain ⟨r, b⟩ := st
  cases b
  · rfl
  · rw [h.no r] at hs; cases hs
theorem rds_text : Rds textG (fun t => encT t.data.toList) (fun t => t.size ≤ 262144) where
  of := by
    intro r a r' h
    unfold textG at h
    rw [if_neg (by simp)] at h
    dsimp only at h
    split at h
    · simp at h
    · next t q e =>
      have h1 := congrArg Prod.fst h
      have h2 := congrArg (fun x => x.2.1) h
      dsimp only at h1 h2
      subst h1 h2
      have := textR_iff.1 e
      exact ⟨this.2, this.1⟩
  tw := by
    intro r a r' hv h
    unfold textG
    rw [if_neg (by simp)]
    dsimp only
    rw [textR_iff.2 ⟨h, hv⟩]
  no := by
    intro r
    unfold textG
    rw [if_pos rfl]
theorem textG_no (r : ByteArray) : textG (r, true) = (eS, (r, true)) := by unfold textG; rw [if_pos rfl]
theorem one_list {t : ByteArray} (h : t.size = 1) : t.data.toList = [t.data.toList.headD 0] := by
  have hl : t.data.toList.length = 1 := by rw [size_data]; exact h
  match hd : t.data.toList, hl with
  | [c], _ => rfl
theorem ixb_lt (c : UInt8) : ∀ (l : List UInt8), 0 ≤ Lib.indexByte l c → (Lib.indexByte l c).toNat < l.length ∧ l[(Lib.indexByte l c).toNat]? = some c
  | [], h => absurd h (by rw [Lib.indexByte]; decide)
  | b :: l, h => by
    rw [Lib.indexByte] at h ⊢
    split at h
    · next hb =>
      rw [if_pos hb]
      rw [beq_iff_eq] at hb
      exact ⟨by simp, by simp [hb]⟩
    · next hb =>
      split at h
      · omega
      · next h1 =>
        rw [if_neg hb, if_neg h1]
        have hn : 0 ≤ Lib.indexByte l c := by
          rw [beq_iff_eq] at h1
          omega
        have ih := ixb_lt c l hn
        have e : (Lib.indexByte l c + 1).toNat = (Lib.indexByte l c).toNat + 1 := by omega
        rw [e]
        exact ⟨by rw [List.length_cons]; omega, by rw [List.getElem?_cons_succ]; exact ih.2⟩
/-- The signs that a step's or an argument's kind is told by. -/
structure Signs (l : List UInt8) : Prop where
  back : ∀ i, (h : i < l.length) → Lib.indexByte l l[i] = i
theorem rds_one {l : List UInt8} (hl : Signs l) : Rds (oneG l) (fun k => encT [l.getD k.toNat 0]) (fun k => 0 ≤ k ∧ k.toNat < l.length) where
  of := by
    intro r a r' h
    unfold oneG at h
    split at h
    · next ho =>
      unfold oneOk at ho
      rw [Bool.and_eq_true, decide_eq_true_iff, decide_eq_true_iff] at ho
      obtain ⟨h1, h2⟩ := ho
      have ha := congrArg Prod.fst h
      have hb := congrArg Prod.snd h
      dsimp only at ha hb
      have ht : textG (r, false) = ((textG (r, false)).1, (r', false)) := by rw [← hb]
      have hv := rds_text.of _ _ _ ht
      have hx := ixb_lt _ l h2
      rw [ha] at hx h2
      refine ⟨⟨h2, hx.1⟩, ?_⟩
      rw [hv.2]
      rw [List.getD_eq_getElem?_getD, hx.2, Option.getD_some, ← one_list h1]
    · have := congrArg (fun x => x.2.2) h
      simp at this
  tw := by
    intro r a r' hv h
    have ht : textG (r, false) = (mkS [l.getD a.toNat 0], (r', false)) := rds_text.tw _ _ _ (by rw [size_mkS]; simp) h
    unfold oneG
    rw [ht]
    dsimp only
    have hh : (mkS [l.getD a.toNat 0]).data.toList.headD 0 = l[a.toNat]'hv.2 := by
      rw [mkS_data, List.headD_cons, List.getD_eq_getElem?_getD, List.getElem?_eq_getElem hv.2, Option.getD_some]
    have hi := hl.back a.toNat hv.2
    unfold oneOk
    rw [hh, hi, size_mkS, if_pos (by rw [Bool.and_eq_true, decide_eq_true_iff, decide_eq_true_iff]; exact ⟨rfl, by omega⟩), Int.toNat_of_nonneg hv.1]
  no := by
    intro r
    unfold oneG
    rw [textG_no]
    split
    · rfl
    · rfl
theorem rds_count : Rds countG (fun n => encT (Lib.decDigits n)) (fun n => n ≤ 262144) where
  of := by
    intro r a r' h
    unfold countG at h
    split at h
    · next n hn =>
      have ha := congrArg Prod.fst h
      have hb := congrArg Prod.snd h
      dsimp only at ha hb
      subst ha
      obtain ⟨g0, g1, g2⟩ := (wholeS_iff (by decide) (by decide)).1 hn
      have hv := rds_text.of _ _ _ (show textG (r, false) = ((textG (r, false)).1, (r', false)) by rw [← hb])
      refine ⟨by omega, ?_⟩
      rw [hv.2]
      rw [← itoa_nat, Int.toNat_of_nonneg g0, g2]
    · have := congrArg (fun x => x.2.2) h
      simp at this
  tw := by
    intro r a r' hv h
    have hd : (Lib.decDigits a).length ≤ 262144 := by
      rw [Lib.decDigits_length]
      have : ∀ (k u : Nat), u < 10 ^ (k + 1) → Lib.nDigits u ≤ k + 1 := by
        intro k
        induction k with
        | zero => intro u hu; rw [Lib.nDigits_small (by simpa using hu)]; omega
        | succ k ih =>
          intro u hu
          by_cases h' : u < 10
          · rw [Lib.nDigits_small h']; omega
          · rw [Lib.nDigits_big h']
            have := ih (u / 10) (by rw [Nat.pow_succ] at hu; omega)
            omega
      have := this 6 a (by omega)
      omega
    have ht : textG (r, false) = (mkS (Lib.decDigits a), (r', false)) := rds_text.tw _ _ _ (by rw [size_mkS]; exact hd) h
    unfold countG
    rw [ht]
    dsimp only
    have hw : wholeS (mkS (Lib.decDigits a)).data.toList 0 262144 = some (a : Int) := (wholeS_iff (by decide) (by decide)).2 ⟨by omega, by omega, itoa_nat a⟩
    rw [hw]
    rfl
  no := by
    intro r
    unfold countG
    rw [textG_no]
    split
    · rfl
    · rfl
theorem signs3 : Signs [116, 110, 109] := ⟨fun i h => by
  match i, h with
  | 0, _ => rfl
  | 1, _ => rfl
  | 2, _ => rfl⟩
theorem signsS : Signs [97, 99, 113] := ⟨fun i h => by
  match i, h with
  | 0, _ => rfl
  | 1, _ => rfl
  | 2, _ => rfl⟩
theorem signs2 : Signs [48, 49] := ⟨fun i h => by
  match i, h with
  | 0, _ => rfl
  | 1, _ => rfl⟩
def ValA (a : SA) : Prop := a.name.size ≤ 262144 ∧ (0 ≤ a.kind ∧ a.kind ≤ 2) ∧ a.text.size ≤ 262144
theorem sign3 {k : Int} (h0 : 0 ≤ k) (h1 : k ≤ 2) : ([116, 110, 109] : List UInt8).getD k.toNat 0 = signA k := by
  have : k = 0 ∨ k = 1 ∨ k = 2 := by omega
  rcases this with rfl | rfl | rfl <;> rfl
theorem pair3 {α : Type} {x : α × RSt} {a : α} {r : ByteArray} (h1 : x.1 = a) (h2 : x.2.1 = r) (h3 : x.2.2 = false) : x = (a, (r, false)) := by
  obtain ⟨p, q, s⟩ := x
  dsimp only at h1 h2 h3
  rw [h1, h2, h3]
/-- A reader at whatever state that did not fail behind it. -/
theorem Rds.got {α : Type} {f : RSt → α × RSt} {e : α → List UInt8} {V : α → Prop} (h : Rds f e V) {st : RSt} (hs : (f st).2.2 = false) :
    st.2 = false ∧ V (f st).1 ∧ st.1.data.toList = e (f st).1 ++ (f st).2.1.data.toList := by
  have h0 := h.fail hs
  obtain ⟨r, b⟩ := st
  dsimp only at h0
  subst h0
  have := h.of r _ _ (pair3 rfl rfl hs)
  exact ⟨rfl, this.1, this.2⟩
theorem rds_arg : Rds argG encA ValA where
  of := by
    intro r a r' h
    have h3 : (textG (oneG [116, 110, 109] (textG (r, false)).2).2).2.2 = false := congrArg (fun x => x.2.2) h
    have hr : (textG (oneG [116, 110, 109] (textG (r, false)).2).2).2.1 = r' := congrArg (fun x => x.2.1) h
    have ha : a = (argG (r, false)).1 := by rw [h]
    obtain ⟨g1, v1, e1⟩ := rds_text.got h3
    obtain ⟨g2, v2, e2⟩ := (rds_one signs3).got g1
    obtain ⟨g3, v3, e3⟩ := rds_text.got g2
    have v2' : (oneG [116, 110, 109] (textG (r, false)).2).1 ≤ 2 := by have := v2.2; simp only [List.length_cons, List.length_nil] at this; omega
    subst ha
    refine ⟨⟨v3, ⟨v2.1, v2'⟩, v1⟩, ?_⟩
    dsimp only at e3
    rw [e3, e2, e1, hr, sign3 v2.1 v2']
    unfold encA textsA argG
    simp only [List.flatMap_cons, List.flatMap_nil, List.append_nil, List.append_assoc]
  tw := by
    intro r a r' hv h
    obtain ⟨n, k, t⟩ := a
    obtain ⟨hn, ⟨k0, k1⟩, ht⟩ := hv
    dsimp only at hn k0 k1 ht
    unfold encA textsA at h
    simp only [List.flatMap_cons, List.flatMap_nil, List.append_nil, List.append_assoc] at h
    have q1 := rds_text.tw r n (mkS (encT [signA k] ++ (encT t.data.toList ++ r'.data.toList))) hn h
    have q2 := (rds_one signs3).tw (mkS (encT [signA k] ++ (encT t.data.toList ++ r'.data.toList))) k (mkS (encT t.data.toList ++ r'.data.toList)) ⟨k0, by simp only [List.length_cons, List.length_nil]; omega⟩ (by rw [sign3 k0 k1]; rfl)
    have q3 := rds_text.tw (mkS (encT t.data.toList ++ r'.data.toList)) t r' ht rfl
    unfold argG
    rw [q1]
    dsimp only
    rw [q2]
    dsimp only
    rw [q3]
  no := by
    intro r
    unfold argG
    rw [textG_no]
    dsimp only
    have h1 := (rds_one signs3).no r
    generalize oneG [116, 110, 109] (r, true) = x at *
    obtain ⟨p, q, s⟩ := x
    dsimp only at h1 ⊢
    subst h1
    rw [textG_no]
theorem manyG_no {α : Type} {f : RSt → α × RSt} (n : Nat) (acc : List α) (r : ByteArray) : manyG f n acc (r, true) = (acc, (r, true)) := by
  cases n with
  | zero => rfl
  | succ n => rw [manyG, if_pos rfl]
theorem many_of {α : Type} {f : RSt → α × RSt} {e : α → List UInt8} {V : α → Prop} (h : Rds f e V) : ∀ (n : Nat) (acc : List α) (st : RSt), (manyG f n acc st).2.2 = false →
    st.2 = false ∧ ∃ l, (manyG f n acc st).1 = acc ++ l ∧ l.length = n ∧ (∀ a ∈ l, V a) ∧ st.1.data.toList = l.flatMap e ++ (manyG f n acc st).2.1.data.toList
  | 0, acc, st, hs => ⟨hs, [], by simp [manyG], rfl, (fun a h => by cases h), by simp [manyG]⟩
  | n + 1, acc, st, hs => by
    by_cases h0 : st.2 = true
    · exfalso
      rw [manyG, if_pos h0, h0] at hs
      cases hs
    · have e0 : manyG f (n + 1) acc st = manyG f n (acc ++ [(f st).1]) (f st).2 := by rw [manyG, if_neg h0]
      rw [e0] at hs ⊢
      obtain ⟨g1, l, e1, e2, e3, e4⟩ := many_of h n _ _ hs
      obtain ⟨g2, v, e5⟩ := h.got g1
      refine ⟨g2, (f st).1 :: l, by rw [e1]; simp, by rw [List.length_cons, e2], ?_, by rw [e5, e4, List.flatMap_cons, List.append_assoc]⟩
      intro a ha
      rcases List.mem_cons.1 ha with rfl | ha
      · exact v
      · exact e3 a ha
theorem many_to {α : Type} {f : RSt → α × RSt} {e : α → List UInt8} {V : α → Prop} (h : Rds f e V) : ∀ (l acc : List α) (r r' : ByteArray), (∀ a ∈ l, V a) → r.data.toList = l.flatMap e ++ r'.data.toList →
    manyG f l.length acc (r, false) = (acc ++ l, (r', false))
  | [], acc, r, r', hv, hr => by
    have : r = r' := bytes_eq (by simpa using hr)
    rw [this]
    simp [manyG]
  | a :: l, acc, r, r', hv, hr => by
    rw [List.flatMap_cons, List.append_assoc] at hr
    have q := h.tw r a (mkS (l.flatMap e ++ r'.data.toList)) (hv a (List.mem_cons_self ..)) hr
    rw [List.length_cons, manyG, if_neg (by simp), q]
    dsimp only
    rw [many_to h l (acc ++ [a]) _ r' (fun b hb => hv b (List.mem_cons_of_mem _ hb)) rfl]
    simp
/-- A step of which nothing is another kind's, and whose texts are short. -/
def ValS (s : ST) : Prop :=
  (s.kind = 0 ∧ s.wishes = [] ∧ s.name = eS ∧ s.attr = eS ∧ s.args = [] ∧ s.tag.size ≤ 262144 ∧ s.bytes.size ≤ 262144) ∨
  (s.kind = 1 ∧ s.bytes = eS ∧ s.over = false ∧ s.name = eS ∧ s.attr = eS ∧ s.args = [] ∧ s.tag.size ≤ 262144 ∧ s.wishes.length ≤ 262144 ∧ ∀ w ∈ s.wishes, w.size ≤ 262144) ∨
  (s.kind = 2 ∧ s.tag = eS ∧ s.bytes = eS ∧ s.over = false ∧ s.wishes = [] ∧ s.name.size ≤ 262144 ∧ s.attr.size ≤ 262144 ∧ s.args.length ≤ 262144 ∧ ∀ a ∈ s.args, ValA a)
theorem one01 {k : Int} (h0 : 0 ≤ k) (h1 : k ≤ 1) : ([48, 49] : List UInt8).getD k.toNat 0 = if decide (k = 1) = true then 49 else 48 := by
  have : k = 0 ∨ k = 1 := by omega
  rcases this with rfl | rfl <;> rfl
theorem flat_map {α : Type} (f : α → List UInt8) (l : List α) : (l.map f).flatMap encT = l.flatMap (fun a => encT (f a)) := by
  induction l with
  | nil => rfl
  | cons a l ih => rw [List.map_cons, List.flatMap_cons, List.flatMap_cons, ih]
theorem flat_args (l : List SA) : (l.flatMap textsA).flatMap encT = l.flatMap encA := by
  induction l with
  | nil => rfl
  | cons a l ih => rw [List.flatMap_cons, List.flatMap_cons, List.flatMap_append, ih]; rfl
theorem rds_step : Rds stepG encS ValS where
  of := by
    intro r a r' h
    have hs : (stepG (r, false)).2.2 = false := by rw [h]
    have hr : (stepG (r, false)).2.1 = r' := by rw [h]
    have ha : a = (stepG (r, false)).1 := by rw [h]
    clear h
    subst ha hr
    unfold stepG at hs ⊢
    split at hs
    · next k0 =>
      rw [if_pos k0]
      have h3 : (textG (oneG [48, 49] (textG (oneG [97, 99, 113] (r, false)).2).2).2).2.2 = false := hs
      obtain ⟨g1, v1, e1⟩ := rds_text.got h3
      obtain ⟨g2, v2, e2⟩ := (rds_one signs2).got g1
      obtain ⟨g3, v3, e3⟩ := rds_text.got g2
      obtain ⟨g4, v4, e4⟩ := (rds_one signsS).got g3
      have v2' : (oneG [48, 49] (textG (oneG [97, 99, 113] (r, false)).2).2).1 ≤ 1 := by have := v2.2; simp only [List.length_cons, List.length_nil] at this; omega
      refine ⟨.inl ⟨rfl, rfl, rfl, rfl, rfl, v3, v1⟩, ?_⟩
      dsimp only at e4
      rw [e4, e3, e2, e1, one01 v2.1 v2', k0]
      unfold encS textsS addG
      rw [if_pos rfl]
      simp only [List.flatMap_cons, List.flatMap_nil, List.append_nil, List.append_assoc]
      rfl
    · next k0 =>
      rw [if_neg k0]
      split at hs
      · next k1 =>
        rw [if_pos k1]
        have h3 : (manyG textG (countG (textG (oneG [97, 99, 113] (r, false)).2).2).1 [] (countG (textG (oneG [97, 99, 113] (r, false)).2).2).2).2.2 = false := hs
        obtain ⟨g1, l, el, ln, v1, e1⟩ := many_of rds_text _ _ _ h3
        obtain ⟨g2, v2, e2⟩ := rds_count.got g1
        obtain ⟨g3, v3, e3⟩ := rds_text.got g2
        obtain ⟨g4, v4, e4⟩ := (rds_one signsS).got g3
        rw [List.nil_append] at el
        have hc : (chooseG (oneG [97, 99, 113] (r, false)).2).1.wishes = l := el
        refine ⟨.inr (.inl ⟨rfl, rfl, rfl, rfl, rfl, rfl, v3, by rw [hc, ln]; exact v2, by rw [hc]; exact v1⟩), ?_⟩
        dsimp only at e4
        rw [e4, e3, e2, e1, k1]
        unfold encS textsS
        rw [if_neg (show ¬ (chooseG (oneG [97, 99, 113] (r, false)).2).1.kind = 0 from by show ¬ (1 : Int) = 0; decide), if_pos (show (chooseG (oneG [97, 99, 113] (r, false)).2).1.kind = 1 from rfl), hc, ln]
        simp only [List.flatMap_cons, List.append_assoc, flat_map]
        rfl
      · next k1 =>
        rw [if_neg k1]
        have h3 : (manyG argG (countG (textG (textG (oneG [97, 99, 113] (r, false)).2).2).2).1 [] (countG (textG (textG (oneG [97, 99, 113] (r, false)).2).2).2).2).2.2 = false := hs
        obtain ⟨g1, l, el, ln, v1, e1⟩ := many_of rds_arg _ _ _ h3
        obtain ⟨g2, v2, e2⟩ := rds_count.got g1
        obtain ⟨g3, v3, e3⟩ := rds_text.got g2
        obtain ⟨g5, v5, e5⟩ := rds_text.got g3
        obtain ⟨g4, v4, e4⟩ := (rds_one signsS).got g5
        rw [List.nil_append] at el
        have hc : (askG (oneG [97, 99, 113] (r, false)).2).1.args = l := el
        have k2 : (oneG [97, 99, 113] (r, false)).1 = 2 := by have := v4.1; have := v4.2; simp only [List.length_cons, List.length_nil] at this; omega
        refine ⟨.inr (.inr ⟨rfl, rfl, rfl, rfl, rfl, v5, v3, by rw [hc, ln]; exact v2, by rw [hc]; exact v1⟩), ?_⟩
        dsimp only at e4
        rw [e4, e5, e3, e2, e1, k2]
        unfold encS textsS
        rw [if_neg (show ¬ (askG (oneG [97, 99, 113] (r, false)).2).1.kind = 0 from by show ¬ (2 : Int) = 0; decide), if_neg (show ¬ (askG (oneG [97, 99, 113] (r, false)).2).1.kind = 1 from by show ¬ (2 : Int) = 1; decide), hc, ln]
        simp only [List.flatMap_cons, List.append_assoc, flat_args]
        rfl
  tw := by
    intro r a r' hv h
    obtain ⟨k, tag, by_, ov, wi, nm, at_, ar⟩ := a
    unfold encS textsS at h
    rcases hv with ⟨hk, h1, h2, h3, h4, h5, h6⟩ | ⟨hk, h1, h2, h3, h4, h5, h6, h7, h8⟩ | ⟨hk, h1, h2, h3, h4, h5, h6, h7, h8⟩
    · dsimp only at hk h1 h2 h3 h4 h5 h6 h
      subst hk h1 h2 h3 h4
      rw [if_pos rfl] at h
      simp only [List.flatMap_cons, List.flatMap_nil, List.append_nil, List.append_assoc] at h
      have q1 := (rds_one signsS).tw r 0 (mkS (encT tag.data.toList ++ (encT [if ov = true then 49 else 48] ++ (encT by_.data.toList ++ r'.data.toList)))) ⟨Int.le_refl _, by decide⟩ h
      have q2 := rds_text.tw (mkS (encT tag.data.toList ++ (encT [if ov = true then 49 else 48] ++ (encT by_.data.toList ++ r'.data.toList)))) tag (mkS (encT [if ov = true then 49 else 48] ++ (encT by_.data.toList ++ r'.data.toList))) h5 rfl
      have q3 := (rds_one signs2).tw (mkS (encT [if ov = true then 49 else 48] ++ (encT by_.data.toList ++ r'.data.toList))) (if ov = true then 1 else 0) (mkS (encT by_.data.toList ++ r'.data.toList)) (by cases ov <;> decide) (by cases ov <;> rfl)
      have q4 := rds_text.tw (mkS (encT by_.data.toList ++ r'.data.toList)) by_ r' h6 rfl
      unfold stepG
      rw [q1]
      dsimp only
      rw [if_pos rfl]
      unfold addG
      rw [q2]
      dsimp only
      rw [q3]
      dsimp only
      rw [q4]
      cases ov <;> rfl
    · dsimp only at hk h1 h2 h3 h4 h5 h6 h7 h8 h
      subst hk h1 h2 h3 h4 h5
      rw [if_neg (by decide), if_pos rfl] at h
      simp only [List.flatMap_cons, List.append_assoc, flat_map] at h
      have q1 := (rds_one signsS).tw r 1 (mkS (encT tag.data.toList ++ (encT (Lib.decDigits wi.length) ++ (wi.flatMap (fun w => encT w.data.toList) ++ r'.data.toList)))) ⟨by decide, by decide⟩ h
      have q2 := rds_text.tw (mkS (encT tag.data.toList ++ (encT (Lib.decDigits wi.length) ++ (wi.flatMap (fun w => encT w.data.toList) ++ r'.data.toList)))) tag (mkS (encT (Lib.decDigits wi.length) ++ (wi.flatMap (fun w => encT w.data.toList) ++ r'.data.toList))) h6 rfl
      have q3 := rds_count.tw (mkS (encT (Lib.decDigits wi.length) ++ (wi.flatMap (fun w => encT w.data.toList) ++ r'.data.toList))) wi.length (mkS (wi.flatMap (fun w => encT w.data.toList) ++ r'.data.toList)) h7 rfl
      have q4 := many_to rds_text wi [] (mkS (wi.flatMap (fun w => encT w.data.toList) ++ r'.data.toList)) r' h8 rfl
      unfold stepG
      rw [q1]
      dsimp only
      rw [if_neg (by decide), if_pos rfl]
      unfold chooseG
      rw [q2]
      dsimp only
      rw [q3]
      dsimp only
      rw [q4]
      rfl
    · dsimp only at hk h1 h2 h3 h4 h5 h6 h7 h8 h
      subst hk h1 h2 h3 h4
      rw [if_neg (by decide), if_neg (by decide)] at h
      simp only [List.flatMap_cons, List.append_assoc, flat_args] at h
      have q1 := (rds_one signsS).tw r 2 (mkS (encT nm.data.toList ++ (encT at_.data.toList ++ (encT (Lib.decDigits ar.length) ++ (ar.flatMap encA ++ r'.data.toList))))) ⟨by decide, by decide⟩ h
      have q2 := rds_text.tw (mkS (encT nm.data.toList ++ (encT at_.data.toList ++ (encT (Lib.decDigits ar.length) ++ (ar.flatMap encA ++ r'.data.toList))))) nm (mkS (encT at_.data.toList ++ (encT (Lib.decDigits ar.length) ++ (ar.flatMap encA ++ r'.data.toList)))) h5 rfl
      have q5 := rds_text.tw (mkS (encT at_.data.toList ++ (encT (Lib.decDigits ar.length) ++ (ar.flatMap encA ++ r'.data.toList)))) at_ (mkS (encT (Lib.decDigits ar.length) ++ (ar.flatMap encA ++ r'.data.toList))) h6 rfl
      have q3 := rds_count.tw (mkS (encT (Lib.decDigits ar.length) ++ (ar.flatMap encA ++ r'.data.toList))) ar.length (mkS (ar.flatMap encA ++ r'.data.toList)) h7 rfl
      have q4 := many_to rds_arg ar [] (mkS (ar.flatMap encA ++ r'.data.toList)) r' h8 rfl
      unfold stepG
      rw [q1]
      dsimp only
      rw [if_neg (by decide), if_neg (by decide)]
      unfold askG
      rw [q2]
      dsimp only
      rw [q5]
      dsimp only
      rw [q3]
      dsimp only
      rw [q4]
      rfl
  no := by
    intro r
    have h0 := (rds_one signsS).no r
    unfold stepG
    generalize oneG [97, 99, 113] (r, true) = x at *
    obtain ⟨p, q, s⟩ := x
    dsimp only at h0 ⊢
    subst h0
    split
    · unfold addG
      rw [textG_no]
      dsimp only
      have h1 := (rds_one signs2).no q
      generalize oneG [48, 49] (q, true) = x at *
      obtain ⟨p, q, s⟩ := x
      dsimp only at h1 ⊢
      subst h1
      rw [textG_no]
    · split
      · unfold chooseG
        rw [textG_no]
        dsimp only
        have h1 := rds_count.no q
        generalize countG (q, true) = x at *
        obtain ⟨p, q, s⟩ := x
        dsimp only at h1 ⊢
        subst h1
        rw [manyG_no]
      · unfold askG
        rw [textG_no]
        dsimp only
        rw [textG_no]
        dsimp only
        have h1 := rds_count.no q
        generalize countG (q, true) = x at *
        obtain ⟨p, q, s⟩ := x
        dsimp only at h1 ⊢
        subst h1
        rw [manyG_no]
end Go.Proofs.YtgdkpamlkpncgabGreatDoor
