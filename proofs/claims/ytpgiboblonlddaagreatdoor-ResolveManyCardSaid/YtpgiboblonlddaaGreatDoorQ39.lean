/-
  Several texts put together (part 39): what the law and the program call, walked; their contracts.
-/
import Derived.Test.YtpgiboblonlddaaGreatDoorQ12
namespace Go.Proofs.YtpgiboblonlddaaGreatDoor
open Go.RowKit
set_option linter.unusedVariables false
set_option linter.unusedSimpArgs false
abbrev PF := Nat → Option Res
def Sound (P' : PF) (P : Nat → Res) : Prop := ∀ i r, P' i = some r → P i = r
variable {P' : PF} {P : Nat → Res} {s : ByteArray}
def nestF (P' : PF) (i : Nat) : Option Res := match P' i with
  | none => none
  | some none => some none
  | some (some (e, j)) => some (some (.mk 6 E0 E0 E0 [] (some e) [], j))
theorem nestF_ok (hP : Sound P' P) {i : Nat} {r : Res} (h : nestF P' i = some r) : nestS P i = r := by
  unfold nestF at h
  unfold nestS
  split at h
  · cases h
  · next e => cases h; rw [hP _ _ e]
  · next e => cases h; rw [hP _ _ e]
def headF (P' : PF) (s : ByteArray) (i : Nat) : Option Res := match quoS s i with
  | some x => some (some x)
  | none => match varS s i with
    | some x => some (some x)
    | none => match nestF P' i with
      | none => none
      | some (some x) => some (some x)
      | some none => some ((terS s i).or ((refS 3 s i).or (nubS s i)))
theorem headF_ok (hP : Sound P' P) {i : Nat} {r : Res} (h : headF P' s i = some r) : headS P s i = r := by
  unfold headF at h
  unfold headS
  split at h
  · next e => cases h; rw [e]; rfl
  · next e =>
    rw [e, Option.none_or]
    split at h
    · next e => cases h; rw [e]; rfl
    · next e =>
      rw [e, Option.none_or]
      split at h
      · cases h
      · next e => cases h; rw [nestF_ok hP e]; rfl
      · next e => cases h; rw [nestF_ok hP e, Option.none_or]
def argF (P' : PF) (s : ByteArray) (i : Nat) : Option (Option (ByteArray × EX × Nat)) := match namS s i with
  | some x => some (some x)
  | none => match headF P' s i with
    | none => none
    | some none => some none
    | some (some (e, j)) => some (some (E0, e, j))
theorem argF_ok (hP : Sound P' P) {i : Nat} {r : Option (ByteArray × EX × Nat)} (h : argF P' s i = some r) : argS P s i = r := by
  unfold argF at h
  unfold argS
  split at h
  · next e => cases h; rw [e]
  · next e =>
    rw [e]
    split at h
    · cases h
    · next e => cases h; rw [headF_ok hP e]
    · next e => cases h; rw [headF_ok hP e]
def argsF (P' : PF) (s : ByteArray) : Nat → List AR → Bool → Nat → Option (Option (List AR × Nat))
  | 0, _, _, _ => none
  | n + 1, xs, want, i =>
    if isAt s (bl s i) 41 then some (some (xs, bl s i + 1))
    else if want then (if isAt s (bl s i) 44 = true then argsF P' s n xs false (bl s i + 1) else some none)
    else match argF P' s (bl s i) with
      | none => none
      | some none => some none
      | some (some (nm, e, j)) =>
        if emp nm && (opnS s e j).1 then
          if i < (opnS s e j).2 ∧ (opnS s e j).2 ≤ s.size then
            match argsF P' s n [] false (opnS s e j).2 with
            | none => none
            | some none => some none
            | some (some (xs', m)) =>
              if i < m ∧ m ≤ s.size then
                (if addOk xs E0 (withArgs (opnE e) xs') then argsF P' s n (xs ++ [.mk E0 (withArgs (opnE e) xs')]) true m else some none)
              else some none
          else some none
        else if i < (if emp nm then (opnS s e j).2 else j) ∧ (if emp nm then (opnS s e j).2 else j) ≤ s.size then
          (if addOk xs nm e then argsF P' s n (xs ++ [.mk nm e]) true (if emp nm then (opnS s e j).2 else j) else some none)
        else some none
theorem argsF_ok (hP : Sound P' P) : ∀ (n : Nat) (xs : List AR) (want : Bool) (i : Nat) (r : Option (List AR × Nat)), argsF P' s n xs want i = some r → argsS P s xs want i = r
  | 0, xs, want, i, r, h => by cases h
  | n + 1, xs, want, i, r, h => by
    rw [argsF] at h
    rw [argsS]
    split at h
    · next c => rw [if_pos c]; cases h; rfl
    · next c =>
      rw [if_neg c]
      split at h
      · next c => 
        rw [if_pos c]
        split at h
        · next c2 => rw [dif_pos c2]; exact argsF_ok hP n _ _ _ _ h
        · next c2 => rw [dif_neg c2]; cases h; rfl
      · next c =>
        rw [if_neg c]
        split at h
        · cases h
        · next e => cases h; rw [argF_ok hP e]
        · next nm e j he =>
          rw [argF_ok hP he]
          dsimp only
          split at h
          · next c => 
            rw [if_pos c]
            split at h
            · next c2 =>
              rw [dif_pos c2]
              split at h
              · cases h
              · next e2 => cases h; rw [argsF_ok hP n _ _ _ _ e2]
              · next xs' m e2 =>
                rw [argsF_ok hP n _ _ _ _ e2]
                dsimp only
                split at h
                · next c3 =>
                  rw [dif_pos c3]
                  split at h
                  · next c4 => rw [if_pos c4]; exact argsF_ok hP n _ _ _ _ h
                  · next c4 => rw [if_neg c4]; cases h; rfl
                · next c3 => rw [dif_neg c3]; cases h; rfl
            · next c2 => rw [dif_neg c2]; cases h; rfl
          · next c =>
            rw [if_neg c]
            generalize (if emp nm = true then (opnS s e j).2 else j) = K at h ⊢
            split at h
            · next c2 =>
              rw [dif_pos c2]
              split at h
              · next c4 => rw [if_pos c4]; exact argsF_ok hP n _ _ _ _ h
              · next c4 => rw [if_neg c4]; cases h; rfl
            · next c2 => rw [dif_neg c2]; cases h; rfl
def inlF (P' : PF) (s : ByteArray) (n : Nat) (i : Nat) : Option Res := match headF P' s i with
  | none => none
  | some none => some none
  | some (some (e, j)) =>
    if (opnS s e j).1 then
      match argsF P' s n [] false (opnS s e j).2 with
      | none => none
      | some none => some none
      | some (some (xs, m)) => some (some (withArgs (opnE e) xs, m))
    else some (some (e, (opnS s e j).2))
theorem inlF_ok (hP : Sound P' P) {n i : Nat} {r : Res} (h : inlF P' s n i = some r) : inlS P s i = r := by
  unfold inlF at h
  unfold inlS
  split at h
  · cases h
  · next e => cases h; rw [headF_ok hP e]
  · next e =>
    rw [headF_ok hP e]
    dsimp only
    split at h
    · next c =>
      rw [if_pos c]
      split at h
      · cases h
      · next e2 => cases h; rw [argsF_ok hP n _ _ _ _ e2]
      · next e2 => cases h; rw [argsF_ok hP n _ _ _ _ e2]
    · next c => rw [if_neg c]; cases h; rfl
def partsF (P' : PF) (s : ByteArray) : Nat → List EL → Nat → Option (Option (List EL × Nat))
  | 0, _, _ => none
  | n + 1, acc, i =>
    if isAt s (tx s i) 123 then
      match P' (tx s i) with
      | none => none
      | some none => some none
      | some (some (e, j)) => if i < j ∧ j ≤ s.size then partsF P' s n (addT s acc i (tx s i) ++ [.mk E0 (some e)]) j else some none
    else some (some (addT s acc i (tx s i), tx s i))
theorem partsF_ok (hP : Sound P' P) : ∀ (n : Nat) (acc : List EL) (i : Nat) (r : Option (List EL × Nat)), partsF P' s n acc i = some r → partsS P s acc i = r
  | 0, acc, i, r, h => by cases h
  | n + 1, acc, i, r, h => by
    rw [partsF] at h
    rw [partsS]
    split at h
    · next c =>
      rw [if_pos c]
      split at h
      · cases h
      · next e => cases h; rw [hP _ _ e]
      · next e =>
        rw [hP _ _ e]
        dsimp only
        split at h
        · next c => rw [dif_pos c]; exact partsF_ok hP n _ _ _ h
        · next c => rw [dif_neg c]; cases h; rfl
    · next c => rw [if_neg c]; cases h; rfl
def nlF (s : ByteArray) : Nat → Nat → Nat → Nat → Option (Nat × Nat × Nat)
  | 0, _, _, _ => none
  | n + 1, f, fr, i => if isAt s i 10 = true then nlF s n (f + 1) (i + 1) (sp s (i + 1)) else some (f, fr, i)
theorem nlF_ok : ∀ (n f fr i : Nat) (r : Nat × Nat × Nat), nlF s n f fr i = some r → nlS s f fr i = r
  | 0, f, fr, i, r, h => by cases h
  | n + 1, f, fr, i, r, h => by
    rw [nlF] at h
    rw [nlS]
    split at h
    · next c => rw [dif_pos c]; exact nlF_ok n _ _ _ _ h
    · next c => rw [dif_neg c]; cases h; rfl
def nextF (s : ByteArray) (n i : Nat) : Option (Option (Nat × Nat × Nat)) := match nlF s n 0 i i with
  | none => none
  | some q => if q.2.2 = q.2.1 ∨ q.2.2 = s.size ∨ stopB (at0 s.data.toList q.2.2) = true then some none else some (some (q.1, q.2.2 - q.2.1, q.2.2))
theorem nextF_ok {n i : Nat} {r : Option (Nat × Nat × Nat)} (h : nextF s n i = some r) : nextS s i = r := by
  unfold nextF at h
  unfold nextS
  split at h
  · cases h
  · next q e =>
    rw [nlF_ok n _ _ _ _ e]
    split at h
    · next c => rw [if_pos c]; cases h; rfl
    · next c => rw [if_neg c]; cases h; rfl
def linesF (P' : PF) (s : ByteArray) : Nat → List LN → Nat → Nat → Nat → Option (Option (List LN × Nat))
  | 0, _, _, _, _ => none
  | n + 1, acc, f, p, i =>
    match partsF P' s n [] i with
    | none => none
    | some none => some none
    | some (some (ps, j)) => match nextF s n j with
      | none => none
      | some none => some (some (acc ++ [⟨f, p, ps⟩], j))
      | some (some (f', p', k)) => if i < k ∧ k ≤ s.size then linesF P' s n (acc ++ [⟨f, p, ps⟩]) f' p' k else some none
theorem linesF_ok (hP : Sound P' P) : ∀ (n : Nat) (acc : List LN) (f p i : Nat) (r : Option (List LN × Nat)), linesF P' s n acc f p i = some r → linesS P s acc f p i = r
  | 0, acc, f, p, i, r, h => by cases h
  | n + 1, acc, f, p, i, r, h => by
    rw [linesF] at h
    rw [linesS]
    split at h
    · cases h
    · next e => cases h; rw [partsF_ok hP n _ _ _ e]
    · next e =>
      rw [partsF_ok hP n _ _ _ e]
      dsimp only
      split at h
      · cases h
      · next e2 => cases h; rw [nextF_ok e2]
      · next e2 =>
        rw [nextF_ok e2]
        dsimp only
        split at h
        · next c => rw [dif_pos c]; exact linesF_ok hP n _ _ _ _ _ h
        · next c => rw [dif_neg c]; cases h; rfl
def patF (P' : PF) (s : ByteArray) (n i : Nat) : Option (Option (List EL × Nat)) := match linesF P' s n [] 0 0 (sp s i) with
  | none => none
  | some none => some none
  | some (some (ls, j)) => some (some (joinS ls, j))
theorem patF_ok (hP : Sound P' P) {n i : Nat} {r : Option (List EL × Nat)} (h : patF P' s n i = some r) : patS P s i = r := by
  unfold patF at h
  unfold patS
  split at h
  · cases h
  · next e => cases h; rw [linesF_ok hP n _ _ _ _ _ e]
  · next e => cases h; rw [linesF_ok hP n _ _ _ _ _ e]
def variF (P' : PF) (s : ByteArray) (n i : Nat) : Option (Option (VA × Nat)) :=
  if isAt s (if isAt s i 42 then i + 1 else i) 91 then
    if keyE s (bl s ((if isAt s i 42 then i + 1 else i) + 1)) = bl s ((if isAt s i 42 then i + 1 else i) + 1) then some none
    else if isAt s (bl s (keyE s (bl s ((if isAt s i 42 then i + 1 else i) + 1)))) 93 then
      match patF P' s n (bl s (keyE s (bl s ((if isAt s i 42 then i + 1 else i) + 1))) + 1) with
      | none => none
      | some none => some none
      | some (some (l, j)) => if isAt s j 10 && !l.isEmpty then some (some (.mk (s.extract (bl s ((if isAt s i 42 then i + 1 else i) + 1)) (keyE s (bl s ((if isAt s i 42 then i + 1 else i) + 1)))) (isAt s i 42) l, j)) else some none
    else some none
  else some none
theorem variF_ok (hP : Sound P' P) {n i : Nat} {r : Option (VA × Nat)} (h : variF P' s n i = some r) : variS P s i = r := by
  unfold variF at h
  unfold variS
  generalize (if isAt s i 42 = true then i + 1 else i) = K at h ⊢
  split at h
  · next c =>
    rw [if_pos c]
    split at h
    · next c => rw [if_pos c]; cases h; rfl
    · next c =>
      rw [if_neg c]
      split at h
      · next c =>
        rw [if_pos c]
        split at h
        · cases h
        · next e => cases h; rw [patF_ok hP e]
        · next e =>
          rw [patF_ok hP e]
          dsimp only
          split at h
          · next c => rw [if_pos c]; cases h; rfl
          · next c => rw [if_neg c]; cases h; rfl
      · next c => rw [if_neg c]; cases h; rfl
  · next c => rw [if_neg c]; cases h; rfl
def varsF (P' : PF) (s : ByteArray) : Nat → List VA → Nat → Option (Option (List VA × Nat))
  | 0, _, _ => none
  | n + 1, acc, i =>
    if isAt s i 125 then some (if acc.countP vaDflt = 1 then some (acc, i + 1) else none)
    else match variF P' s n i with
      | none => none
      | some none => some none
      | some (some (v, j)) => if i < bl s j ∧ bl s j ≤ s.size then varsF P' s n (acc ++ [v]) (bl s j) else some none
theorem varsF_ok (hP : Sound P' P) : ∀ (n : Nat) (acc : List VA) (i : Nat) (r : Option (List VA × Nat)), varsF P' s n acc i = some r → varsS P s acc i = r
  | 0, acc, i, r, h => by cases h
  | n + 1, acc, i, r, h => by
    rw [varsF] at h
    rw [varsS]
    split at h
    · next c => rw [if_pos c]; exact Option.some.inj h
    · next c =>
      rw [if_neg c]
      split at h
      · cases h
      · next e => cases h; rw [variF_ok hP e]
      · next e =>
        rw [variF_ok hP e]
        dsimp only
        split at h
        · next c => rw [dif_pos c]; exact varsF_ok hP n _ _ _ h
        · next c => rw [dif_neg c]; cases h; rfl
def selF (P' : PF) (s : ByteArray) (n i : Nat) : Option (Option (List VA × Nat)) := if isAt s (sp s i) 10 then varsF P' s n [] (bl s (sp s i + 1)) else some none
theorem selF_ok (hP : Sound P' P) {n i : Nat} {r : Option (List VA × Nat)} (h : selF P' s n i = some r) : selS P s i = r := by
  unfold selF at h
  unfold selS
  split at h
  · next c => rw [if_pos c]; exact varsF_ok hP n _ _ _ h
  · next c => rw [if_neg c]; cases h; rfl
def placeF (s : ByteArray) (n : Nat) : Nat → PF
  | 0, _ => some none
  | r + 1, i =>
    if isAt s i 123 then
      match inlF (placeF s n r) s n (bl s (i + 1)) with
      | none => none
      | some none => some none
      | some (some (e, j)) =>
        if isAt s (bl s j) 125 then some (if termAttr e then none else some (e, bl s j + 1))
        else if isAt s (bl s j) 45 && isAt s (bl s j + 1) 62 && mayAsk e then
          match selF (placeF s n r) s n (bl s j + 2) with
          | none => none
          | some none => some none
          | some (some (vs, m)) => some (some (.mk 7 E0 E0 E0 [] (some e) vs, m))
        else some none
    else some none
theorem placeF_ok (n : Nat) : ∀ r, Sound (placeF s n r) (placeS s r)
  | 0 => fun i r h => by cases h; rfl
  | k + 1 => fun i r h => by
    have hP := placeF_ok n k
    rw [placeF] at h
    rw [placeS]
    split at h
    · next c =>
      rw [if_pos c]
      split at h
      · cases h
      · next e => cases h; rw [inlF_ok hP e]
      · next e =>
        rw [inlF_ok hP e]
        dsimp only
        split at h
        · next c => rw [if_pos c]; cases h; rfl
        · next c =>
          rw [if_neg c]
          split at h
          · next c =>
            rw [if_pos c]
            split at h
            · cases h
            · next e => cases h; rw [selF_ok hP e]
            · next e => cases h; rw [selF_ok hP e]
          · next c => rw [if_neg c]; cases h; rfl
    · next c => rw [if_neg c]; cases h; rfl
def passF (s : ByteArray) : Nat → Nat → Option Nat
  | 0, _ => none
  | n + 1, i =>
    if i < s.size then
      (if sp s i < s.size ∧ isAt s (sp s i) 10 = false then some i
      else if i < beh s (sp s i) then passF s n (beh s (sp s i)) else some i)
    else some i
theorem passF_ok : ∀ (n i r : Nat), passF s n i = some r → passE s i = r
  | 0, i, r, h => by cases h
  | n + 1, i, r, h => by
    rw [passF] at h
    rw [passE]
    split at h
    · next c =>
      rw [dif_pos c]
      split at h
      · next c => rw [if_pos c]; cases h; rfl
      · next c =>
        rw [if_neg c]
        split at h
        · next c => rw [dif_pos c]; exact passF_ok n _ _ h
        · next c => rw [dif_neg c]; cases h; rfl
    · next c => rw [dif_neg c]; cases h; rfl
def namedF (s : ByteArray) (n i : Nat) : Option (Option (ByteArray × List EL × Nat)) :=
  if nm s i = i then some none
  else if isAt s (sp s (nm s i)) 61 then
    match patF (placeF s n 20) s n (sp s (nm s i) + 1) with
    | none => none
    | some none => some none
    | some (some (l, e)) => some (if e = s.size ∨ isAt s e 10 = true then some (s.extract i (nm s i), l, e) else none)
  else some none
theorem namedF_ok {n i : Nat} {r : Option (ByteArray × List EL × Nat)} (h : namedF s n i = some r) : namedS s i = r := by
  unfold namedF at h
  unfold namedS
  split at h
  · next c => rw [if_pos c]; cases h; rfl
  · next c =>
    rw [if_neg c]
    split at h
    · next c =>
      rw [if_pos c]
      split at h
      · cases h
      · next e => cases h; rw [patF_ok (placeF_ok n 20) e]
      · next e => cases h; rw [patF_ok (placeF_ok n 20) e]
    · next c => rw [if_neg c]; cases h; rfl
def attrF' (s : ByteArray) (n i : Nat) : Option (Option (ByteArray × List EL × Nat)) :=
  if isAt s (bl s i) 46 && (at0 s.data.toList (bl s i - 1) == 32) then
    match namedF s n (bl s i + 1) with
    | none => none
    | some none => some none
    | some (some (x, l, e)) => some (if l.isEmpty then none else some (x, l, e))
  else some none
theorem attrF'_ok {n i : Nat} {r : Option (ByteArray × List EL × Nat)} (h : attrF' s n i = some r) : attrS s i = r := by
  unfold attrF' at h
  unfold attrS
  split at h
  · next c =>
    rw [if_pos c]
    split at h
    · cases h
    · next e => cases h; rw [namedF_ok e]
    · next e => cases h; rw [namedF_ok e]
  · next c => rw [if_neg c]; cases h; rfl
def atsF' (s : ByteArray) : Nat → List AT → Nat → Option (List AT × Nat)
  | 0, _, _ => none
  | n + 1, acc, i =>
    match attrF' s n i with
    | none => none
    | some none => some (acc, i)
    | some (some (x, l, e)) => if i < e ∧ e ≤ s.size then atsF' s n (acc ++ [.mk x l]) e else some (acc, i)
theorem atsF'_ok : ∀ (n : Nat) (acc : List AT) (i : Nat) (r : List AT × Nat), atsF' s n acc i = some r → atsS s acc i = r
  | 0, acc, i, r, h => by cases h
  | n + 1, acc, i, r, h => by
    rw [atsF'] at h
    rw [atsS]
    split at h
    · cases h
    · next e => cases h; rw [attrF'_ok e]
    · next e =>
      rw [attrF'_ok e]
      dsimp only
      split at h
      · next c => rw [dif_pos c]; exact atsF'_ok n _ _ _ h
      · next c => rw [dif_neg c]; cases h; rfl
def msgF (s : ByteArray) (n i : Nat) : Option (Option EN) :=
  match namedF s n (if isAt s i 45 then i + 1 else i) with
  | none => none
  | some none => some none
  | some (some (x, l, e)) => match atsF' s n [] e with
    | none => none
    | some q => some (if !l.isEmpty || (!isAt s i 45 && !q.1.isEmpty) then some ⟨if isAt s i 45 then 2 else 1, 0, E0, x, l, q.1, i, beh s q.2⟩ else none)
theorem msgF_ok {n i : Nat} {r : Option EN} (h : msgF s n i = some r) : msgS s i = r := by
  unfold msgF at h
  unfold msgS
  split at h
  · cases h
  · next e => cases h; rw [namedF_ok e]
  · next e =>
    rw [namedF_ok e]
    dsimp only
    split at h
    · cases h
    · next q e2 => cases h; rw [atsF'_ok n _ _ _ e2]
def readF (s : ByteArray) (n i : Nat) : Option EN := match comS s i with
  | some _ => none
  | none => match msgF s n i with
    | some (some x) => some x
    | _ => none
theorem readF_ok {n i : Nat} {r : EN} (h : readF s n i = some r) : readS s i = r := by
  unfold readF at h
  unfold readS
  split at h
  · cases h
  · next e =>
    rw [e]
    dsimp only
    split at h
    · next e2 => cases h; rw [msgF_ok e2]
    · cases h
def parseF (s : ByteArray) : Nat → List EN → Nat → Option (List EN)
  | 0, _, _ => none
  | n + 1, acc, i =>
    if i < s.size then
      match readF s n i with
      | none => none
      | some x => match passF s n x.tu with
        | none => none
        | some k => if i < k then parseF s n (acc ++ [x]) k else some acc
    else some acc
theorem parseF_ok : ∀ (n : Nat) (acc : List EN) (i : Nat) (r : List EN), parseF s n acc i = some r → parseGo s acc i = r
  | 0, acc, i, r, h => by cases h
  | n + 1, acc, i, r, h => by
    rw [parseF] at h
    rw [parseGo]
    split at h
    · next c =>
      split at h
      · cases h
      · next x e =>
        split at h
        · cases h
        · next k e2 =>
          have h1 := readF_ok e
          have h2 := passF_ok n _ _ e2
          split at h
          · next c2 =>
            rw [dif_pos (show _ ∧ _ from ⟨c, by rw [h1, h2]; exact c2⟩), h1, h2]
            exact parseF_ok n _ _ _ h
          · next c2 =>
            rw [dif_neg (fun c3 => c2 (by have := c3.2; rw [h1, h2] at this; exact this))]
            cases h
            rfl
    · next c =>
      rw [dif_neg (fun c3 => c c3.1)]
      cases h
      rfl
def docF (s : ByteArray) (n : Nat) : Option (List EN) := match passF s n 0 with
  | none => none
  | some i => parseF s n [] i
theorem docF_ok {n : Nat} {r : List EN} (h : docF s n = some r) : parseS s = r := by
  unfold docF at h
  unfold parseS
  split at h
  · cases h
  · next i e => rw [passF_ok n _ _ e]; exact parseF_ok n _ _ _ h
end Go.Proofs.YtpgiboblonlddaaGreatDoor
