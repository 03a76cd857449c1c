/-
  Several texts put together (part 6): what the law and the program call, walked; their contracts.
-/
import Derived.Test.YtdoambpiafkmmaaGreatDoorQ2
import Derived.Test.YtdoambpiafkmmaaGreatDoorQ1
import Derived.Test.YtdoambpiafkmmaaGreatDoorQ3
import Derived.Test.YtdoambpiafkmmaaGreatDoorQ5
import Derived.Deep.QuietTactic
import Derived.BigQuiet
import Derived.Deep.RegionHeld3
namespace Go.Proofs.YtdoambpiafkmmaaGreatDoor
open Go.RowKit
set_option maxHeartbeats 1000000 in
theorem number_any (s : ByteArray) (i : Int) (w : World) (hs : s.size ≤ 9223372036854775807) :
    Calls Tryz.prog 111 #[.string s, .int .i64 i] w fun e w' => e = .returned (.int .i64 (numI s.data.toList i)) ∧ Below w.heap.size w w' := by
  have hmf : ∀ (fn : Fn) (first cap : Array Value) (w : World), (Instr.makeFunc fn first cap).run Tryz.prog w = .ok (.func fn first cap) w := fun _ _ _ _ => rfl
  obtain ⟨a, ha⟩ : ∃ a, sgnI s.data.toList 45 i = a := ⟨_, rfl⟩
  obtain ⟨e1, he1⟩ : ∃ a1, behI dgB s.data.toList a = a1 := ⟨_, rfl⟩
  obtain ⟨b, hb⟩ : ∃ b, sgnI s.data.toList 46 e1 = b := ⟨_, rfl⟩
  obtain ⟨e2, he2⟩ : ∃ a2, behI dgB s.data.toList b = a2 := ⟨_, rfl⟩
  have hn : numI s.data.toList i = if a < e1 then if b < e2 then e2 else e1 else i := by
    unfold numI
    rw [ha, he1, hb, he2]
  have H1 : ∀ W p, W.cell? ⟨p, 0, none⟩ = some (.string s) → Calls Tryz.prog 133 #[.int .u8 45, .int .i64 i, .pointer (some ⟨p, 0, none⟩)] W fun e w' => e = .returned (.tuple #[.int .i64 e1, .bool (decide (a < e1))]) ∧ W = w' := by
    intro W p hc
    have h := num1_any s 45 i p W hs hc
    rw [ha, he1] at h
    exact h
  have H2 : ∀ W p, W.cell? ⟨p, 0, none⟩ = some (.string s) → Calls Tryz.prog 133 #[.int .u8 46, .int .i64 e1, .pointer (some ⟨p, 0, none⟩)] W fun e w' => e = .returned (.tuple #[.int .i64 e2, .bool (decide (b < e2))]) ∧ W = w' := by
    intro W p hc
    have h := num1_any s 46 e1 p W hs hc
    rw [hb, he2] at h
    exact h
  have HN := Lib.hid hn
  have K1 := Lib.hid H1
  have K2 := Lib.hid H2
  clear hn ha he1 hb he2 H1 H2
  by_cases h1 : a < e1
  · by_cases h2 : b < e2
    · have E := Lib.hid (show numI s.data.toList i = e2 by rw [HN.out, if_pos h1, if_pos h2])
      have d1 : decide (a < e1) = true := by simpa using h1
      have d2 : decide (b < e2) = true := by simpa using h2
      go_enter Tryz.func111, Tryz.ntmps111
      go_wp2_with fail
      go_at_call 133
      refine (K1.out _ _ (by simp)).mono ?_
      rintro e w' ⟨rfl, rfl⟩
      go_wp2_with fail
      go_at_call 133
      refine (K2.out _ _ (by simp)).mono ?_
      rintro e w' ⟨rfl, rfl⟩
      go_wp2_with fail
      go_ret
      exact ⟨ret_int E.out.symm, (Below.refl _ _).alloc (Nat.le_refl _) _⟩
    · have E := Lib.hid (show numI s.data.toList i = e1 by rw [HN.out, if_pos h1, if_neg h2])
      have d1 : decide (a < e1) = true := by simpa using h1
      have d2 : decide (b < e2) = false := by simpa using h2
      go_enter Tryz.func111, Tryz.ntmps111
      go_wp2_with fail
      go_at_call 133
      refine (K1.out _ _ (by simp)).mono ?_
      rintro e w' ⟨rfl, rfl⟩
      go_wp2_with fail
      go_at_call 133
      refine (K2.out _ _ (by simp)).mono ?_
      rintro e w' ⟨rfl, rfl⟩
      go_wp2_with fail
      go_ret
      exact ⟨ret_int E.out.symm, (Below.refl _ _).alloc (Nat.le_refl _) _⟩
  · have E := Lib.hid (show numI s.data.toList i = i by rw [HN.out, if_neg h1])
    have d1 : decide (a < e1) = false := by simpa using h1
    go_enter Tryz.func111, Tryz.ntmps111
    go_wp2_with fail
    go_at_call 133
    refine (K1.out _ _ (by simp)).mono ?_
    rintro e w' ⟨rfl, rfl⟩
    go_wp2_with fail
    go_ret
    exact ⟨ret_int E.out.symm, (Below.refl _ _).alloc (Nat.le_refl _) _⟩
def bigV (s : ByteArray) : Bool := !s.data.toList.isEmpty && (behI biB s.data.toList 0 == (s.size : Int))
theorem big_any (s : ByteArray) (w : World) (hs : s.size ≤ 9223372036854775807) :
    Calls Tryz.prog 108 #[.string s] w fun e w' => e = .returned (.bool (bigV s)) ∧ w = w' := by
  have hv : bigV s = (!s.toList.isEmpty && (behI biB s.data.toList 0 == (s.size : Int))) := by unfold bigV; rw [Lib.toList_data]
  have HV := Lib.hid hv
  clear hv
  go_enter Tryz.func108, Tryz.ntmps108
  go_wp2_with (go_at_call 73; refine (behind_bi _ _ _ hs).mono ?_; rintro e w' ⟨rfl, rfl⟩)
  all_goals
    go_ret
    exact ⟨ret_bool (by rw [HV.out] <;> simp [*]), rfl⟩
def isNameV (s : ByteArray) : Bool := !s.data.toList.isEmpty && (nameI s.data.toList 0 == (s.size : Int))
end Go.Proofs.YtdoambpiafkmmaaGreatDoor

namespace Go.Proofs.YtdoambpiafkmmaaGreatDoor
open Go.RowKit
set_option linter.unusedVariables false
def mkB (l : List UInt8) : ByteArray := ⟨l.toArray⟩
def isAt (s : ByteArray) (i : Nat) (c : UInt8) : Bool := decide (i < s.size) && (at0 s.data.toList i == c)
theorem isAt_lt {s : ByteArray} {i : Nat} {c : UInt8} (h : isAt s i c = true) : i < s.size := by
  unfold isAt at h
  rw [Bool.and_eq_true, decide_eq_true_iff] at h
  exact h.1
def bl (s : ByteArray) (i : Nat) : Nat := behN blB s.data.toList i
def sp (s : ByteArray) (i : Nat) : Nat := behN spB s.data.toList i
def nm (s : ByteArray) (i : Nat) : Nat := if i < s.size ∧ leB (at0 s.data.toList i) = true then behN naB s.data.toList i else i
def nu (s : ByteArray) (i : Nat) : Nat := numN s.data.toList i
theorem bl_ge (s : ByteArray) (i : Nat) : i ≤ bl s i := behN_ge _ _ _
theorem sp_ge (s : ByteArray) (i : Nat) : i ≤ sp s i := behN_ge _ _ _
def E0 : ByteArray := ⟨#[]⟩
abbrev Res := Option (EX × Nat)
def quoS (s : ByteArray) (i : Nat) : Res := match unqAll (s.extract i s.size) with
  | some (t, n) => some (.mk 0 (mkB t) E0 E0 [] none [], i + n)
  | none => none
def varS (s : ByteArray) (i : Nat) : Res := if isAt s i 36 && decide (i + 1 < nm s (i + 1)) then some (.mk 2 E0 (s.extract (i + 1) (nm s (i + 1))) E0 [] none [], nm s (i + 1)) else none
def nestS (P : Nat → Res) (i : Nat) : Res := match P i with
  | some (e, j) => some (.mk 6 E0 E0 E0 [] (some e) [], j)
  | none => none
def refS (k : Int) (s : ByteArray) (i : Nat) : Res :=
  if nm s i = i then none
  else if isAt s (nm s i) 46 then
    (if nm s (nm s i + 1) = nm s i + 1 then none else some (.mk k E0 (s.extract i (nm s i)) (s.extract (nm s i + 1) (nm s (nm s i + 1))) [] none [], nm s (nm s i + 1)))
  else some (.mk k E0 (s.extract i (nm s i)) E0 [] none [], nm s i)
def terS (s : ByteArray) (i : Nat) : Res := if isAt s i 45 then refS 4 s (i + 1) else none
def nubS (s : ByteArray) (i : Nat) : Res := if nu s i = i then none else some (.mk 1 (s.extract i (nu s i)) E0 E0 [] none [], nu s i)
def headS (P : Nat → Res) (s : ByteArray) (i : Nat) : Res := (quoS s i).or ((varS s i).or ((nestS P i).or ((terS s i).or ((refS 3 s i).or (nubS s i)))))
def isFuncS : EX → Bool | .mk k _ n a _ _ _ => (k == 3) && emp a && bigV n
def isTermS : EX → Bool | .mk k _ _ _ _ _ _ => k == 4
def termAttr : EX → Bool | .mk k _ _ a _ _ _ => (k == 4) && !emp a
def opnE : EX → EX | .mk k t n a al i v => .mk (if k = 3 then 5 else k) t n a al i v
def withArgs : EX → List AR → EX | .mk k t n a _ i v, xs => .mk k t n a xs i v
def opnS (s : ByteArray) (e : EX) (i : Nat) : Bool × Nat :=
  if isFuncS e || isTermS e then (if isAt s (bl s i) 40 then (true, bl s i + 1) else (false, bl s i)) else (false, i)
def namS (s : ByteArray) (i : Nat) : Option (ByteArray × EX × Nat) :=
  if nm s i = i then none
  else if isAt s (bl s (nm s i)) 58 then
    (match (quoS s (bl s (bl s (nm s i) + 1))).or (nubS s (bl s (bl s (nm s i) + 1))) with
     | some (e, q) => some (s.extract i (nm s i), e, q)
     | none => none)
  else none
def argS (P : Nat → Res) (s : ByteArray) (i : Nat) : Option (ByteArray × EX × Nat) := match namS s i with
  | some x => some x
  | none => match headS P s i with
    | some (e, j) => some (E0, e, j)
    | none => none
def addOk (xs : List AR) (n : ByteArray) (e : EX) : Bool := if emp n then xs.all (fun x => emp (arName x)) && !termAttr e else !(xs.any fun x => decide (arName x = n))
def argsS (P : Nat → Res) (s : ByteArray) (xs : List AR) (want : Bool) (i : Nat) : Option (List AR × Nat) :=
  if isAt s (bl s i) 41 then some (xs, bl s i + 1)
  else if want then
    if h : isAt s (bl s i) 44 = true then argsS P s xs false (bl s i + 1) else none
  else match argS P s (bl s i) with
    | none => none
    | some (n, e, j) =>
      if emp n && (opnS s e j).1 then
        if h : i < (opnS s e j).2 ∧ (opnS s e j).2 ≤ s.size then
          match argsS P s [] false (opnS s e j).2 with
          | none => none
          | some (xs', m) =>
            if h2 : i < m ∧ m ≤ s.size then
              if addOk xs E0 (withArgs (opnE e) xs') then argsS P s (xs ++ [.mk E0 (withArgs (opnE e) xs')]) true m else none
            else none
        else none
      else if h : i < (if emp n then (opnS s e j).2 else j) ∧ (if emp n then (opnS s e j).2 else j) ≤ s.size then
        if addOk xs n e then argsS P s (xs ++ [.mk n e]) true (if emp n then (opnS s e j).2 else j) else none
      else none
termination_by s.size - i
decreasing_by
  · have := bl_ge s i; have := isAt_lt h; omega
  · omega
  · omega
  · omega
def inlS (P : Nat → Res) (s : ByteArray) (i : Nat) : Res := match headS P s i with
  | none => none
  | some (e, j) =>
    if (opnS s e j).1 then
      match argsS P s [] false (opnS s e j).2 with
      | none => none
      | some (xs, m) => some (withArgs (opnE e) xs, m)
    else some (e, (opnS s e j).2)
def txB (c : UInt8) : Bool := !(c == 10 || c == 123 || c == 125)
def tx (s : ByteArray) (i : Nat) : Nat := behN txB s.data.toList i
def addT (s : ByteArray) (acc : List EL) (i j : Nat) : List EL := if i < j then acc ++ [.mk (s.extract i j) none] else acc
def partsS (P : Nat → Res) (s : ByteArray) (acc : List EL) (i : Nat) : Option (List EL × Nat) :=
  if isAt s (tx s i) 123 then
    match P (tx s i) with
    | none => none
    | some (e, j) => if h : i < j ∧ j ≤ s.size then partsS P s (addT s acc i (tx s i) ++ [.mk E0 (some e)]) j else none
  else some (addT s acc i (tx s i), tx s i)
termination_by s.size - i
decreasing_by omega
def nlS (s : ByteArray) (f fr i : Nat) : Nat × Nat × Nat := if h : isAt s i 10 = true then nlS s (f + 1) (i + 1) (sp s (i + 1)) else (f, fr, i)
termination_by s.size - i
decreasing_by have := sp_ge s (i + 1); have := isAt_lt h; omega
def stopB (c : UInt8) : Bool := c == 46 || c == 42 || c == 91 || c == 125
def nextS (s : ByteArray) (i : Nat) : Option (Nat × Nat × Nat) :=
  if (nlS s 0 i i).2.2 = (nlS s 0 i i).2.1 ∨ (nlS s 0 i i).2.2 = s.size ∨ stopB (at0 s.data.toList (nlS s 0 i i).2.2) = true then none
  else some ((nlS s 0 i i).1, (nlS s 0 i i).2.2 - (nlS s 0 i i).2.1, (nlS s 0 i i).2.2)
structure LN where
  feeds : Nat
  spaces : Nat
  parts : List EL
def linesS (P : Nat → Res) (s : ByteArray) (acc : List LN) (f p : Nat) (i : Nat) : Option (List LN × Nat) :=
  match partsS P s [] i with
  | none => none
  | some (ps, j) => match nextS s j with
    | none => some (acc ++ [⟨f, p, ps⟩], j)
    | some (f', p', k) => if h : i < k ∧ k ≤ s.size then linesS P s (acc ++ [⟨f, p, ps⟩]) f' p' k else none
termination_by s.size - i
decreasing_by omega
def leastS : List LN → Nat
  | [] => 0
  | x :: r => r.foldl (fun m y => if y.spaces < m then y.spaces else m) x.spaces
abbrev JS := List EL × List UInt8
def endS (b : JS) : List EL := if b.2 = [] then b.1 else b.1 ++ [.mk (mkB b.2) none]
def partJ (b : JS) : EL → JS
  | .mk t none => (b.1, b.2 ++ t.data.toList)
  | .mk t (some e) => (endS b ++ [.mk t (some e)], [])
def headJ (least : Nat) (b : JS) (x : LN) : JS := if b.1 = [] ∧ b.2 = [] then b else (b.1, b.2 ++ List.replicate x.feeds 10 ++ List.replicate (x.spaces - least) 32)
def lineJ (least : Nat) (b : JS) (x : LN) : JS := x.parts.foldl partJ (headJ least b x)
def trimR (l : List UInt8) : List UInt8 := (l.reverse.dropWhile (· == 32)).reverse
def joinS (ls : List LN) : List EL :=
  endS (let b := ls.foldl (lineJ (leastS ls.tail)) ([], []); (b.1, trimR b.2))
def patS (P : Nat → Res) (s : ByteArray) (i : Nat) : Option (List EL × Nat) := match linesS P s [] 0 0 (sp s i) with
  | none => none
  | some (ls, j) => some (joinS ls, j)
def keyE (s : ByteArray) (a : Nat) : Nat := if nm s a = a then nu s a else nm s a
def variS (P : Nat → Res) (s : ByteArray) (i : Nat) : Option (VA × Nat) :=
  if isAt s (if isAt s i 42 then i + 1 else i) 91 then
    if keyE s (bl s ((if isAt s i 42 then i + 1 else i) + 1)) = bl s ((if isAt s i 42 then i + 1 else i) + 1) then none
    else if isAt s (bl s (keyE s (bl s ((if isAt s i 42 then i + 1 else i) + 1)))) 93 then
      match patS P s (bl s (keyE s (bl s ((if isAt s i 42 then i + 1 else i) + 1))) + 1) with
      | none => none
      | some (l, j) => if isAt s j 10 && !l.isEmpty then some (.mk (s.extract (bl s ((if isAt s i 42 then i + 1 else i) + 1)) (keyE s (bl s ((if isAt s i 42 then i + 1 else i) + 1)))) (isAt s i 42) l, j) else none
    else none
  else none
def varsS (P : Nat → Res) (s : ByteArray) (acc : List VA) (i : Nat) : Option (List VA × Nat) :=
  if isAt s i 125 then (if acc.countP vaDflt = 1 then some (acc, i + 1) else none)
  else match variS P s i with
    | none => none
    | some (v, j) => if h : i < bl s j ∧ bl s j ≤ s.size then varsS P s (acc ++ [v]) (bl s j) else none
termination_by s.size - i
decreasing_by omega
def selS (P : Nat → Res) (s : ByteArray) (i : Nat) : Option (List VA × Nat) := if isAt s (sp s i) 10 then varsS P s [] (bl s (sp s i + 1)) else none
def mayAsk : EX → Bool | .mk k t n a al i v => decide (k = 0 ∨ k = 1 ∨ k = 2 ∨ k = 5) || termAttr (.mk k t n a al i v)
def placeS (s : ByteArray) : Nat → Nat → Res
  | 0, _ => none
  | r + 1, i =>
    if isAt s i 123 then
      match inlS (placeS s r) s (bl s (i + 1)) with
      | none => none
      | some (e, j) =>
        if isAt s (bl s j) 125 then (if termAttr e then none else some (e, bl s j + 1))
        else if isAt s (bl s j) 45 && isAt s (bl s j + 1) 62 && mayAsk e then
          match selS (placeS s r) s (bl s j + 2) with
          | none => none
          | some (vs, m) => some (.mk 7 E0 E0 E0 [] (some e) vs, m)
        else none
    else none
def PosOk (s : ByteArray) (P : Nat → Res) : Prop := ∀ i e j, P i = some (e, j) → i < j ∧ j ≤ s.size
end Go.Proofs.YtdoambpiafkmmaaGreatDoor

namespace Go.Proofs.YtdoambpiafkmmaaGreatDoor
open Go.RowKit
set_option linter.unusedVariables false
set_option linter.unusedSimpArgs false
def Enters (N : FuncId) : Prop := ∀ (args : Array Value) (w : World), (callFunc N args).run Tryz.prog w = .ok (.enter N args) w
def EndFn (N : FuncId) (f : ByteArray → Nat → Nat) (s : ByteArray) : Prop := Enters N ∧ ∀ (i : Nat) (w : World), s.size ≤ 4000000 → i ≤ s.size → i ≤ f s i ∧ f s i ≤ s.size ∧ Calls Tryz.prog N #[.string s, .int .i64 (i : Nat)] w fun e w' => e = .returned (.int .i64 (f s i : Nat)) ∧ Below w.heap.size w w'
set_option maxHeartbeats 2000000 in
set_option maxRecDepth 100000 in
theorem pass_any {N : FuncId} {f : ByteArray → Nat → Nat} {rb : Nat} {s : ByteArray} {i : Nat} (hN : EndFn N f s) (w : World) (hr : Rd rb s i w) (hs : s.size ≤ 4000000) (hi : i ≤ s.size) :
    Calls Tryz.prog 49 #[pt rb, .func (.func N) #[] #[]] w fun e w' => e = .returned (.string (s.extract i (f s i))) ∧ Rd rb s (f s i) w' ∧ Kp rb w w' := by
  obtain ⟨hE, hC⟩ := hN
  obtain ⟨h1, h2, _⟩ := hC i w hs hi
  have hC2 := fun W => (hC i W hs hi).2.2
  have HC := Lib.hid hC2
  have c0 := hr.c0
  have c1 := hr.c1
  have f0 := hr.f 0
  have f1 := hr.f 1
  have hlt := hr.lt
  have HR := Lib.hid hr
  obtain ⟨j, hj⟩ : ∃ j, f s i = j := ⟨_, rfl⟩
  rw [hj] at h1 h2 HC ⊢
  have hi0 : (i : Int) ≤ 4000000 := by omega
  have hj0 : (j : Int) ≤ 4000000 := by omega
  have hij : (i : Int) ≤ (j : Int) := by omega
  have hjs : (j : Int) ≤ (s.size : Int) := by omega
  have hss : (s.size : Int) ≤ 4000000 := by omega
  clear hC hC2 hj hr
  unfold Enters at hE
  unfold pt
  go_enter Tryz.func49, Tryz.ntmps49
  go_wp2_with fail
  refine (HC.out _).mono ?_
  rintro e w1 ⟨rfl, hb⟩
  have hR1 := HR.out.later hb
  have d0 := hR1.c0
  have d1 := hR1.c1
  have g0 := hR1.f 0
  have g1 := hR1.f 1
  have hl1 := hR1.lt
  have HR1 := Lib.hid hR1
  have HK := Lib.hid (Kp.of_below hb (Nat.le_of_lt hlt))
  clear hR1 hb
  go_wp2
  go_region
  go_wp2
  go_ret
  exact ⟨rfl, HR1.out.set j, (HK.out.setCell 1 _).drew⟩
end Go.Proofs.YtdoambpiafkmmaaGreatDoor

namespace Go.Proofs.YtdoambpiafkmmaaGreatDoor
open Go.RowKit
set_option linter.unusedVariables false
set_option linter.unusedSimpArgs false
def Got (rb : Nat) (s : ByteArray) (w : World) (r : Res) (e : Ending) (w' : World) : Prop :=
  Kp rb w w' ∧ ∃ (k : Int) (t n a : ByteArray) (A1 : Option Addr) (n1 c1 : Nat) (p : Option Addr) (A2 : Option Addr) (n2 c2 : Nat) (j : Nat),
    e = .returned (.tuple #[exV k t n a A1 n1 c1 p A2 n2 c2, .bool r.isSome]) ∧ Rd rb s j w' ∧ j ≤ s.size ∧
    ∀ x m, r = some (x, m) → m = j ∧ ExF w' (Since w.heap.size w') x ⟨.int .i64 k, .string t, .string n, .string a, .slice A1 n1 c1, .pointer p, .slice A2 n2 c2⟩
theorem exF_flat (W : World) (F : Nat → Prop) (k : Int) (t n a : ByteArray) : ExF W F (.mk k t n a [] none []) ⟨.int .i64 k, .string t, .string n, .string a, .slice none 0 0, .pointer none, .slice none 0 0⟩ := by
  rw [ExF]
  exact ⟨rfl, rfl, rfl, rfl, LieN.nil _, by simp only [OF], ⟨none, 0, rfl, Nat.le_refl _, Nat.zero_le _, fun h => absurd h (by simp)⟩⟩
theorem isAt_prefix (s : ByteArray) (i : Nat) (c : UInt8) (hi : i ≤ s.size) : Lib.hasPrefix (s.extract i s.size).data.toList [c] = isAt s i c := by
  rw [extract_drop]
  unfold isAt
  by_cases h : i < s.size
  · have hl : i < s.data.toList.length := by rw [size_data]; exact h
    rw [List.drop_eq_getElem_cons hl, decide_eq_true h, Bool.true_and, at0_get _ _ hl]
    unfold Lib.hasPrefix
    rw [List.isPrefixOf, List.isPrefixOf, Bool.and_true, Bool.eq_iff_iff, beq_iff_eq, beq_iff_eq]
    exact eq_comm
  · rw [List.drop_eq_nil_of_le (by rw [size_data]; omega), decide_eq_false h]
    rfl
theorem rds_of {rb : Nat} {s : ByteArray} {i : Nat} {w W : World} (hr : Rd rb s i W) (hk : Kp rb w W) : W.cell? ⟨rb, 0, none⟩ = some (.string s) ∧ W.cell? ⟨rb, 1, none⟩ = some (.int .i64 (i : Nat)) ∧ rb + 1 ≤ W.heap.size ∧ Rd rb s i W ∧ Kp rb w W := ⟨hr.c0, hr.c1, hr.lt, hr, hk⟩
theorem Rd.drew {rb : Nat} {s : ByteArray} {i : Nat} {w : World} (h : Rd rb s i w) : Rd rb s i w.drew := h
theorem rds_later {rb : Nat} {s : ByteArray} {i : Nat} {w W W' : World} (h : W.cell? ⟨rb, 0, none⟩ = some (.string s) ∧ W.cell? ⟨rb, 1, none⟩ = some (.int .i64 (i : Nat)) ∧ rb + 1 ≤ W.heap.size ∧ Rd rb s i W ∧ Kp rb w W) (hb : Below W.heap.size W W') :
    W'.cell? ⟨rb, 0, none⟩ = some (.string s) ∧ W'.cell? ⟨rb, 1, none⟩ = some (.int .i64 (i : Nat)) ∧ rb + 1 ≤ W'.heap.size ∧ Rd rb s i W' ∧ Kp rb w W' :=
  rds_of (h.2.2.2.1.later hb) (h.2.2.2.2.trans (Kp.of_below hb (by have := h.2.2.1; omega)))
set_option maxHeartbeats 2000000 in
set_option maxRecDepth 100000 in
theorem take_any {rb : Nat} {s : ByteArray} {i : Nat} (c : UInt8) (w : World) (hr : Rd rb s i w) (hs : s.size ≤ 4000000) (hi : i ≤ s.size) :
    Calls Tryz.prog 48 #[pt rb, .string ⟨#[c]⟩] w fun e w' => e = .returned (.bool (isAt s i c)) ∧ Rd rb s (if isAt s i c then i + 1 else i) w' ∧ Kp rb w w' := by
  have hx := isAt_prefix s i c hi
  have hp := fun W => Tryz.strings_HasPrefix (s.extract i s.size) ⟨#[c]⟩ W
  rw [hx] at hp
  obtain ⟨b, hb⟩ : ∃ b, isAt s i c = b := ⟨_, rfl⟩
  have Hb := Lib.hid hb
  rw [hb] at hp ⊢
  have HP := Lib.hid hp
  have c0 := hr.c0
  have c1 := hr.c1
  have f0 := hr.f 0
  have f1 := hr.f 1
  have hlt := hr.lt
  have HR := Lib.hid hr
  have hi0 : (i : Int) ≤ 4000000 := by omega
  have hjs : (i : Int) ≤ (s.size : Int) := by omega
  have hss : (s.size : Int) ≤ 4000000 := by omega
  have hi1 : (0 : Int) ≤ (i : Int) := by omega
  clear hx hp hb hr
  unfold pt
  go_enter Tryz.func48, Tryz.ntmps48
  go_wp2_with fail
  go_region_held3 (fun w' => w'.cell? ⟨rb, 0, none⟩ = some (.string s) ∧ w'.cell? ⟨rb, 1, none⟩ = some (.int .i64 (i : Nat)) ∧ rb + 1 ≤ w'.heap.size ∧ Rd rb s i w' ∧ Kp rb w w')
    (first | (exact rds_later (by assumption) (by assumption)) | (exact rds_of HR.out.drew (Kp.refl _ _).drew) | go_keep)
    (first | (go_at_call 72; refine (HP.out _).mono ?_; rintro e w' ⟨rfl, rfl⟩))
  have d1 : w.drew.cell? ⟨rb, 1, none⟩ = some (.int .i64 (i : Nat)) := c1
  have g1 : w.drew.frozen? ⟨rb, 1, none⟩ = false := f1
  cases b
  · go_wp2
    go_ret
    exact ⟨rfl, HR.out.drew, (Kp.refl _ _).drew⟩
  · go_wp2
    go_ret
    exact ⟨rfl, HR.out.drew.set' (by omega), (Kp.refl _ _).drew.setCell 1 _⟩
def WayTo (rb : Nat) (s : ByteArray) (N : FuncId) (args : Array Value) (f : Nat → Res) : Prop :=
  ∀ (i : Nat) (w : World), Rd rb s i w → i ≤ s.size → Calls Tryz.prog N args w (Got rb s w (f i))
theorem ext_empty (s : ByteArray) (i j : Nat) (hij : i ≤ j) (hj : j ≤ s.size) : (s.extract i j).toList.isEmpty = decide (j = i) := by
  rw [Lib.toList_data, Bool.eq_iff_iff, List.isEmpty_iff, decide_eq_true_iff, ← List.length_eq_zero_iff, size_data, ByteArray.size_extract]
  omega
theorem ext_nil (s : ByteArray) (i : Nat) : s.extract i i = E0 := by
  apply ByteArray.ext
  simp [E0]
theorem nm_ok (s : ByteArray) (i : Nat) (hi : i ≤ s.size) : i ≤ nm s i ∧ nm s i ≤ s.size := by
  unfold nm
  split
  · exact ⟨behN_ge _ _ _, by have := behN_le naB s.data.toList i (by rw [size_data]; exact hi); rw [size_data] at this; exact this⟩
  · exact ⟨Nat.le_refl _, hi⟩
theorem nameI_nm (s : ByteArray) (i : Nat) : nameI s.data.toList (i : Int) = (nm s i : Int) := by
  unfold nameI nm behI at0
  rw [Int.toNat_natCast, size_data]
  by_cases h : i < s.size ∧ leB (s.data.toList.getD i 0) = true
  · rw [if_pos h, if_pos ⟨by omega, by omega, h.2⟩, if_neg (by omega)]
  · rw [if_neg h, if_neg (fun x => h ⟨by omega, x.2.2⟩)]
theorem numN_ok (l : List UInt8) (i : Nat) (hi : i ≤ l.length) : i ≤ numN l i ∧ numN l i ≤ l.length := by
  have h := long_num l i hi
  rw [← h]
  have : ∀ k, k ≤ l.length → i ≤ longN lnumB l i k ∧ longN lnumB l i k ≤ l.length := by
    intro k
    induction k with
    | zero => intro _; exact ⟨Nat.le_refl _, hi⟩
    | succ k ih =>
      intro hk
      unfold longN
      split
      · next h => exact ⟨Nat.le_of_lt h.1, hk⟩
      · exact ih (by omega)
  exact this _ (Nat.le_refl _)
theorem nu_ok (s : ByteArray) (i : Nat) (hi : i ≤ s.size) : i ≤ nu s i ∧ nu s i ≤ s.size := by
  have := numN_ok s.data.toList i (by rw [size_data]; exact hi)
  rw [size_data] at this
  exact this
theorem endName {s : ByteArray} : EndFn 110 nm s := ⟨fun args w => by go_simp, fun i w hs hi => ⟨(nm_ok s i hi).1, (nm_ok s i hi).2, by
  rw [← nameI_nm]
  exact (name_any s i w (by omega)).mono (by rintro e w' ⟨rfl, rfl⟩; exact ⟨rfl, Below.refl _ _⟩)⟩⟩
theorem endNumber {s : ByteArray} : EndFn 111 nu s := ⟨fun args w => by go_simp, fun i w hs hi => ⟨(nu_ok s i hi).1, (nu_ok s i hi).2, by
  have := number_any s i w (by omega)
  rw [numI_nat] at this
  exact this⟩⟩
theorem endBlank {s : ByteArray} : EndFn 50 bl s := ⟨fun args w => by go_simp, fun i w hs hi => ⟨behN_ge _ _ _, by have := behN_le blB s.data.toList i (by rw [size_data]; exact hi); rw [size_data] at this; exact this, by
  have := blank_any s i w (by omega)
  unfold behI at this
  rw [if_neg (by omega), Int.toNat_natCast] at this
  exact this.mono (by rintro e w' ⟨rfl, rfl⟩; exact ⟨rfl, Below.refl _ _⟩)⟩⟩
theorem endSpaces {s : ByteArray} : EndFn 62 sp s := ⟨fun args w => by go_simp, fun i w hs hi => ⟨behN_ge _ _ _, by have := behN_le spB s.data.toList i (by rw [size_data]; exact hi); rw [size_data] at this; exact this, by
  have := spaces_any s i w (by omega)
  unfold behI at this
  rw [if_neg (by omega), Int.toNat_natCast] at this
  exact this.mono (by rintro e w' ⟨rfl, rfl⟩; exact ⟨rfl, Below.refl _ _⟩)⟩⟩
end Go.Proofs.YtdoambpiafkmmaaGreatDoor

namespace Go.Proofs.YtdoambpiafkmmaaGreatDoor
open Go.RowKit
set_option linter.unusedVariables false
set_option linter.unusedSimpArgs false
theorem cells7 {w : World} {k : Nat} {x0 x1 x2 x3 x4 x5 x6 : Value} {t : TypeId} (h : BoxAt w k #[x0, x1, x2, x3, x4, x5, x6] t) :
    w.cell? ⟨k, 0, none⟩ = some x0 ∧ w.cell? ⟨k, 1, none⟩ = some x1 ∧ w.cell? ⟨k, 2, none⟩ = some x2 ∧ w.cell? ⟨k, 3, none⟩ = some x3 ∧ w.cell? ⟨k, 4, none⟩ = some x4 ∧ w.cell? ⟨k, 5, none⟩ = some x5 ∧ w.cell? ⟨k, 6, none⟩ = some x6 ∧
    w.frozen? ⟨k, 0, none⟩ = false ∧ w.frozen? ⟨k, 1, none⟩ = false ∧ w.frozen? ⟨k, 2, none⟩ = false ∧ w.frozen? ⟨k, 3, none⟩ = false ∧ w.frozen? ⟨k, 4, none⟩ = false ∧ w.frozen? ⟨k, 5, none⟩ = false ∧ w.frozen? ⟨k, 6, none⟩ = false :=
  ⟨h.cell 0, h.cell 1, h.cell 2, h.cell 3, h.cell 4, h.cell 5, h.cell 6, Lib.frozen_of_heap h 0, Lib.frozen_of_heap h 1, Lib.frozen_of_heap h 2, Lib.frozen_of_heap h 3, Lib.frozen_of_heap h 4, Lib.frozen_of_heap h 5, Lib.frozen_of_heap h 6⟩
theorem Kp.setNew {rb : Nat} {a w : World} (h : Kp rb a w) {b : Nat} (hb : a.heap.size ≤ b) (hr : rb < a.heap.size) (o : Nat) (v : Value) : Kp rb a (w.setCell ⟨b, o, none⟩ v) :=
  ⟨h.below.setCell (p := ⟨b, o, none⟩) (by show rb ≤ b; omega) v, fun k hk hn => (Below.heap_setCell w ⟨b, o, none⟩ v k (by show k ≠ b; omega)).trans (h.others k hk hn)⟩
theorem Rd.setOther {rb : Nat} {s : ByteArray} {i : Nat} {w : World} (h : Rd rb s i w) {b : Nat} (hb : rb ≠ b) (o : Nat) (v : Value) : Rd rb s i (w.setCell ⟨b, o, none⟩ v) := BoxAt.setOther h ⟨b, o, none⟩ v hb
def set7 (w : World) (b : Nat) (x0 x1 x2 x3 x4 x5 x6 : Value) : World := ((((((w.setCell ⟨b, 0, none⟩ x0).setCell ⟨b, 1, none⟩ x1).setCell ⟨b, 2, none⟩ x2).setCell ⟨b, 3, none⟩ x3).setCell ⟨b, 4, none⟩ x4).setCell ⟨b, 5, none⟩ x5).setCell ⟨b, 6, none⟩ x6
theorem set7_heap (w : World) (b : Nat) (x0 x1 x2 x3 x4 x5 x6 : Value) (k : Nat) (hk : k ≠ b) : (set7 w b x0 x1 x2 x3 x4 x5 x6).heap[k]? = w.heap[k]? := by
  unfold set7
  rw [Below.heap_setCell _ _ _ k hk, Below.heap_setCell _ _ _ k hk, Below.heap_setCell _ _ _ k hk, Below.heap_setCell _ _ _ k hk, Below.heap_setCell _ _ _ k hk, Below.heap_setCell _ _ _ k hk, Below.heap_setCell _ _ _ k hk]
theorem set7_size (w : World) (b : Nat) (x0 x1 x2 x3 x4 x5 x6 : Value) : (set7 w b x0 x1 x2 x3 x4 x5 x6).heap.size = w.heap.size := by
  unfold set7; simp
theorem Kp.set7 {rb : Nat} {a w : World} (h : Kp rb a w) {b : Nat} (hb : a.heap.size ≤ b) (hr : rb < a.heap.size) (x0 x1 x2 x3 x4 x5 x6 : Value) : Kp rb a (set7 w b x0 x1 x2 x3 x4 x5 x6) :=
  ((((((h.setNew hb hr 0 x0).setNew hb hr 1 x1).setNew hb hr 2 x2).setNew hb hr 3 x3).setNew hb hr 4 x4).setNew hb hr 5 x5).setNew hb hr 6 x6
theorem Rd.set7 {rb : Nat} {s : ByteArray} {i : Nat} {w : World} (h : Rd rb s i w) {b : Nat} (hb : rb ≠ b) (x0 x1 x2 x3 x4 x5 x6 : Value) : Rd rb s i (set7 w b x0 x1 x2 x3 x4 x5 x6) :=
  ((((((h.setOther hb 0 x0).setOther hb 1 x1).setOther hb 2 x2).setOther hb 3 x3).setOther hb 4 x4).setOther hb 5 x5).setOther hb 6 x6
theorem got_fin {rb : Nat} {s : ByteArray} {w w1 : World} {r : Res} {b : Nat} {k : Int} {t n a : ByteArray} {A1 : Option Addr} {n1 c1 : Nat} {p : Option Addr} {A2 : Option Addr} {n2 c2 : Nat} {j : Nat} {ok : Bool} {x0 x1 x2 x3 x4 x5 x6 : Value}
    (hK : Kp rb w w1) (hb : w.heap.size ≤ b) (hlt : rb < w.heap.size) (hR : Rd rb s j w1) (hj : j ≤ s.size) (hok : ok = r.isSome)
    (hx : ∀ x m, r = some (x, m) → m = j ∧ ExF w1 (fun q => Since w.heap.size w1 q ∧ q ≠ b) x ⟨.int .i64 k, .string t, .string n, .string a, .slice A1 n1 c1, .pointer p, .slice A2 n2 c2⟩) :
    Got rb s w r (.returned (.tuple #[exV k t n a A1 n1 c1 p A2 n2 c2, .bool ok])) (set7 w1 b x0 x1 x2 x3 x4 x5 x6) := by
  refine ⟨hK.set7 hb hlt _ _ _ _ _ _ _, k, t, n, a, A1, n1, c1, p, A2, n2, c2, j, by rw [hok], hR.set7 (by omega) _ _ _ _ _ _ _, hj, fun x m h => ?_⟩
  obtain ⟨h1, h2⟩ := hx x m h
  refine ⟨h1, ExF.carry (fun q hq => ⟨?_, set7_heap _ _ _ _ _ _ _ _ _ q hq.2⟩) _ _ h2⟩
  obtain ⟨⟨ha, hb⟩, _⟩ := hq
  exact ⟨ha, by rw [set7_size]; exact hb⟩
theorem box_set7 {w : World} {E : Nat} {x0 x1 x2 x3 x4 x5 x6 : Value} {t : TypeId} (h : BoxAt w E #[x0, x1, x2, x3, x4, x5, x6] t) (y0 y1 y2 y3 y4 y5 y6 : Value) :
    BoxAt (set7 w E y0 y1 y2 y3 y4 y5 y6) E #[y0, y1, y2, y3, y4, y5, y6] t := by
  unfold set7
  unfold BoxAt at h ⊢
  simp [World.setCell, Array.getElem?_modify, h]
set_option maxRecDepth 100000 in
theorem res7 {fn : Func} {A M : Nat} {tmps : Array Value} {w : World} {b : Nat} {x0 x1 x2 x3 x4 x5 x6 v : Value} {t : TypeId} (hres : fn.results = #[.cell A 29, .tmp M]) (ha : tmps.getD A undef = .pointer (some ⟨b, 0, none⟩)) (hm : tmps.getD M undef = v)
    (hb : BoxAt w b #[x0, x1, x2, x3, x4, x5, x6] t) : (results fn tmps).run Tryz.prog w = .ok (.tuple #[.agg #[x0, x1, x2, x3, x4, x5, x6], v]) w := by
  obtain ⟨q0, q1, q2, q3, q4, q5, q6, _⟩ := cells7 hb
  have ha' : tmps[A]?.getD undef = .pointer (some ⟨b, 0, none⟩) := by rw [← ha]; simp
  have hm' : tmps[M]?.getD undef = v := by rw [← hm]; simp
  simp [results, hres, ha', hm', go_sem, q0, q1, q2, q3, q4, q5, q6]
theorem end7 {fn : Func} {R : Ending → World → Prop} {a : Act} {w1 w2 : World} {A M b : Nat} {x0 x1 x2 x3 x4 x5 x6 y0 y1 y2 y3 y4 y5 y6 v : Value} {t : TypeId} (hres : fn.results = #[.cell A 29, .tmp M]) (hbox : BoxAt w1 b #[y0, y1, y2, y3, y4, y5, y6] t)
    (hw : w2 = set7 w1 b x0 x1 x2 x3 x4 x5 x6) (ha : a.tmps.getD A undef = .pointer (some ⟨b, 0, none⟩)) (hm : a.tmps.getD M undef = v) (hd : a.defers = []) (hR : R (.returned (.tuple #[.agg #[x0, x1, x2, x3, x4, x5, x6], v])) (set7 w1 b x0 x1 x2 x3 x4 x5 x6)) : bodyPost Tryz.prog fn R .ret a w2 := by
  subst hw
  exact bodyPost_ret (res7 hres ha hm (box_set7 hbox x0 x1 x2 x3 x4 x5 x6)) hd hR
theorem end7w {fn : Func} {R : Ending → World → Prop} {a : Act} {w2 : World} {A M b : Nat} {x0 x1 x2 x3 x4 x5 x6 v : Value} {t : TypeId} (hres : fn.results = #[.cell A 29, .tmp M]) (hbox : BoxAt w2 b #[x0, x1, x2, x3, x4, x5, x6] t)
    (ha : a.tmps.getD A undef = .pointer (some ⟨b, 0, none⟩)) (hm : a.tmps.getD M undef = v) (hd : a.defers = []) (hR : R (.returned (.tuple #[.agg #[x0, x1, x2, x3, x4, x5, x6], v])) w2) : bodyPost Tryz.prog fn R .ret a w2 :=
  bodyPost_ret (res7 hres ha hm hbox) hd hR
theorem got_end {rb : Nat} {s : ByteArray} {w w2 : World} {r : Res} {k : Int} {t n a : ByteArray} {A1 : Option Addr} {n1 c1 : Nat} {p : Option Addr} {A2 : Option Addr} {n2 c2 : Nat} {j : Nat} {ok : Bool}
    (hK : Kp rb w w2) (hR : Rd rb s j w2) (hj : j ≤ s.size) (hok : ok = r.isSome)
    (hx : ∀ x m, r = some (x, m) → m = j ∧ ExF w2 (Since w.heap.size w2) x ⟨.int .i64 k, .string t, .string n, .string a, .slice A1 n1 c1, .pointer p, .slice A2 n2 c2⟩) :
    Got rb s w r (.returned (.tuple #[exV k t n a A1 n1 c1 p A2 n2 c2, .bool ok])) w2 :=
  ⟨hK, k, t, n, a, A1, n1, c1, p, A2, n2, c2, j, by rw [hok], hR, hj, hx⟩
theorem BoxAt.drew {w : World} {k : Nat} {cs : Array Value} {t : TypeId} (h : BoxAt w k cs t) : BoxAt w.drew k cs t := h
set_option maxHeartbeats 2000000 in
set_option maxRecDepth 100000 in
theorem number_way {rb : Nat} {s : ByteArray} (hs : s.size ≤ 4000000) : WayTo rb s 107 #[pt rb] (nubS s) := by
  intro i w hr hi
  have hn := nu_ok s i hi
  have he := ext_empty s i (nu s i) hn.1 hn.2
  have hP := fun W (h : Rd rb s i W) => pass_any endNumber W h hs hi
  unfold nubS
  obtain ⟨j, hj⟩ : ∃ j, nu s i = j := ⟨_, rfl⟩
  rw [hj] at hn he hP ⊢
  have HP := Lib.hid hP
  have HR := Lib.hid hr
  have hlt := hr.lt
  obtain ⟨X, hX⟩ : ∃ X, s.extract i j = X := ⟨_, rfl⟩
  rw [hX] at he HP ⊢
  have HE := Lib.hid he
  have HX := Lib.hid hX
  clear hj hP hr he hX
  unfold pt at HP ⊢
  by_cases hji : j = i
  · have hx : X.toList.isEmpty = true := by rw [HE.out, decide_eq_true hji]
    rw [if_pos hji]
    go_enter Tryz.func107, Tryz.ntmps107
    go_wp2_with fail
    go_at_call 49
    refine (HP.out _ (HR.out.alloc _)).mono ?_
    rintro e w1 ⟨rfl, h1, h2⟩
    have H1 := Lib.hid h1
    have HK := Lib.hid (((Kp.refl rb w).alloc (Nat.le_of_lt hlt) _).trans h2)
    have hc := BoxAt.kp (BoxAt.new w #[.int .i64 0, .string ⟨#[]⟩, .string ⟨#[]⟩, .string ⟨#[]⟩, .slice none 0 0, .pointer none, .slice none 0 0] 29) h2 (by omega)
    have hl := hc.lt
    have HC := Lib.hid hc
    have q := cells7 hc
    obtain ⟨q0, q1, q2, q3, q4, q5, q6, p0, p1, p2, p3, p4, p5, p6⟩ := q
    clear h1 h2 hc
    go_wp2
    exact end7 Tryz.results107 HC.out rfl rfl rfl rfl (got_fin (b := w.heap.size) HK.out (Nat.le_refl _) hlt H1.out hn.2 rfl (fun x m h => by cases h))
  · have hx : X.toList.isEmpty = false := by rw [HE.out, decide_eq_false hji]
    rw [if_neg hji]
    go_enter Tryz.func107, Tryz.ntmps107
    go_wp2_with fail
    go_at_call 49
    refine (HP.out _ (HR.out.alloc _)).mono ?_
    rintro e w1 ⟨rfl, h1, h2⟩
    have H1 := Lib.hid h1
    have HK := Lib.hid (((Kp.refl rb w).alloc (Nat.le_of_lt hlt) _).trans h2)
    have hc := BoxAt.kp (BoxAt.new w #[.int .i64 0, .string ⟨#[]⟩, .string ⟨#[]⟩, .string ⟨#[]⟩, .slice none 0 0, .pointer none, .slice none 0 0] 29) h2 (by omega)
    have hl := hc.lt
    have HC := Lib.hid hc
    have q := cells7 hc
    obtain ⟨q0, q1, q2, q3, q4, q5, q6, p0, p1, p2, p3, p4, p5, p6⟩ := q
    clear h1 h2 hc
    go_wp2
    exact end7 Tryz.results107 HC.out rfl rfl rfl rfl (got_fin (b := w.heap.size) HK.out (Nat.le_refl _) hlt H1.out hn.2 rfl (fun x m h => by cases h; exact ⟨rfl, exF_flat _ _ _ _ _ _⟩))
end Go.Proofs.YtdoambpiafkmmaaGreatDoor
