/-
  Several texts put together (part 6): what the law and the program call, walked; their contracts.
-/
import Derived.Test.YticjinmpanfhkaaGreatDoorQ5
import Derived.OwnWalk
import Derived.Test.YticjinmpanfhkaaGreatDoorQ3
import Derived.Test.YticjinmpanfhkaaGreatDoorQ1
import Derived.Deep.QuietTactic
import Derived.BigQuiet
namespace Go.Proofs.YticjinmpanfhkaaGreatDoor
open Go.RowKit
set_option linter.unusedVariables false
set_option linter.unusedSimpArgs false

theorem unqFrom_end (s : ByteArray) (f pos next : Nat) (acc : List UInt8) (h : ¬ pos < s.size) : unqFrom s f pos next acc = none := by
  cases f with
  | zero => rfl
  | succ f => rw [unqFrom, if_neg h]

set_option maxHeartbeats 8000000 in
set_option maxRecDepth 1000000 in
theorem unquote_any (s : ByteArray) (w : World) (hs : s.size ≤ 1000000) :
    Calls Tryz.prog 125 #[.string s] w fun e w' => e = .returned (unqVal (unqAll s)) ∧ Below w.heap.size w w' := by
  obtain ⟨r, hr⟩ : ∃ r, r = unqAll s := ⟨_, rfl⟩
  rw [← hr]
  unfold unqAll at hr
  have hpre := fun W => Tryz.strings_HasPrefix s ⟨#[34]⟩ W
  have e34 : (⟨#[34]⟩ : ByteArray).data.toList = [34] := rfl
  rw [e34] at hpre
  clear e34
  cases hp : Lib.hasPrefix s.data.toList [34]
  · rw [hp] at hpre hr
    rw [if_neg (by decide)] at hr
    subst hr
    go_enter Tryz.func125, Tryz.ntmps125
    go_wp2_with fail
    go_at_call 72
    refine (hpre _).mono ?_
    rintro e w2 ⟨rfl, hw⟩
    rw [hw]
    clear hw
    go_wp2
    go_ret3
    exact ⟨rfl, Below.refl _ _⟩
  rw [hp] at hpre hr
  rw [if_pos rfl] at hr
  have Hr := Lib.hid hr
  clear hr hp
  go_enter Tryz.func125, Tryz.ntmps125
  go_wp2_with fail
  go_at_call 72
  refine (hpre _).mono ?_
  rintro e w2 ⟨rfl, hw⟩
  rw [hw]
  clear hw hpre
  go_wp2
  go_loopw [6] (fun nx wr => ∃ (pos fuel next : Nat) (acc : List UInt8), nx = .int .i64 next ∧ Lib.IsBuilderF 135 5 w.heap.size w.heap.size (Lib.byteCells acc) wr ∧ wr.heap[w.heap.size + 1]? = some (.stringIter s pos) ∧ Below w.heap.size w wr ∧ Hid (unqFrom s fuel pos next acc = r) ∧ Hid (s.size ≤ pos + fuel) ∧ Hid (acc.length ≤ 4 * pos) ∧ Hid (next ≤ s.size + 1)) (fun _ wr => s.size - wr.iterPos (w.heap.size + 1))
  case atStart =>
    refine ⟨0, s.size, 1, [], rfl, (Lib.IsBuilderF.of (Lib.fresh_isBuilder 135 5 w)).alloc _, ?_, ((Below.refl _ w).alloc (Nat.le_refl _) _).alloc (by simp) _, Hr.out.symm, by show s.size ≤ 0 + s.size; omega, by show 0 ≤ _; omega, by show 1 ≤ _; omega⟩
    have := World.iter_heap (w.alloc (.cells #[.pointer none, .slice none 0 0] 135)) s 0
    simpa using this
  case round =>
    obtain ⟨pos, fuel, next, acc, rfl, hI, hit, hbw, Hacc, Hfu, Hal, Hnx⟩ := hrel
    have hsz : w.heap.size + 1 < wr.heap.size := (Array.getElem?_eq_some_iff.1 hit).1
    clear Hr
    by_cases hp : pos < s.size
    · have hnx : ∀ ty, (Instr.next (.pointer (some ⟨w.heap.size + 1, 0, none⟩)) true ty).run Tryz.prog wr = _ := fun ty => Lib.run_next_any_at wr (w.heap.size + 1) s pos ty hit hp
      have hwd := width_pos s pos hp
      have hd1 := decode_le s pos
      have hI2 := hI.iterAt hit (pos + (Utf8.decode s pos).2)
      have hit2 := Lib.iterAt_heap wr (w.heap.size + 1) s pos (pos + (Utf8.decode s pos).2) hit
      have hbw2 := Lib.below_iterAt hbw (k := w.heap.size + 1) (by omega) s (pos + (Utf8.decode s pos).2)
      have hsz2 : w.heap.size ≤ (wr.iterAt (w.heap.size + 1) s (pos + (Utf8.decode s pos).2)).heap.size := by rw [Lib.iterAt_size]; omega
      obtain ⟨f, rfl⟩ : ∃ f, fuel = f + 1 := ⟨fuel - 1, by have := Hfu.out; omega⟩
      have hstep := Hacc.out
      rw [unqFrom, if_pos hp] at hstep
      have Hit := Lib.hid hit
      have Hnn := Hnx.out
      clear Hacc hit hI
      by_cases hlt : pos < next
      · rw [if_pos hlt] at hstep
        have Hstep := Lib.hid hstep
        clear hstep
        have hlt' : (pos : Int) < next := by omega
        go_wp2
        go_roundw
        case rel => exact ⟨pos + (Utf8.decode s pos).2, f, next, acc, rfl, hI2, hit2, hbw2, Hstep.out, by have := Hfu.out; show s.size ≤ _; omega, by have := Hal.out; show _ ≤ _; omega, Hnx⟩
        case measure =>
          simp only [World.iterPos, hit2, Hit.out]
          omega
      rw [if_neg hlt] at hstep
      have hlt' : ¬ (pos : Int) < next := by omega
      by_cases h34 : (Utf8.decode s pos).1 = 34
      · rw [if_pos h34] at hstep
        subst hstep
        go_wp2_with fail
        go_at_call 97
        refine (Tryz.Builder_String_any_k w.heap.size w.heap.size acc _ hI2 hsz2).mono ?_
        rintro e W1 ⟨rfl, _, b1, _⟩
        go_wp2
        go_ret3
        exact ⟨rfl, hbw2.trans b1⟩
      rw [if_neg h34] at hstep
      by_cases h10 : (Utf8.decode s pos).1 = 10
      · rw [if_pos h10] at hstep
        subst hstep
        go_wp2
        go_ret3
        exact ⟨rfl, hbw2⟩
      rw [if_neg h10] at hstep
      by_cases h92 : (Utf8.decode s pos).1 = 92
      · rw [if_pos h92] at hstep
        have hes := escV_range (s.data.toList.drop pos)
        have hcall := fun W => escaped_any (s.extract pos s.size) W (by simp; omega)
        have hed := extract_drop s pos
        rw [hed] at hcall
        clear hed
        rw [List.length_drop, size_data] at hes
        generalize escV (s.data.toList.drop pos) = ev at *
        obtain ⟨sg, wd⟩ := ev
        dsimp only at hes hcall hstep
        obtain ⟨q0, q1, q2⟩ := hes
        by_cases hw0 : wd = 0
        · subst hw0
          rw [if_pos rfl] at hstep
          subst hstep
          go_wp2_with fail
          go_at_call 148
          refine (hcall _).mono ?_
          rintro e W1 ⟨rfl, rfl⟩
          go_wp2
          go_ret3
          exact ⟨rfl, hbw2⟩
        · rw [if_neg hw0] at hstep
          have Hstep := Lib.hid hstep
          clear hstep
          have hwb : ((wd : Int) == 0) = false := by rw [beq_eq_false_iff_ne]; omega
          clear hw0
          go_wp2_with fail
          go_at_call 148
          refine (hcall _).mono ?_
          rintro e W1 ⟨rfl, rfl⟩
          go_wp2_with fail
          go_at_call 149
          refine (bld_WriteRune w.heap.size w.heap.size _ _ (by omega) (by omega) _ hI2 (by rw [Lib.byteCells_length]; have := Hal.out; omega) hsz2).mono ?_
          rintro e W2 ⟨rfl, h1, b1, k1⟩
          go_wp2
          go_roundw
          case rel =>
            have hl4 := (Lib.runeCells_le sg).2
            rw [Lib.runeCells_length] at hl4
            refine ⟨pos + (Utf8.decode s pos).2, f, pos + wd, acc ++ Lib.encodeRune sg, by go_num, ?_, k1.iter hit2 (by omega), hbw2.trans b1, Hstep.out, by have := Hfu.out; show s.size ≤ _; omega, by have := Hal.out; show _ ≤ _; simp; omega, by show _ ≤ _; omega⟩
            rw [Lib.byteCells_append, Lib.byteCells_encodeRune]; exact Or.inr h1
          case measure =>
            simp only [World.iterPos, k1.iter hit2 (by omega), Hit.out]
            omega
      · rw [if_neg h92] at hstep
        have Hstep := Lib.hid hstep
        clear hstep
        go_wp2_with fail
        go_at_call 149
        refine (bld_WriteRune w.heap.size w.heap.size _ _ (by omega) (by omega) _ hI2 (by rw [Lib.byteCells_length]; have := Hal.out; omega) hsz2).mono ?_
        rintro e W2 ⟨rfl, h1, b1, k1⟩
        go_wp2
        go_roundw
        case rel =>
          have hl4 := (Lib.runeCells_le ((Utf8.decode s pos).1 : Int)).2
          rw [Lib.runeCells_length] at hl4
          refine ⟨pos + (Utf8.decode s pos).2, f, next, acc ++ Lib.encodeRune (Utf8.decode s pos).1, rfl, ?_, k1.iter hit2 (by omega), hbw2.trans b1, Hstep.out, by have := Hfu.out; show s.size ≤ _; omega, by have := Hal.out; show _ ≤ _; simp; omega, Hnx⟩
          rw [Lib.byteCells_append, Lib.byteCells_encodeRune]; exact Or.inr h1
        case measure =>
          simp only [World.iterPos, k1.iter hit2 (by omega), Hit.out]
          omega
    · have hnx : ∀ ty, (Instr.next (.pointer (some ⟨w.heap.size + 1, 0, none⟩)) true ty).run Tryz.prog wr = _ := fun ty => Lib.run_next_end_at wr (w.heap.size + 1) s pos ty hit hp
      have hstep := Hacc.out
      rw [unqFrom_end s fuel pos next acc hp] at hstep
      subst hstep
      go_wp2
      go_ret3
      exact ⟨rfl, hbw⟩
end Go.Proofs.YticjinmpanfhkaaGreatDoor

/-
  Contracts of package scan: Number, Big, IsName.
-/
namespace Go.Proofs.YticjinmpanfhkaaGreatDoor
open Go.RowKit

set_option maxHeartbeats 1000000 in
theorem number_any (s : ByteArray) (i : Int) (w : World) (hs : s.size ≤ 9223372036854775807) :
    Calls Tryz.prog 111 #[.string s, .int .i64 i] w fun e w' => e = .returned (.int .i64 (numI s.data.toList i)) ∧ Below w.heap.size w w' := by
  have hmf : ∀ (fn : Fn) (first cap : Array Value) (w : World), (Instr.makeFunc fn first cap).run Tryz.prog w = .ok (.func fn first cap) w := fun _ _ _ _ => rfl
  obtain ⟨a, ha⟩ : ∃ a, sgnI s.data.toList 45 i = a := ⟨_, rfl⟩
  obtain ⟨e1, he1⟩ : ∃ a1, behI dgB s.data.toList a = a1 := ⟨_, rfl⟩
  obtain ⟨b, hb⟩ : ∃ b, sgnI s.data.toList 46 e1 = b := ⟨_, rfl⟩
  obtain ⟨e2, he2⟩ : ∃ a2, behI dgB s.data.toList b = a2 := ⟨_, rfl⟩
  have hn : numI s.data.toList i = if a < e1 then if b < e2 then e2 else e1 else i := by
    unfold numI
    rw [ha, he1, hb, he2]
  have H1 : ∀ W p, W.cell? ⟨p, 0, none⟩ = some (.string s) → Calls Tryz.prog 133 #[.int .u8 45, .int .i64 i, .pointer (some ⟨p, 0, none⟩)] W fun e w' => e = .returned (.tuple #[.int .i64 e1, .bool (decide (a < e1))]) ∧ W = w' := by
    intro W p hc
    have h := num1_any s 45 i p W hs hc
    rw [ha, he1] at h
    exact h
  have H2 : ∀ W p, W.cell? ⟨p, 0, none⟩ = some (.string s) → Calls Tryz.prog 133 #[.int .u8 46, .int .i64 e1, .pointer (some ⟨p, 0, none⟩)] W fun e w' => e = .returned (.tuple #[.int .i64 e2, .bool (decide (b < e2))]) ∧ W = w' := by
    intro W p hc
    have h := num1_any s 46 e1 p W hs hc
    rw [hb, he2] at h
    exact h
  have HN := Lib.hid hn
  have K1 := Lib.hid H1
  have K2 := Lib.hid H2
  clear hn ha he1 hb he2 H1 H2
  by_cases h1 : a < e1
  · by_cases h2 : b < e2
    · have E := Lib.hid (show numI s.data.toList i = e2 by rw [HN.out, if_pos h1, if_pos h2])
      have d1 : decide (a < e1) = true := by simpa using h1
      have d2 : decide (b < e2) = true := by simpa using h2
      go_enter Tryz.func111, Tryz.ntmps111
      go_wp2_with fail
      go_at_call 133
      refine (K1.out _ _ (by simp)).mono ?_
      rintro e w' ⟨rfl, rfl⟩
      go_wp2_with fail
      go_at_call 133
      refine (K2.out _ _ (by simp)).mono ?_
      rintro e w' ⟨rfl, rfl⟩
      go_wp2_with fail
      go_ret
      exact ⟨ret_int E.out.symm, (Below.refl _ _).alloc (Nat.le_refl _) _⟩
    · have E := Lib.hid (show numI s.data.toList i = e1 by rw [HN.out, if_pos h1, if_neg h2])
      have d1 : decide (a < e1) = true := by simpa using h1
      have d2 : decide (b < e2) = false := by simpa using h2
      go_enter Tryz.func111, Tryz.ntmps111
      go_wp2_with fail
      go_at_call 133
      refine (K1.out _ _ (by simp)).mono ?_
      rintro e w' ⟨rfl, rfl⟩
      go_wp2_with fail
      go_at_call 133
      refine (K2.out _ _ (by simp)).mono ?_
      rintro e w' ⟨rfl, rfl⟩
      go_wp2_with fail
      go_ret
      exact ⟨ret_int E.out.symm, (Below.refl _ _).alloc (Nat.le_refl _) _⟩
  · have E := Lib.hid (show numI s.data.toList i = i by rw [HN.out, if_neg h1])
    have d1 : decide (a < e1) = false := by simpa using h1
    go_enter Tryz.func111, Tryz.ntmps111
    go_wp2_with fail
    go_at_call 133
    refine (K1.out _ _ (by simp)).mono ?_
    rintro e w' ⟨rfl, rfl⟩
    go_wp2_with fail
    go_ret
    exact ⟨ret_int E.out.symm, (Below.refl _ _).alloc (Nat.le_refl _) _⟩

def bigV (s : ByteArray) : Bool := !s.data.toList.isEmpty && (behI biB s.data.toList 0 == (s.size : Int))
theorem big_any (s : ByteArray) (w : World) (hs : s.size ≤ 9223372036854775807) :
    Calls Tryz.prog 108 #[.string s] w fun e w' => e = .returned (.bool (bigV s)) ∧ w = w' := by
  have hv : bigV s = (!s.toList.isEmpty && (behI biB s.data.toList 0 == (s.size : Int))) := by unfold bigV; rw [Lib.toList_data]
  have HV := Lib.hid hv
  clear hv
  go_enter Tryz.func108, Tryz.ntmps108
  go_wp2_with (go_at_call 73; refine (behind_bi _ _ _ hs).mono ?_; rintro e w' ⟨rfl, rfl⟩)
  all_goals
    go_ret
    exact ⟨ret_bool (by rw [HV.out] <;> simp [*]), rfl⟩
def isNameV (s : ByteArray) : Bool := !s.data.toList.isEmpty && (nameI s.data.toList 0 == (s.size : Int))
end Go.Proofs.YticjinmpanfhkaaGreatDoor

/-
  Package expr: what is read, as a function of the text and the place.
-/
namespace Go.Proofs.YticjinmpanfhkaaGreatDoor
open Go.RowKit
set_option linter.unusedVariables false

def mkB (l : List UInt8) : ByteArray := ⟨l.toArray⟩
def isAt (s : ByteArray) (i : Nat) (c : UInt8) : Bool := decide (i < s.size) && (at0 s.data.toList i == c)
theorem isAt_lt {s : ByteArray} {i : Nat} {c : UInt8} (h : isAt s i c = true) : i < s.size := by
  unfold isAt at h
  rw [Bool.and_eq_true, decide_eq_true_iff] at h
  exact h.1
def bl (s : ByteArray) (i : Nat) : Nat := behN blB s.data.toList i
def sp (s : ByteArray) (i : Nat) : Nat := behN spB s.data.toList i
def nm (s : ByteArray) (i : Nat) : Nat := if i < s.size ∧ leB (at0 s.data.toList i) = true then behN naB s.data.toList i else i
def nu (s : ByteArray) (i : Nat) : Nat := numN s.data.toList i
theorem bl_ge (s : ByteArray) (i : Nat) : i ≤ bl s i := behN_ge _ _ _
theorem sp_ge (s : ByteArray) (i : Nat) : i ≤ sp s i := behN_ge _ _ _
def E0 : ByteArray := ⟨#[]⟩
abbrev Res := Option (EX × Nat)
def quoS (s : ByteArray) (i : Nat) : Res := match unqAll (s.extract i s.size) with
  | some (t, n) => some (.mk 0 (mkB t) E0 E0 [] none [], i + n)
  | none => none
def varS (s : ByteArray) (i : Nat) : Res := if isAt s i 36 && decide (i + 1 < nm s (i + 1)) then some (.mk 2 E0 (s.extract (i + 1) (nm s (i + 1))) E0 [] none [], nm s (i + 1)) else none
def nestS (P : Nat → Res) (i : Nat) : Res := match P i with
  | some (e, j) => some (.mk 6 E0 E0 E0 [] (some e) [], j)
  | none => none
def refS (k : Int) (s : ByteArray) (i : Nat) : Res :=
  if nm s i = i then none
  else if isAt s (nm s i) 46 then
    (if nm s (nm s i + 1) = nm s i + 1 then none else some (.mk k E0 (s.extract i (nm s i)) (s.extract (nm s i + 1) (nm s (nm s i + 1))) [] none [], nm s (nm s i + 1)))
  else some (.mk k E0 (s.extract i (nm s i)) E0 [] none [], nm s i)
def terS (s : ByteArray) (i : Nat) : Res := if isAt s i 45 then refS 4 s (i + 1) else none
def nubS (s : ByteArray) (i : Nat) : Res := if nu s i = i then none else some (.mk 1 (s.extract i (nu s i)) E0 E0 [] none [], nu s i)
def headS (P : Nat → Res) (s : ByteArray) (i : Nat) : Res := (quoS s i).or ((varS s i).or ((nestS P i).or ((terS s i).or ((refS 3 s i).or (nubS s i)))))
def isFuncS : EX → Bool | .mk k _ n a _ _ _ => (k == 3) && emp a && bigV n
def isTermS : EX → Bool | .mk k _ _ _ _ _ _ => k == 4
def termAttr : EX → Bool | .mk k _ _ a _ _ _ => (k == 4) && !emp a
def opnE : EX → EX | .mk k t n a al i v => .mk (if k = 3 then 5 else k) t n a al i v
def withArgs : EX → List AR → EX | .mk k t n a _ i v, xs => .mk k t n a xs i v
def opnS (s : ByteArray) (e : EX) (i : Nat) : Bool × Nat :=
  if isFuncS e || isTermS e then (if isAt s (bl s i) 40 then (true, bl s i + 1) else (false, bl s i)) else (false, i)
def namS (s : ByteArray) (i : Nat) : Option (ByteArray × EX × Nat) :=
  if nm s i = i then none
  else if isAt s (bl s (nm s i)) 58 then
    (match (quoS s (bl s (bl s (nm s i) + 1))).or (nubS s (bl s (bl s (nm s i) + 1))) with
     | some (e, q) => some (s.extract i (nm s i), e, q)
     | none => none)
  else none
def argS (P : Nat → Res) (s : ByteArray) (i : Nat) : Option (ByteArray × EX × Nat) := match namS s i with
  | some x => some x
  | none => match headS P s i with
    | some (e, j) => some (E0, e, j)
    | none => none
def addOk (xs : List AR) (n : ByteArray) (e : EX) : Bool := if emp n then xs.all (fun x => emp (arName x)) && !termAttr e else !(xs.any fun x => decide (arName x = n))
/-- Arguments, behind so many of them; with a comma wanted, or not. -/
def argsS (P : Nat → Res) (s : ByteArray) (xs : List AR) (want : Bool) (i : Nat) : Option (List AR × Nat) :=
  if isAt s (bl s i) 41 then some (xs, bl s i + 1)
  else if want then
    if h : isAt s (bl s i) 44 = true then argsS P s xs false (bl s i + 1) else none
  else match argS P s (bl s i) with
    | none => none
    | some (n, e, j) =>
      if emp n && (opnS s e j).1 then
        if h : i < (opnS s e j).2 ∧ (opnS s e j).2 ≤ s.size then
          match argsS P s [] false (opnS s e j).2 with
          | none => none
          | some (xs', m) =>
            if h2 : i < m ∧ m ≤ s.size then
              if addOk xs E0 (withArgs (opnE e) xs') then argsS P s (xs ++ [.mk E0 (withArgs (opnE e) xs')]) true m else none
            else none
        else none
      else if h : i < (if emp n then (opnS s e j).2 else j) ∧ (if emp n then (opnS s e j).2 else j) ≤ s.size then
        if addOk xs n e then argsS P s (xs ++ [.mk n e]) true (if emp n then (opnS s e j).2 else j) else none
      else none
termination_by s.size - i
decreasing_by
  · have := bl_ge s i; have := isAt_lt h; omega
  · omega
  · omega
  · omega
def inlS (P : Nat → Res) (s : ByteArray) (i : Nat) : Res := match headS P s i with
  | none => none
  | some (e, j) =>
    if (opnS s e j).1 then
      match argsS P s [] false (opnS s e j).2 with
      | none => none
      | some (xs, m) => some (withArgs (opnE e) xs, m)
    else some (e, (opnS s e j).2)
def txB (c : UInt8) : Bool := !(c == 10 || c == 123 || c == 125)
def tx (s : ByteArray) (i : Nat) : Nat := behN txB s.data.toList i
def addT (s : ByteArray) (acc : List EL) (i j : Nat) : List EL := if i < j then acc ++ [.mk (s.extract i j) none] else acc
/-- A line's texts and places, behind so many of them. -/
def partsS (P : Nat → Res) (s : ByteArray) (acc : List EL) (i : Nat) : Option (List EL × Nat) :=
  if isAt s (tx s i) 123 then
    match P (tx s i) with
    | none => none
    | some (e, j) => if h : i < j ∧ j ≤ s.size then partsS P s (addT s acc i (tx s i) ++ [.mk E0 (some e)]) j else none
  else some (addT s acc i (tx s i), tx s i)
termination_by s.size - i
decreasing_by omega
/-- Line feeds, and lines of spaces alone: how many, where the last line begins, and its first sign behind spaces. -/
def nlS (s : ByteArray) (f fr i : Nat) : Nat × Nat × Nat := if h : isAt s i 10 = true then nlS s (f + 1) (i + 1) (sp s (i + 1)) else (f, fr, i)
termination_by s.size - i
decreasing_by have := sp_ge s (i + 1); have := isAt_lt h; omega
def stopB (c : UInt8) : Bool := c == 46 || c == 42 || c == 91 || c == 125
def nextS (s : ByteArray) (i : Nat) : Option (Nat × Nat × Nat) :=
  if (nlS s 0 i i).2.2 = (nlS s 0 i i).2.1 ∨ (nlS s 0 i i).2.2 = s.size ∨ stopB (at0 s.data.toList (nlS s 0 i i).2.2) = true then none
  else some ((nlS s 0 i i).1, (nlS s 0 i i).2.2 - (nlS s 0 i i).2.1, (nlS s 0 i i).2.2)
/-- A line: line feeds and spaces ahead of it, what stands in it. -/
structure LN where
  feeds : Nat
  spaces : Nat
  parts : List EL
def linesS (P : Nat → Res) (s : ByteArray) (acc : List LN) (f p : Nat) (i : Nat) : Option (List LN × Nat) :=
  match partsS P s [] i with
  | none => none
  | some (ps, j) => match nextS s j with
    | none => some (acc ++ [⟨f, p, ps⟩], j)
    | some (f', p', k) => if h : i < k ∧ k ≤ s.size then linesS P s (acc ++ [⟨f, p, ps⟩]) f' p' k else none
termination_by s.size - i
decreasing_by omega
def leastS : List LN → Nat
  | [] => 0
  | x :: r => r.foldl (fun m y => if y.spaces < m then y.spaces else m) x.spaces
/-- The elements so far, and the text that is being put together. -/
abbrev JS := List EL × List UInt8
def endS (b : JS) : List EL := if b.2 = [] then b.1 else b.1 ++ [.mk (mkB b.2) none]
def partJ (b : JS) : EL → JS
  | .mk t none => (b.1, b.2 ++ t.data.toList)
  | .mk t (some e) => (endS b ++ [.mk t (some e)], [])
def headJ (least : Nat) (b : JS) (x : LN) : JS := if b.1 = [] ∧ b.2 = [] then b else (b.1, b.2 ++ List.replicate x.feeds 10 ++ List.replicate (x.spaces - least) 32)
def lineJ (least : Nat) (b : JS) (x : LN) : JS := x.parts.foldl partJ (headJ least b x)
def trimR (l : List UInt8) : List UInt8 := (l.reverse.dropWhile (· == 32)).reverse
def joinS (ls : List LN) : List EL :=
  endS (let b := ls.foldl (lineJ (leastS ls.tail)) ([], []); (b.1, trimR b.2))
def patS (P : Nat → Res) (s : ByteArray) (i : Nat) : Option (List EL × Nat) := match linesS P s [] 0 0 (sp s i) with
  | none => none
  | some (ls, j) => some (joinS ls, j)
def keyE (s : ByteArray) (a : Nat) : Nat := if nm s a = a then nu s a else nm s a
def variS (P : Nat → Res) (s : ByteArray) (i : Nat) : Option (VA × Nat) :=
  if isAt s (if isAt s i 42 then i + 1 else i) 91 then
    if keyE s (bl s ((if isAt s i 42 then i + 1 else i) + 1)) = bl s ((if isAt s i 42 then i + 1 else i) + 1) then none
    else if isAt s (bl s (keyE s (bl s ((if isAt s i 42 then i + 1 else i) + 1)))) 93 then
      match patS P s (bl s (keyE s (bl s ((if isAt s i 42 then i + 1 else i) + 1))) + 1) with
      | none => none
      | some (l, j) => if isAt s j 10 && !l.isEmpty then some (.mk (s.extract (bl s ((if isAt s i 42 then i + 1 else i) + 1)) (keyE s (bl s ((if isAt s i 42 then i + 1 else i) + 1)))) (isAt s i 42) l, j) else none
    else none
  else none
def varsS (P : Nat → Res) (s : ByteArray) (acc : List VA) (i : Nat) : Option (List VA × Nat) :=
  if isAt s i 125 then (if acc.countP vaDflt = 1 then some (acc, i + 1) else none)
  else match variS P s i with
    | none => none
    | some (v, j) => if h : i < bl s j ∧ bl s j ≤ s.size then varsS P s (acc ++ [v]) (bl s j) else none
termination_by s.size - i
decreasing_by omega
def selS (P : Nat → Res) (s : ByteArray) (i : Nat) : Option (List VA × Nat) := if isAt s (sp s i) 10 then varsS P s [] (bl s (sp s i + 1)) else none
def mayAsk : EX → Bool | .mk k t n a al i v => decide (k = 0 ∨ k = 1 ∨ k = 2 ∨ k = 5) || termAttr (.mk k t n a al i v)
/-- A place, with so many braces yet to go. -/
def placeS (s : ByteArray) : Nat → Nat → Res
  | 0, _ => none
  | r + 1, i =>
    if isAt s i 123 then
      match inlS (placeS s r) s (bl s (i + 1)) with
      | none => none
      | some (e, j) =>
        if isAt s (bl s j) 125 then (if termAttr e then none else some (e, bl s j + 1))
        else if isAt s (bl s j) 45 && isAt s (bl s j + 1) 62 && mayAsk e then
          match selS (placeS s r) s (bl s j + 2) with
          | none => none
          | some (vs, m) => some (.mk 7 E0 E0 E0 [] (some e) vs, m)
        else none
    else none
/-- What is told of a place: if anything, it ends behind it, within the text. -/
def PosOk (s : ByteArray) (P : Nat → Res) : Prop := ∀ i e j, P i = some (e, j) → i < j ∧ j ≤ s.size
end Go.Proofs.YticjinmpanfhkaaGreatDoor

/-
  Package expr: the reader's pass and take.
-/
namespace Go.Proofs.YticjinmpanfhkaaGreatDoor
open Go.RowKit
set_option linter.unusedVariables false
set_option linter.unusedSimpArgs false

/-- A call of it enters it. -/
def Enters (N : FuncId) : Prop := ∀ (args : Array Value) (w : World), (callFunc N args).run Tryz.prog w = .ok (.enter N args) w
/-- It tells a place's end. -/
def EndFn (N : FuncId) (f : ByteArray → Nat → Nat) (s : ByteArray) : Prop := Enters N ∧ ∀ (i : Nat) (w : World), s.size ≤ 4000000 → i ≤ s.size → i ≤ f s i ∧ f s i ≤ s.size ∧ Calls Tryz.prog N #[.string s, .int .i64 (i : Nat)] w fun e w' => e = .returned (.int .i64 (f s i : Nat)) ∧ Below w.heap.size w w'
set_option maxHeartbeats 2000000 in
set_option maxRecDepth 100000 in
theorem pass_any {N : FuncId} {f : ByteArray → Nat → Nat} {rb : Nat} {s : ByteArray} {i : Nat} (hN : EndFn N f s) (w : World) (hr : Rd rb s i w) (hs : s.size ≤ 4000000) (hi : i ≤ s.size) :
    Calls Tryz.prog 49 #[pt rb, .func (.func N) #[] #[]] w fun e w' => e = .returned (.string (s.extract i (f s i))) ∧ Rd rb s (f s i) w' ∧ Kp rb w w' := by
  obtain ⟨hE, hC⟩ := hN
  obtain ⟨h1, h2, _⟩ := hC i w hs hi
  have hC2 := fun W => (hC i W hs hi).2.2
  have HC := Lib.hid hC2
  have c0 := hr.c0
  have c1 := hr.c1
  have f0 := hr.f 0
  have f1 := hr.f 1
  have hlt := hr.lt
  have HR := Lib.hid hr
  obtain ⟨j, hj⟩ : ∃ j, f s i = j := ⟨_, rfl⟩
  rw [hj] at h1 h2 HC ⊢
  have hi0 : (i : Int) ≤ 4000000 := by omega
  have hj0 : (j : Int) ≤ 4000000 := by omega
  have hij : (i : Int) ≤ (j : Int) := by omega
  have hjs : (j : Int) ≤ (s.size : Int) := by omega
  have hss : (s.size : Int) ≤ 4000000 := by omega
  clear hC hC2 hj hr
  unfold Enters at hE
  unfold pt
  go_enter Tryz.func49, Tryz.ntmps49
  go_wp2_with fail
  refine (HC.out _).mono ?_
  rintro e w1 ⟨rfl, hb⟩
  have hR1 := HR.out.later hb
  have d0 := hR1.c0
  have d1 := hR1.c1
  have g0 := hR1.f 0
  have g1 := hR1.f 1
  have hl1 := hR1.lt
  have HR1 := Lib.hid hR1
  have HK := Lib.hid (Kp.of_below hb (Nat.le_of_lt hlt))
  clear hR1 hb
  go_wp2
  go_region
  go_wp2
  go_ret
  exact ⟨rfl, HR1.out.set j, (HK.out.setCell 1 _).drew⟩
end Go.Proofs.YticjinmpanfhkaaGreatDoor
