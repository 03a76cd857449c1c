/-
  Several texts put together (part 8): what the law and the program call, walked; their contracts.
-/
import Derived.Test.YtpgiboblonlddaaGreatDoorQ5
import Derived.Test.YtpgiboblonlddaaGreatDoorQ4
import Derived.Test.YtpgiboblonlddaaGreatDoorQ7
import Derived.Test.YtpgiboblonlddaaGreatDoorQ6
namespace Go.Proofs.YtpgiboblonlddaaGreatDoor
open Go.RowKit
set_option linter.unusedVariables false
def mkB (l : List UInt8) : ByteArray := ⟨l.toArray⟩
def isAt (s : ByteArray) (i : Nat) (c : UInt8) : Bool := decide (i < s.size) && (at0 s.data.toList i == c)
theorem isAt_lt {s : ByteArray} {i : Nat} {c : UInt8} (h : isAt s i c = true) : i < s.size := by
  unfold isAt at h
  rw [Bool.and_eq_true, decide_eq_true_iff] at h
  exact h.1
def bl (s : ByteArray) (i : Nat) : Nat := behN blB s.data.toList i
def sp (s : ByteArray) (i : Nat) : Nat := behN spB s.data.toList i
def nm (s : ByteArray) (i : Nat) : Nat := if i < s.size ∧ leB (at0 s.data.toList i) = true then behN naB s.data.toList i else i
def nu (s : ByteArray) (i : Nat) : Nat := numN s.data.toList i
theorem bl_ge (s : ByteArray) (i : Nat) : i ≤ bl s i := behN_ge _ _ _
theorem sp_ge (s : ByteArray) (i : Nat) : i ≤ sp s i := behN_ge _ _ _
def E0 : ByteArray := ⟨#[]⟩
abbrev Res := Option (EX × Nat)
def quoS (s : ByteArray) (i : Nat) : Res := match unqAll (s.extract i s.size) with
  | some (t, n) => some (.mk 0 (mkB t) E0 E0 [] none [], i + n)
  | none => none
def varS (s : ByteArray) (i : Nat) : Res := if isAt s i 36 && decide (i + 1 < nm s (i + 1)) then some (.mk 2 E0 (s.extract (i + 1) (nm s (i + 1))) E0 [] none [], nm s (i + 1)) else none
def nestS (P : Nat → Res) (i : Nat) : Res := match P i with
  | some (e, j) => some (.mk 6 E0 E0 E0 [] (some e) [], j)
  | none => none
def refS (k : Int) (s : ByteArray) (i : Nat) : Res :=
  if nm s i = i then none
  else if isAt s (nm s i) 46 then
    (if nm s (nm s i + 1) = nm s i + 1 then none else some (.mk k E0 (s.extract i (nm s i)) (s.extract (nm s i + 1) (nm s (nm s i + 1))) [] none [], nm s (nm s i + 1)))
  else some (.mk k E0 (s.extract i (nm s i)) E0 [] none [], nm s i)
def terS (s : ByteArray) (i : Nat) : Res := if isAt s i 45 then refS 4 s (i + 1) else none
def nubS (s : ByteArray) (i : Nat) : Res := if nu s i = i then none else some (.mk 1 (s.extract i (nu s i)) E0 E0 [] none [], nu s i)
def headS (P : Nat → Res) (s : ByteArray) (i : Nat) : Res := (quoS s i).or ((varS s i).or ((nestS P i).or ((terS s i).or ((refS 3 s i).or (nubS s i)))))
def isFuncS : EX → Bool | .mk k _ n a _ _ _ => (k == 3) && emp a && bigV n
def isTermS : EX → Bool | .mk k _ _ _ _ _ _ => k == 4
def termAttr : EX → Bool | .mk k _ _ a _ _ _ => (k == 4) && !emp a
def opnE : EX → EX | .mk k t n a al i v => .mk (if k = 3 then 5 else k) t n a al i v
def withArgs : EX → List AR → EX | .mk k t n a _ i v, xs => .mk k t n a xs i v
def opnS (s : ByteArray) (e : EX) (i : Nat) : Bool × Nat :=
  if isFuncS e || isTermS e then (if isAt s (bl s i) 40 then (true, bl s i + 1) else (false, bl s i)) else (false, i)
def namS (s : ByteArray) (i : Nat) : Option (ByteArray × EX × Nat) :=
  if nm s i = i then none
  else if isAt s (bl s (nm s i)) 58 then
    (match (quoS s (bl s (bl s (nm s i) + 1))).or (nubS s (bl s (bl s (nm s i) + 1))) with
     | some (e, q) => some (s.extract i (nm s i), e, q)
     | none => none)
  else none
def argS (P : Nat → Res) (s : ByteArray) (i : Nat) : Option (ByteArray × EX × Nat) := match namS s i with
  | some x => some x
  | none => match headS P s i with
    | some (e, j) => some (E0, e, j)
    | none => none
def addOk (xs : List AR) (n : ByteArray) (e : EX) : Bool := if emp n then xs.all (fun x => emp (arName x)) && !termAttr e else !(xs.any fun x => decide (arName x = n))
def argsS (P : Nat → Res) (s : ByteArray) (xs : List AR) (want : Bool) (i : Nat) : Option (List AR × Nat) :=
  if isAt s (bl s i) 41 then some (xs, bl s i + 1)
  else if want then
    if h : isAt s (bl s i) 44 = true then argsS P s xs false (bl s i + 1) else none
  else match argS P s (bl s i) with
    | none => none
    | some (n, e, j) =>
      if emp n && (opnS s e j).1 then
        if h : i < (opnS s e j).2 ∧ (opnS s e j).2 ≤ s.size then
          match argsS P s [] false (opnS s e j).2 with
          | none => none
          | some (xs', m) =>
            if h2 : i < m ∧ m ≤ s.size then
              if addOk xs E0 (withArgs (opnE e) xs') then argsS P s (xs ++ [.mk E0 (withArgs (opnE e) xs')]) true m else none
            else none
        else none
      else if h : i < (if emp n then (opnS s e j).2 else j) ∧ (if emp n then (opnS s e j).2 else j) ≤ s.size then
        if addOk xs n e then argsS P s (xs ++ [.mk n e]) true (if emp n then (opnS s e j).2 else j) else none
      else none
termination_by s.size - i
decreasing_by
  · have := bl_ge s i; have := isAt_lt h; omega
  · omega
  · omega
  · omega
def inlS (P : Nat → Res) (s : ByteArray) (i : Nat) : Res := match headS P s i with
  | none => none
  | some (e, j) =>
    if (opnS s e j).1 then
      match argsS P s [] false (opnS s e j).2 with
      | none => none
      | some (xs, m) => some (withArgs (opnE e) xs, m)
    else some (e, (opnS s e j).2)
def txB (c : UInt8) : Bool := !(c == 10 || c == 123 || c == 125)
def tx (s : ByteArray) (i : Nat) : Nat := behN txB s.data.toList i
def addT (s : ByteArray) (acc : List EL) (i j : Nat) : List EL := if i < j then acc ++ [.mk (s.extract i j) none] else acc
def partsS (P : Nat → Res) (s : ByteArray) (acc : List EL) (i : Nat) : Option (List EL × Nat) :=
  if isAt s (tx s i) 123 then
    match P (tx s i) with
    | none => none
    | some (e, j) => if h : i < j ∧ j ≤ s.size then partsS P s (addT s acc i (tx s i) ++ [.mk E0 (some e)]) j else none
  else some (addT s acc i (tx s i), tx s i)
termination_by s.size - i
decreasing_by omega
def nlS (s : ByteArray) (f fr i : Nat) : Nat × Nat × Nat := if h : isAt s i 10 = true then nlS s (f + 1) (i + 1) (sp s (i + 1)) else (f, fr, i)
termination_by s.size - i
decreasing_by have := sp_ge s (i + 1); have := isAt_lt h; omega
def stopB (c : UInt8) : Bool := c == 46 || c == 42 || c == 91 || c == 125
def nextS (s : ByteArray) (i : Nat) : Option (Nat × Nat × Nat) :=
  if (nlS s 0 i i).2.2 = (nlS s 0 i i).2.1 ∨ (nlS s 0 i i).2.2 = s.size ∨ stopB (at0 s.data.toList (nlS s 0 i i).2.2) = true then none
  else some ((nlS s 0 i i).1, (nlS s 0 i i).2.2 - (nlS s 0 i i).2.1, (nlS s 0 i i).2.2)
structure LN where
  feeds : Nat
  spaces : Nat
  parts : List EL
def linesS (P : Nat → Res) (s : ByteArray) (acc : List LN) (f p : Nat) (i : Nat) : Option (List LN × Nat) :=
  match partsS P s [] i with
  | none => none
  | some (ps, j) => match nextS s j with
    | none => some (acc ++ [⟨f, p, ps⟩], j)
    | some (f', p', k) => if h : i < k ∧ k ≤ s.size then linesS P s (acc ++ [⟨f, p, ps⟩]) f' p' k else none
termination_by s.size - i
decreasing_by omega
def leastS : List LN → Nat
  | [] => 0
  | x :: r => r.foldl (fun m y => if y.spaces < m then y.spaces else m) x.spaces
abbrev JS := List EL × List UInt8
def endS (b : JS) : List EL := if b.2 = [] then b.1 else b.1 ++ [.mk (mkB b.2) none]
def partJ (b : JS) : EL → JS
  | .mk t none => (b.1, b.2 ++ t.data.toList)
  | .mk t (some e) => (endS b ++ [.mk t (some e)], [])
def headJ (least : Nat) (b : JS) (x : LN) : JS := if b.1 = [] ∧ b.2 = [] then b else (b.1, b.2 ++ List.replicate x.feeds 10 ++ List.replicate (x.spaces - least) 32)
def lineJ (least : Nat) (b : JS) (x : LN) : JS := x.parts.foldl partJ (headJ least b x)
def trimR (l : List UInt8) : List UInt8 := (l.reverse.dropWhile (· == 32)).reverse
def joinS (ls : List LN) : List EL :=
  endS (let b := ls.foldl (lineJ (leastS ls.tail)) ([], []); (b.1, trimR b.2))
def patS (P : Nat → Res) (s : ByteArray) (i : Nat) : Option (List EL × Nat) := match linesS P s [] 0 0 (sp s i) with
  | none => none
  | some (ls, j) => some (joinS ls, j)
def keyE (s : ByteArray) (a : Nat) : Nat := if nm s a = a then nu s a else nm s a
def variS (P : Nat → Res) (s : ByteArray) (i : Nat) : Option (VA × Nat) :=
  if isAt s (if isAt s i 42 then i + 1 else i) 91 then
    if keyE s (bl s ((if isAt s i 42 then i + 1 else i) + 1)) = bl s ((if isAt s i 42 then i + 1 else i) + 1) then none
    else if isAt s (bl s (keyE s (bl s ((if isAt s i 42 then i + 1 else i) + 1)))) 93 then
      match patS P s (bl s (keyE s (bl s ((if isAt s i 42 then i + 1 else i) + 1))) + 1) with
      | none => none
      | some (l, j) => if isAt s j 10 && !l.isEmpty then some (.mk (s.extract (bl s ((if isAt s i 42 then i + 1 else i) + 1)) (keyE s (bl s ((if isAt s i 42 then i + 1 else i) + 1)))) (isAt s i 42) l, j) else none
    else none
  else none
def varsS (P : Nat → Res) (s : ByteArray) (acc : List VA) (i : Nat) : Option (List VA × Nat) :=
  if isAt s i 125 then (if acc.countP vaDflt = 1 then some (acc, i + 1) else none)
  else match variS P s i with
    | none => none
    | some (v, j) => if h : i < bl s j ∧ bl s j ≤ s.size then varsS P s (acc ++ [v]) (bl s j) else none
termination_by s.size - i
decreasing_by omega
def selS (P : Nat → Res) (s : ByteArray) (i : Nat) : Option (List VA × Nat) := if isAt s (sp s i) 10 then varsS P s [] (bl s (sp s i + 1)) else none
def mayAsk : EX → Bool | .mk k t n a al i v => decide (k = 0 ∨ k = 1 ∨ k = 2 ∨ k = 5) || termAttr (.mk k t n a al i v)
def placeS (s : ByteArray) : Nat → Nat → Res
  | 0, _ => none
  | r + 1, i =>
    if isAt s i 123 then
      match inlS (placeS s r) s (bl s (i + 1)) with
      | none => none
      | some (e, j) =>
        if isAt s (bl s j) 125 then (if termAttr e then none else some (e, bl s j + 1))
        else if isAt s (bl s j) 45 && isAt s (bl s j + 1) 62 && mayAsk e then
          match selS (placeS s r) s (bl s j + 2) with
          | none => none
          | some (vs, m) => some (.mk 7 E0 E0 E0 [] (some e) vs, m)
        else none
    else none
def PosOk (s : ByteArray) (P : Nat → Res) : Prop := ∀ i e j, P i = some (e, j) → i < j ∧ j ≤ s.size
end Go.Proofs.YtpgiboblonlddaaGreatDoor

namespace Go.Proofs.YtpgiboblonlddaaGreatDoor
open Go.RowKit Go.ChangeMaps
set_option linter.unusedVariables false
set_option linter.unusedSimpArgs false
set_option maxHeartbeats 2000000 in
set_option maxRecDepth 100000 in
theorem copied_nil (l sc rg : ByteArray) (w : World) :
    Calls Tryz.prog 39 #[.agg #[.string l, .string sc, .string rg, .slice none 0 0]] w fun e w' => e = .returned (.agg #[.string l, .string sc, .string rg, .slice none 0 0]) ∧ Below w.heap.size w w' := by
  go_enter Tryz.func39, Tryz.ntmps39
  go_wp2_with (go_at_call 65; refine (Tryz.slices_Clone_string_nil _ _ _).mono ?_; rintro e w2 ⟨rfl, rfl⟩)
  exact bodyPost_ret (v := .agg #[.string l, .string sc, .string rg, .slice none 0 0]) (by simp [results, Tryz.results39, go_sem]) rfl ⟨rfl, ((Below.refl _ _).alloc (Nat.le_refl _) _).alloc (by simp) _⟩
def bunC (l sc rg : ByteArray) (m t : Value) : Array Value := #[.string l, .string sc, .string rg, .slice none 0 0, m, t]
set_option maxHeartbeats 2000000 in
set_option maxRecDepth 100000 in
theorem new_any (l sc rg : ByteArray) (w : World) :
    Calls Tryz.prog 20 #[.agg #[.string l, .string sc, .string rg, .slice none 0 0]] w fun e w' => ∃ b, e = .returned (.pointer (some ⟨b, 0, none⟩)) ∧ w.heap.size ≤ b ∧ BoxAt w' b (bunC l sc rg (.map none) (.map none)) 115 ∧ Below w.heap.size w w' := by
  have hc := fun W => copied_nil l sc rg W
  go_enter Tryz.func20, Tryz.ntmps20
  go_wp2_with (go_at_call 39; refine (hc _).mono ?_; rintro e w2 ⟨rfl, hb2⟩)
  have hb3 := below_box hb2
  go_ret
  exact ⟨w2.heap.size, rfl, hb3.size, BoxAt.new _ _ _, below_new hb3 (Nat.le_refl _) _⟩
theorem map_nil (w : World) : (binOp .eql 113 (.map none) (.map none)).run Tryz.prog w = .ok (.bool true) w := by kernel_rfl
theorem map_some (b : Nat) (w : World) : (binOp .eql 113 (.map (some b)) (.map none)).run Tryz.prog w = .ok (.bool false) w := by kernel_rfl
theorem MapAt.kp {rb : Nat} {W W' : World} {b c : Nat} {es : Array MapEntry} (h : MapAt W b es c) (g : Kp rb W W') (hk : b ≠ rb) : MapAt W' b es c := (g.others b h.lt hk).trans h
theorem box_cells6 {w : World} {b : Nat} {l sc rg : ByteArray} {m t : Value} (h : BoxAt w b (bunC l sc rg m t) 115) (m' t' : Value) :
    BoxAt ((w.setCell ⟨b, 4, none⟩ m').setCell ⟨b, 5, none⟩ t') b (bunC l sc rg m' t') 115 := by
  unfold BoxAt bunC at h ⊢
  simp [World.setCell, Array.getElem?_modify, h]
set_option maxHeartbeats 2000000 in
set_option maxRecDepth 100000 in
theorem makeMaps_new (b : Nat) (l sc rg : ByteArray) (w : World) (h : BoxAt w b (bunC l sc rg (.map none) (.map none)) 115) :
    Calls Tryz.prog 40 #[.pointer (some ⟨b, 0, none⟩)] w fun e w' => e = .returned (.tuple #[]) ∧ BoxAt w' b (bunC l sc rg (.map (some w.heap.size)) (.map (some (w.heap.size + 1)))) 115 ∧ MapAt w' w.heap.size #[] 0 ∧ MapAt w' (w.heap.size + 1) #[] 0 ∧ Kp b w w' := by
  have c4 : w.cell? ⟨b, 4, none⟩ = some (.map none) := h.cell 4
  have z4 : w.frozen? ⟨b, 4, none⟩ = false := Lib.frozen_of_heap h 4
  have z5 : w.frozen? ⟨b, 5, none⟩ = false := Lib.frozen_of_heap h 5
  have c5 : w.cell? ⟨b, 5, none⟩ = some (.map none) := h.cell 5
  have hl := h.lt
  have H := Lib.hid h
  have hq := map_nil
  have hmk := fun W => run_makeMap (P := Tryz.prog) 113 W
  clear h
  go_enter Tryz.func40, Tryz.ntmps40
  go_wp2
  go_end0
  have K2 := Lib.hid (((Kp.refl b w).setCell 4 (.map (some w.heap.size))).setCell 5 (.map (some (w.heap.size + 1))))
  have X2 := Lib.hid (box_cells6 H.out (.map (some w.heap.size)) (.map (some (w.heap.size + 1))))
  refine ⟨rfl, (X2.out.alloc _).alloc _, (MapAt.new _ _ _ _ (by simp)).alloc _, MapAt.new _ _ _ _ (by simp), (K2.out.alloc (by simp; omega) _).alloc (by simp; omega) _⟩
theorem enInfo : (Tryz.prog.info? 89).map (fun i => (i.zero, i.size)) = some (some (.agg #[.int .i64 0, .int .i64 0, .string ⟨#[]⟩, .string ⟨#[]⟩, .slice none 0 0, .slice none 0 0, .int .i64 0, .int .i64 0]), 8) := by kernel_rfl
theorem enZero (w : World) : (zeroValue 89).run Tryz.prog w = .ok (.agg #[.int .i64 0, .int .i64 0, .string ⟨#[]⟩, .string ⟨#[]⟩, .slice none 0 0, .slice none 0 0, .int .i64 0, .int .i64 0]) w := (zero_of_info enInfo).1 w
theorem kp_setBlock {W : World} {b : Nat} (o : Obj) : Kp b W (setBlock W b o) := by
  have hh : ∀ k, k ≠ b → (setBlock W b o).heap[k]? = W.heap[k]? := fun k hk => by
    show (W.heap.setIfInBounds b o)[k]? = _
    rw [Array.getElem?_setIfInBounds_ne (fun e => hk e.symm)]
  exact ⟨⟨rfl, rfl, rfl, by simp [setBlock], fun k hk => hh k (by omega)⟩, fun k hk hn => hh k hn⟩
abbrev zEnB : Array Value := #[.int .i64 0, .int .i64 0, .string ⟨#[]⟩, .string ⟨#[]⟩, .slice none 0 0, .slice none 0 0, .int .i64 0, .int .i64 0]
set_option maxHeartbeats 2000000 in
set_option maxRecDepth 100000 in
theorem put_new (mb c : Nat) (es : Array MapEntry) (nm : ByteArray) (x0 x1 x2 x4 x5 x6 x7 : Value) (over : Bool) (w : World) (hm : MapAt w mb es c) (hn : Instr.findNow .string (.string nm) es.toList 0 = some none) :
    Calls Tryz.prog 43 #[.map (some mb), .agg #[x0, x1, x2, .string nm, x4, x5, x6, x7], .bool over] w fun e w' => e = .returned (.bool false) ∧ MapAt w' mb (es.push { key := .string nm, val := .agg #[x0, x1, x2, .string nm, x4, x5, x6, x7], born := c }) (c + 1) ∧ Kp mb w w' := by
  have hL := fun (W : World) (h : W.heap[mb]? = some (.map es c)) => run_look (t := 113) Tryz.underlying113 Tryz.underlying9 W (enZero W) mb es c h nm none hn
  have hl := hm.lt
  have c1 : (w.alloc (.cells #[x0, x1, x2, .string nm, x4, x5, x6, x7] 89)).heap[mb]? = some (.map es c) := hm.alloc _
  have hL1 := hL _ c1
  have hU1 := run_put_new (t := 113) Tryz.underlying113 Tryz.underlying9 ((w.alloc (.cells #[x0, x1, x2, .string nm, x4, x5, x6, x7] 89)).alloc (.cells zEnB 89)) mb es c ((hm.alloc _).alloc _) nm (.agg #[x0, x1, x2, .string nm, x4, x5, x6, x7]) hn
  have HM := Lib.hid ((hm.alloc (.cells #[x0, x1, x2, .string nm, x4, x5, x6, x7] 89)).alloc (.cells zEnB 89))
  clear hL hm hn
  go_enter Tryz.func43, Tryz.ntmps43
  go_wp2
  go_ret
  exact ⟨rfl, HM.out.set _ _, ((Kp.refl mb w).alloc (Nat.le_of_lt hl) _).alloc (by simp; omega) _ |>.trans (kp_setBlock _)⟩
end Go.Proofs.YtpgiboblonlddaaGreatDoor

namespace Go.Proofs.YtpgiboblonlddaaGreatDoor
open Go.RowKit Go.ChangeMaps
set_option linter.unusedVariables false
set_option linter.unusedSimpArgs false
set_option maxHeartbeats 2000000 in
set_option maxRecDepth 100000 in
theorem put_kept (mb c i : Nat) (es : Array MapEntry) (nm : ByteArray) (x0 x1 x2 x4 x5 x6 x7 : Value) (ty lv fr tu : Int) (tx yn : ByteArray) (A1 A2 : Option Addr) (n1 c1 n2 c2 : Nat) (w : World) (hm : MapAt w mb es c) (hn : Instr.findNow .string (.string nm) es.toList 0 = some (some (i, .agg #[.int .i64 ty, .int .i64 lv, .string tx, .string yn, .slice A1 n1 c1, .slice A2 n2 c2, .int .i64 fr, .int .i64 tu]))) :
    Calls Tryz.prog 43 #[.map (some mb), .agg #[x0, x1, x2, .string nm, x4, x5, x6, x7], .bool false] w fun e w' => e = .returned (.bool true) ∧ MapAt w' mb es c ∧ Below w.heap.size w w' := by
  have k1 : (w.alloc (.cells #[x0, x1, x2, .string nm, x4, x5, x6, x7] 89)).heap[mb]? = some (.map es c) := hm.alloc _
  have hL1 := run_look (t := 113) Tryz.underlying113 Tryz.underlying9 _ (enZero _) mb es c k1 nm _ hn
  have HM := Lib.hid ((hm.alloc (.cells #[x0, x1, x2, .string nm, x4, x5, x6, x7] 89)).alloc (.cells #[.int .i64 ty, .int .i64 lv, .string tx, .string yn, .slice A1 n1 c1, .slice A2 n2 c2, .int .i64 fr, .int .i64 tu] 89))
  clear hm hn
  go_enter Tryz.func43, Tryz.ntmps43
  go_wp2
  go_ret
  exact ⟨rfl, HM.out, ((Below.refl _ _).alloc (Nat.le_refl _) _).alloc (by simp) _⟩
set_option maxHeartbeats 2000000 in
set_option maxRecDepth 100000 in
theorem put_over (mb c i : Nat) (es : Array MapEntry) (nm : ByteArray) (x0 x1 x2 x4 x5 x6 x7 : Value) (ty lv fr tu : Int) (tx yn : ByteArray) (A1 A2 : Option Addr) (n1 c1 n2 c2 : Nat) (x : MapEntry) (w : World) (hm : MapAt w mb es c) (hn : Instr.findNow .string (.string nm) es.toList 0 = some (some (i, .agg #[.int .i64 ty, .int .i64 lv, .string tx, .string yn, .slice A1 n1 c1, .slice A2 n2 c2, .int .i64 fr, .int .i64 tu]))) (hi : es[i]? = some x) (hx : x.key = .string nm) :
    Calls Tryz.prog 43 #[.map (some mb), .agg #[x0, x1, x2, .string nm, x4, x5, x6, x7], .bool true] w fun e w' => e = .returned (.bool true) ∧ MapAt w' mb (es.modify i fun y => { y with key := .string nm, val := .agg #[x0, x1, x2, .string nm, x4, x5, x6, x7] }) c ∧ Kp mb w w' := by
  have hl := hm.lt
  have k1 : (w.alloc (.cells #[x0, x1, x2, .string nm, x4, x5, x6, x7] 89)).heap[mb]? = some (.map es c) := hm.alloc _
  have hL1 := run_look (t := 113) Tryz.underlying113 Tryz.underlying9 _ (enZero _) mb es c k1 nm _ hn
  have hU1 := run_put_old (t := 113) Tryz.underlying113 Tryz.underlying9 ((w.alloc (.cells #[x0, x1, x2, .string nm, x4, x5, x6, x7] 89)).alloc (.cells #[.int .i64 ty, .int .i64 lv, .string tx, .string yn, .slice A1 n1 c1, .slice A2 n2 c2, .int .i64 fr, .int .i64 tu] 89)) mb es c ((hm.alloc _).alloc _) nm (.agg #[x0, x1, x2, .string nm, x4, x5, x6, x7]) i _ x hn hi hx
  have HM := Lib.hid ((hm.alloc (.cells #[x0, x1, x2, .string nm, x4, x5, x6, x7] 89)).alloc (.cells #[.int .i64 ty, .int .i64 lv, .string tx, .string yn, .slice A1 n1 c1, .slice A2 n2 c2, .int .i64 fr, .int .i64 tu] 89))
  clear hm hn hi hx
  go_enter Tryz.func43, Tryz.ntmps43
  go_wp2
  go_ret
  exact ⟨rfl, HM.out.set _ _, ((Kp.refl mb w).alloc (Nat.le_of_lt hl) _).alloc (by simp; omega) _ |>.trans (kp_setBlock _)⟩
set_option maxHeartbeats 2000000 in
set_option maxRecDepth 100000 in
theorem message_any (b mb c : Nat) (es : Array MapEntry) (l sc rg nm : ByteArray) (t : Value) (r : Option (Nat × Value)) (ty lv fr tu : Int) (tx yn : ByteArray) (A1 A2 : Option Addr) (n1 c1 n2 c2 : Nat) (w : World) (hb : BoxAt w b (bunC l sc rg (.map (some mb)) t) 115) (hm : MapAt w mb es c)
    (hn : Instr.findNow .string (.string nm) es.toList 0 = some r) (hr : (r.map (·.2)).getD (.agg zEnB) = .agg #[.int .i64 ty, .int .i64 lv, .string tx, .string yn, .slice A1 n1 c1, .slice A2 n2 c2, .int .i64 fr, .int .i64 tu]) :
    Calls Tryz.prog 22 #[.pointer (some ⟨b, 0, none⟩), .string nm] w fun e w' => e = .returned (.tuple #[.agg #[.int .i64 ty, .int .i64 lv, .string tx, .string yn, .slice A1 n1 c1, .slice A2 n2 c2, .int .i64 fr, .int .i64 tu], .bool r.isSome]) ∧ Below w.heap.size w w' := by
  have c4 : w.cell? ⟨b, 4, none⟩ = some (.map (some mb)) := hb.cell 4
  have hl := hb.lt
  have k1 : (w.alloc (.cells zEnB 89)).heap[mb]? = some (.map es c) := hm.alloc _
  have hL1 := run_look (t := 113) Tryz.underlying113 Tryz.underlying9 _ (enZero _) mb es c k1 nm _ hn
  rw [hr] at hL1
  clear hm hn hr hb
  go_enter Tryz.func22, Tryz.ntmps22
  go_wp2
  exact bodyPost_ret (v := .tuple #[.agg #[.int .i64 ty, .int .i64 lv, .string tx, .string yn, .slice A1 n1 c1, .slice A2 n2 c2, .int .i64 fr, .int .i64 tu], .bool r.isSome]) (by simp [results, Tryz.results22, go_sem]) rfl ⟨rfl, ((Below.refl _ _).alloc (Nat.le_refl _) _).alloc (by simp) _⟩
end Go.Proofs.YtpgiboblonlddaaGreatDoor
