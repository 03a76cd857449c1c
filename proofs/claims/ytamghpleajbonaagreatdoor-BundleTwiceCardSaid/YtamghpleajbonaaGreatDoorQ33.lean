/-
  Several texts put together (part 33): what the law and the program call, walked; their contracts.
-/
import Derived.Test.YtamghpleajbonaaGreatDoorQ31
import Derived.Test.YtamghpleajbonaaGreatDoorQ32
namespace Go.Proofs.YtamghpleajbonaaGreatDoor
open Go.RowKit Go.Maps
set_option linter.unusedVariables false
theorem add_any {B g o : Nat} (cs : Array Value) (al nv : Value) (n : Nat) (ys : List Value) (seen : List ByteArray) (X : ByteArray) (k : Int) (t nn a : ByteArray) (A1 : Option Addr) (n1 c1 : Nat) (p : Option Addr) (A2 : Option Addr) (n2 c2 : Nat) (w : World)
    (hg : w.heap[g]? = some (.cells cs 189 (0, 0))) (hBg : B ≤ g) (ho : o + 9 ≤ cs.size) (hc4 : cs[o + 4]? = some al) (hc7 : cs[o + 7]? = some nv) {c8 : Value} (hc8 : cs[o + 8]? = some c8) (hal : w.ownsRow B 99 8 al n ys) (hne : al.ownBlock ≠ some g) (hnm : NmOk B w nv seen n) (hn : n ≤ 1000000) (hX : X.size ≤ 1000000) (ho2 : o ≤ 100000000) :
    Calls Tryz.prog 134 #[.pointer (some ⟨g, o, none⟩), arV X k t nn a A1 n1 c1 p A2 n2 c2] w fun e w' =>
      e = .returned (.bool (if emp X = true then decide (seen.length = 0) && !((k == 4) && !emp a) else !memB X seen)) ∧ Below B w w' ∧
      ((if emp X = true then decide (seen.length = 0) && !((k == 4) && !emp a) else !memB X seen) = true → Added B g o cs al nv n ys (if emp X = true then seen else X :: seen) [.string X, .int .i64 k, .string t, .string nn, .string a, .slice A1 n1 c1, .pointer p, .slice A2 n2 c2] w w') := by
  by_cases h : emp X = true
  · rw [if_pos h, if_pos h]
    exact add_empty cs al nv n ys seen X k t nn a A1 n1 c1 p A2 n2 c2 w hg hBg ho hc4 hc7 hc8 hal hne hnm hn hX ho2 h
  · rw [if_neg h, if_neg h]
    exact add_named cs al nv n ys seen X k t nn a A1 n1 c1 p A2 n2 c2 w hg hBg ho hc4 hc7 hc8 hal hne hnm hn hX ho2 (by simpa using h)
end Go.Proofs.YtamghpleajbonaaGreatDoor
