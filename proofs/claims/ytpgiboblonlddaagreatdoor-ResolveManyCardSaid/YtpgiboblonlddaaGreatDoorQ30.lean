/-
  Several texts put together (part 30): what the law and the program call, walked; their contracts.
-/
import Derived.Test.YtpgiboblonlddaaGreatDoorQ5
import Derived.Maps.Range
import Derived.Sort.KeysCollected
namespace Go.Proofs.YtpgiboblonlddaaGreatDoor
open Go.RowKit Go.ChangeMaps Go.WideShapes
open Go.WideElems (Fit rd rg rd_mk rg_of)
set_option linter.unusedVariables false
set_option linter.unusedSimpArgs false
def mvE (p : (ByteArray × Value) × Nat) : MapEntry := { key := .string p.1.1, val := p.1.2, born := p.2 }
def mapV (L : List (ByteArray × Value)) : Array MapEntry := (L.zipIdx.map mvE).toArray
def lookI (n : ByteArray) : List (ByteArray × Value) → Nat → Option (Nat × Value)
  | [], _ => none
  | y :: r, j => if y.1 = n then some (j, y.2) else lookI n r (j + 1)
def lookV (n : ByteArray) : List (ByteArray × Value) → Option Value
  | [] => none
  | y :: r => if y.1 = n then some y.2 else lookV n r
theorem lookI_V (n : ByteArray) : ∀ (L : List (ByteArray × Value)) (j : Nat), (lookI n L j).map (·.2) = lookV n L
  | [], j => rfl
  | y :: r, j => by
    rw [lookI, lookV]
    split
    · rfl
    · exact lookI_V n r (j + 1)
theorem find_v (n : ByteArray) : ∀ (L : List (ByteArray × Value)) (j : Nat), Instr.findNow .string (.string n) ((L.zipIdx j).map mvE) j = some (lookI n L j)
  | [], j => rfl
  | y :: L, j => by
    have e0 : Instr.findNow .string (.string n) (((y :: L).zipIdx j).map mvE) j = (match (some (n == y.1) : Option Bool) with | some true => some (some (j, y.2)) | some false => Instr.findNow .string (.string n) ((L.zipIdx (j + 1)).map mvE) (j + 1) | none => none) := by
      rw [List.zipIdx_cons, List.map_cons]
      rfl
    rw [e0, lookI]
    cases hb : (n == y.1) with
    | true => rw [if_pos (beqT.1 hb).symm]
    | false =>
      rw [if_neg (fun h => by rw [beqT.2 h.symm] at hb; cases hb)]
      exact find_v n L (j + 1)
theorem find_map (n : ByteArray) (L : List (ByteArray × Value)) : Instr.findNow .string (.string n) (mapV L).toList 0 = some (lookI n L 0) := find_v n L 0
end Go.Proofs.YtpgiboblonlddaaGreatDoor
