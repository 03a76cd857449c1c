/-
  A rune as a string: Go's conversion and the text's own encoder tell the same bytes.
-/
import Derived.Test.YtgjbgfnchlogdaaDoorTMath7
import Derived.Stop.FmtQuoteTie
namespace Go.Proofs.YtgjbgfnchlogdaaDoor
open Go.RowKit

theorem unnums : ∀ l : List UInt8, (l.map fun c => ((c.toNat : Int))).map (fun x => x.toNat.toUInt8) = l
  | [] => rfl
  | c :: l => by
    rw [List.map_cons, List.map_cons, unnums l]
    congr 1
    show (c.toNat : Int).toNat.toUInt8 = c
    rw [Int.toNat_natCast]
    exact UInt8.ofNat_toNat
theorem bytesV_data (l : List UInt8) : (bytesV l).data.toList = l := List.toList_toArray
theorem enc_nums (l : List UInt8) (z : List Int) (h : Go.Extern.FmtText.nums l = z) : z.map (fun x => x.toNat.toUInt8) = l := by
  subst h
  exact unnums l
set_option maxRecDepth 10000 in
theorem enc_bytes (v : Int) (h : 0 ≤ v) : Utf8.encode v = bytesV (Lib.encodeRune v) := by
  obtain ⟨r, rfl⟩ : ∃ r : Nat, v = (r : Int) := ⟨v.toNat, by omega⟩
  apply bytes_eq
  rw [bytesV_data]
  exact (enc_nums _ _ (Go.Extern.FmtText.encode_eq r)).symm
theorem enc_ok (v : Int) (h0 : 0 ≤ v) (h1 : v ≤ 1114111) (h2 : ¬ (55296 ≤ v ∧ v ≤ 57343)) : Utf8.encode v = bytesV (Lib.encodeRune (runeOk v)) := by
  have : runeOk v = v := by
    unfold runeOk Lib.validRune
    rw [if_pos (by simp; omega)]
  rw [this]
  exact enc_bytes v h0
theorem enc_bad (v : Int) (h2 : 1114111 < v ∨ (55296 ≤ v ∧ v ≤ 57343)) : Utf8.encode 65533 = bytesV (Lib.encodeRune (runeOk v)) := by
  have : runeOk v = 65533 := by
    unfold runeOk Lib.validRune
    rw [if_neg (by simp; omega)]
  rw [this]
  exact enc_bytes 65533 (by omega)
theorem enc_len9 (v : Int) : (Lib.encodeRune v).length ≤ 4 := by
  unfold Lib.encodeRune
  rw [List.length_map]
  exact (Lib.encodeRuneZ_length v).2
end Go.Proofs.YtgjbgfnchlogdaaDoor
