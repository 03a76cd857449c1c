/-
  Package script: the law's Bytes.
-/
import Derived.Test.YtnkijpjknbelfaaDoorSxf
namespace Go.Proofs.YtnkijpjknbelfaaDoor
open Go.RowKit
set_option linter.unusedVariables false
set_option linter.unusedSimpArgs false

theorem bytes0_eq (tag by_ nm at_ : ByteArray) (ov : Bool) (wi : List ByteArray) (ar : List SA) : ((tS ⟨#[97]⟩ ++ tS tag) ++ tS ⟨#[if ov then 49 else 48]⟩) ++ tS by_ = mkS (encS ⟨0, tag, by_, ov, wi, nm, at_, ar⟩) := by
  refine bytes_eq ?_
  unfold encS textsS tS mkS
  simp
theorem encS1_eq (tag by_ nm at_ : ByteArray) (ov : Bool) (wi : List ByteArray) (ar : List SA) : encS ⟨1, tag, by_, ov, wi, nm, at_, ar⟩ = encT [99] ++ (encT tag.data.toList ++ (encT (Lib.decDigits wi.length) ++ encX wi)) := by
  unfold encS textsS
  rw [if_neg (by dsimp only; decide), if_pos (by rfl)]
  simp only [List.flatMap_cons, flat_map]
  rfl
theorem encS2_eq (tag by_ nm at_ : ByteArray) (ov : Bool) (wi : List ByteArray) (ar : List SA) : encS ⟨2, tag, by_, ov, wi, nm, at_, ar⟩ = encT [113] ++ (encT nm.data.toList ++ (encT at_.data.toList ++ (encT (Lib.decDigits ar.length) ++ encY ar))) := by
  unfold encS textsS
  rw [if_neg (by dsimp only; decide), if_neg (by dsimp only; decide)]
  simp only [List.flatMap_cons, flat_args]
  rfl
theorem lbytes_any (x : ST) (A1 A2 : Option Addr) (c1 c2 : Nat) (w : World) (hE : Env w) (hin : StF w (Old w) x A1 A2) (hv : ValS x) (hl : (encS x).length ≤ 1000000) :
    Calls Tryd.prog 13 #[.agg (stA x A1 c1 A2 c2)] w fun e w' => e = .returned (.string (mkS (encS x))) ∧ Below w.heap.size w w' := by
  obtain ⟨k, tag, by_, ov, wi, nm, at_, ar⟩ := x
  obtain ⟨h1, h2⟩ := hin
  unfold stA
  unfold ValS at hv
  dsimp only at *
  rcases hv with ⟨rfl, -, -, -, -, v1, v2⟩ | ⟨rfl, -, -, -, -, -, v1, v2, v3⟩ | ⟨rfl, -, -, -, -, v1, v2, v3, v4⟩
  · rw [← bytes0_eq]
    cases ov
    · exact lbytes_0f tag by_ nm at_ A1 A2 wi.length c1 ar.length c2 w hE (by omega) (by omega)
    · exact lbytes_0t tag by_ nm at_ A1 A2 wi.length c1 ar.length c2 w hE (by omega) (by omega)
  · rw [encS1_eq] at hl ⊢
    simp only [List.length_append] at hl
    have := lbytes_1 tag by_ nm at_ ov A1 A2 wi c1 ar.length c2 w hE h1 (by omega) (by omega) (fun x hx => by have := v3 x hx; omega) (by omega)
    rw [show ((tS ⟨#[99]⟩ ++ tS tag) ++ tS (mkS (Lib.decDigits wi.length))) ++ mkS (encX wi) = mkS (encT [99] ++ (encT tag.data.toList ++ (encT (Lib.decDigits wi.length) ++ encX wi))) from bytes_eq (by simp [tS, mkS])] at this
    exact this
  · rw [encS2_eq] at hl ⊢
    simp only [List.length_append] at hl
    have := lbytes_2 tag by_ nm at_ ov A1 A2 ar wi.length c1 c2 w hE h2 (by omega) (by omega) (by omega) (fun a ha => by obtain ⟨u1, u2, u3⟩ := v4 a ha; exact ⟨by omega, by omega, by omega⟩) (by omega)
    rw [show (((tS ⟨#[113]⟩ ++ tS nm) ++ tS at_) ++ tS (mkS (Lib.decDigits ar.length))) ++ mkS (encY ar) = mkS (encT [113] ++ (encT nm.data.toList ++ (encT at_.data.toList ++ (encT (Lib.decDigits ar.length) ++ encY ar)))) from bytes_eq (by simp [tS, mkS])] at this
    exact this
end Go.Proofs.YtnkijpjknbelfaaDoor
