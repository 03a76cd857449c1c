/-
  A number's text is read as that number; what the law's own Parse tells.
-/
import Derived.Test.YtnkijpjknbelfaaDoorPbv
import Derived.Test.YtnkijpjknbelfaaDoorLawParse0w
namespace Go.Proofs.YtnkijpjknbelfaaDoor
open Go.RowKit

theorem body_val {n : Bool} {b : List UInt8} {e : Ending} (h : BodyEnd n b e) : e = .returned (parseVal ((bodyL b).map fun x => (n, x.1, x.2))) := by
  unfold BodyEnd at h
  cases hb : bodyL b with
  | none => rw [hb] at h; exact h
  | some x => obtain ⟨d, k⟩ := x; rw [hb] at h; exact h
theorem ref_val (s : ByteArray) (w : World) (hs : s.size ≤ 100000) :
    Calls Tryd.prog 30 #[.string s] w fun e w' => e = .returned (parseVal (parseL s.data.toList)) ∧ Below w.heap.size w w' := by
  by_cases h : ∃ h : 0 < s.size, (s[0].toNat : Int) = 45
  · obtain ⟨h0, h45⟩ := h
    refine (refParse_neg s w hs h0 h45).mono ?_
    rintro e w' ⟨he, hb⟩
    refine ⟨?_, hb⟩
    rw [body_val he, parseL_body]
    have h0' : s[0] = 45 := UInt8.toNat_inj.mp (by show s[0].toNat = 45; omega)
    have hc := head_cons s h0
    rw [h0'] at hc
    have hp : Lib.hasPrefix s.data.toList [45] = true := by rw [hc]; simp [Lib.hasPrefix, List.isPrefixOf]
    have ht : Lib.trimPrefix s.data.toList [45] = (s.extract 1 s.size).data.toList := by
      unfold Lib.trimPrefix
      rw [hp, if_pos rfl, extract_drop]; rfl
    rw [hp, ht]
  · have hn : s.size = 0 ∨ ∃ h : 0 < s.size, ¬ (s[0].toNat : Int) = 45 := by
      rcases Nat.eq_zero_or_pos s.size with h0 | h0
      · exact Or.inl h0
      · exact Or.inr ⟨h0, fun x => h ⟨h0, x⟩⟩
    refine (refParse_pos s w hs hn).mono ?_
    rintro e w' ⟨he, hb⟩
    refine ⟨?_, hb⟩
    rw [body_val he, parseL_body]
    have hp : Lib.hasPrefix s.data.toList [45] = false := by
      rcases Nat.eq_zero_or_pos s.size with h0 | h0
      · have : s.data.toList = [] := List.eq_nil_of_length_eq_zero (by rw [size_data]; exact h0)
        rw [this]; rfl
      · rw [head_cons s h0]
        have : ((45 : UInt8) == s[0]) = false := by
          rw [beq_eq_false_iff_ne]; intro e; exact h ⟨h0, by rw [← e]; rfl⟩
        simp [Lib.hasPrefix, List.isPrefixOf, this]
    have ht : Lib.trimPrefix s.data.toList [45] = s.data.toList := by
      unfold Lib.trimPrefix
      rw [hp]; rfl
    rw [hp, ht]
end Go.Proofs.YtnkijpjknbelfaaDoor
