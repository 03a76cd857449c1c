/-
  A number's text is read as that number; what the law's own Parse tells.
-/
import Derived.Test.YtglennfjeacpoaaGreatDoorA3
import Derived.Test.YtglennfjeacpoaaGreatDoorA3m
import Derived.Test.YtglennfjeacpoaaGreatDoorLawParse0
namespace Go.Proofs.YtglennfjeacpoaaGreatDoor
open Go.RowKit

theorem strip_all {k : Nat} : ∀ {l : List UInt8}, l.all digB = true → (stripL k l).all digB = true
  | [], _ => rfl
  | c :: l, h => by
    rw [stripL]
    split
    · rw [List.all_cons, Bool.and_eq_true] at h
      exact strip_all h.2
    · exact h
theorem strip_length {k : Nat} : ∀ {l : List UInt8}, (stripL k l).length ≤ l.length ∧ (k ≤ l.length → k ≤ (stripL k l).length)
  | [] => ⟨Nat.le_refl _, fun h => h⟩
  | c :: l => by
    have ih := strip_length (k := k) (l := l)
    rw [stripL]
    split
    · rename_i h
      exact ⟨by simp only [List.length_cons]; omega, fun _ => ih.2 (by omega)⟩
    · exact ⟨Nat.le_refl _, fun h => h⟩
theorem strip_head {k : Nat} : ∀ {l : List UInt8}, k ≤ l.length → (stripL k l).length = k ∨ (stripL k l).head? ≠ some 48
  | [], h => Or.inl (by rw [stripL]; have : k = 0 := by simpa using h
                        rw [this]; rfl)
  | c :: l, h => by
    rw [stripL]
    split
    · rename_i h'
      exact strip_head (by omega)
    · rename_i h'
      by_cases hc : c = 48
      · refine Or.inl ?_
        have : ¬ k < l.length + 1 := fun x => h' ⟨x, hc⟩
        simp only [List.length_cons] at h ⊢
        omega
      · exact Or.inr (by rw [List.head?_cons]; intro e; exact hc (Option.some.inj e))
theorem strip_same {k : Nat} {l : List UInt8} (h : l.length ≤ k ∨ l.head? ≠ some 48) : stripL k l = l := by
  cases l with
  | nil => rfl
  | cons c l =>
    rw [stripL, if_neg]
    rintro ⟨h1, rfl⟩
    rcases h with h | h
    · simp only [List.length_cons] at h; omega
    · exact h rfl

/-- Such digits, of which k stand behind the point, as a text tells. -/
structure Told (d : List UInt8) (k : Nat) : Prop where
  digs : d.all digB = true
  le : d.length ≤ 40
  lt : k < d.length
  head : d.length = k + 1 ∨ d.head? ≠ some 48
theorem told_of_strip {l : List UInt8} {k : Nat} (h : l.all digB = true) (h40 : l.length ≤ 40) (hk : k < l.length) : Told (stripL (k + 1) l) k :=
  ⟨strip_all h, Nat.le_trans strip_length.1 h40, strip_length.2 hk, strip_head hk⟩
theorem digsB_parts {l : List UInt8} (h : digsB l = true) : l.all digB = true ∧ l ≠ [] := by
  unfold digsB at h
  rw [Bool.and_eq_true] at h
  refine ⟨h.1, ?_⟩
  intro e
  rw [e] at h
  exact absurd h.2 (by decide)
theorem cut_second (l : List UInt8) (p : List UInt8) (h : (Lib.cut l p).2.2 = false) : (Lib.cut l p).2.1 = [] := by
  unfold Lib.cut at h ⊢
  split at h
  · cases h
  · rename_i h'; rw [if_neg h']
theorem told_of_body {b d : List UInt8} {k : Nat} (h : bodyL b = some (d, k)) : Told d k := by
  unfold bodyL at h
  simp only at h
  split at h
  · rename_i hc
    obtain ⟨h1, h2, h3⟩ := hc
    obtain ⟨ha, hne⟩ := digsB_parts h1
    have hb : (Lib.cut b [46]).2.1.all digB = true := by
      cases hh : (Lib.cut b [46]).2.2
      · rw [cut_second b [46] hh]; rfl
      · exact (digsB_parts (h2 hh)).1
    injection h with h
    injection h with hd hk
    rw [← strip_whole _ _ hne] at hd
    subst hd hk
    refine told_of_strip (by rw [List.all_append, ha, hb]; rfl) (by rw [List.length_append]; exact h3) ?_
    rw [List.length_append]
    have : 0 < (Lib.cut b [46]).1.length := List.length_pos_iff.2 hne
    omega
  · cases h
/-- The digits with their point. -/
def textL (d : List UInt8) (k : Nat) : List UInt8 := if k = 0 then d else d.take (d.length - k) ++ 46 :: d.drop (d.length - k)
theorem body_text {d : List UInt8} {k : Nat} (h : Told d k) : bodyL (textL d k) = some (d, k) := by
  have hs : stripL (k + 1) d = d := strip_same (by
    rcases h.head with h | h
    · exact Or.inl (by omega)
    · exact Or.inr h)
  have hlt := h.lt
  unfold textL
  by_cases hk : k = 0
  · subst hk
    rw [if_pos rfl, bodyL_plain h.digs, if_pos ⟨by intro e; rw [e] at hlt; simp at hlt, h.le⟩, hs]
  · rw [if_neg hk]
    have h1 : (d.take (d.length - k)).all digB = true := List.all_eq_true.2 fun c hc => List.all_eq_true.1 h.digs c (List.mem_of_mem_take hc)
    have h2 : (d.drop (d.length - k)).all digB = true := List.all_eq_true.2 fun c hc => List.all_eq_true.1 h.digs c (List.mem_of_mem_drop hc)
    have l2 : (d.drop (d.length - k)).length = k := by rw [List.length_drop]; omega
    have h3 : d.take (d.length - k) ≠ [] := by intro e; have := congrArg List.length e; rw [List.length_take, List.length_nil] at this; omega
    have h4 : d.drop (d.length - k) ≠ [] := by intro e; rw [e] at l2; exact hk l2.symm
    rw [bodyL_point h1 h2 h3 h4, List.take_append_drop, l2, hs, if_pos h.le]
theorem text_head {d : List UInt8} {k : Nat} (h : Told d k) : ∃ c l, textL d k = c :: l ∧ digB c = true := by
  have hlt := h.lt
  have hd := h.digs
  cases d with
  | nil => simp at hlt
  | cons c l =>
    rw [List.all_cons, Bool.and_eq_true] at hd
    unfold textL
    split
    · exact ⟨c, l, rfl, hd.1⟩
    · simp only [List.length_cons] at hlt ⊢
      rw [show l.length + 1 - k = (l.length - k) + 1 by omega, List.take_succ_cons]
      exact ⟨c, _, rfl, hd.1⟩
theorem strB_data (n : Bool) (s : ByteArray) (k : Nat) : (strB n s k).data.toList = (if n then [45] else []) ++ textL s.data.toList k := by
  unfold strB textL
  by_cases hk : k = 0
  · subst hk
    cases n <;> simp
  · cases n <;> simp [hk] <;> rw [List.take_of_length_le (by rw [List.length_drop, size_data]; exact Nat.le_refl _)]
theorem parse_back {n : Bool} {d : List UInt8} {k : Nat} (h : Told d k) : parseL ((if n then [45] else []) ++ textL d k) = some (n, d, k) := by
  obtain ⟨c, l, e, hc⟩ := text_head h
  have hc45 : ((45 : UInt8) == c) = false := by
    rw [beq_eq_false_iff_ne]; intro e; rw [← e] at hc; exact absurd hc (by decide)
  have hp : Lib.hasPrefix ((if n then [45] else []) ++ textL d k) [45] = n := by
    cases n
    · simp [Lib.hasPrefix, e, List.isPrefixOf, hc45]
    · simp [Lib.hasPrefix, List.isPrefixOf]
  have ht : Lib.trimPrefix ((if n then [45] else []) ++ textL d k) [45] = textL d k := by
    unfold Lib.trimPrefix
    rw [hp]
    cases n <;> simp
  rw [parseL_body, hp, ht, body_text h]
  rfl
theorem right_told {d : List UInt8} {k : Nat} (h : Told d k) : decRightB d k = true := by
  have hlt := h.lt
  have hd : digsB d = true := by
    unfold digsB; rw [h.digs]
    cases d with
    | nil => simp at hlt
    | cons => rfl
  unfold decRightB
  rw [hd]
  have e1 : decide ((0 : Int) ≤ (k : Int)) = true := by rw [decide_eq_true_eq]; omega
  have e2 : decide ((k : Int) < (d.length : Int)) = true := by rw [decide_eq_true_eq]; omega
  rw [e1, e2]
  rcases h.head with h | h
  · have e3 : decide ((d.length : Int) - k = 1) = true := by rw [decide_eq_true_eq]; omega
    rw [e3]; simp
  · have e3 : (d.head? == some 48) = false := by rw [beq_eq_false_iff_ne]; exact h
    rw [e3]; rfl

def parseVal : Option (Bool × List UInt8 × Nat) → Value
  | some (n, d, k) => .tuple #[.agg #[.bool n, .string ⟨d.toArray⟩, .int .i64 k], .bool true]
  | none => .tuple #[.agg #[.bool false, .string ⟨#[]⟩, .int .i64 0], .bool false]
theorem parse_val (s : ByteArray) (w : World) (hsh : w.ShapedOpen Tryz.prog) (hs : s.size < 4294967281) :
    Calls Tryz.prog 49 #[.string s] w fun e w' => e = .returned (parseVal (parseL s.data.toList)) ∧ Below w.heap.size w w' := by
  refine (parse_any s w hsh hs).mono ?_
  rintro e w' ⟨he, hb⟩
  refine ⟨?_, hb⟩
  unfold ParseEnd at he
  cases h : parseL s.data.toList with
  | none => rw [h] at he; exact he
  | some x => obtain ⟨n, d, k⟩ := x; rw [h] at he; exact he
theorem body_val {n : Bool} {b : List UInt8} {e : Ending} (h : BodyEnd n b e) : e = .returned (parseVal ((bodyL b).map fun x => (n, x.1, x.2))) := by
  unfold BodyEnd at h
  cases hb : bodyL b with
  | none => rw [hb] at h; exact h
  | some x => obtain ⟨d, k⟩ := x; rw [hb] at h; exact h
theorem ref_val (s : ByteArray) (w : World) (hs : s.size ≤ 100) :
    Calls Tryz.prog 13 #[.string s] w fun e w' => e = .returned (parseVal (parseL s.data.toList)) ∧ Below w.heap.size w w' := by
  by_cases h : ∃ h : 0 < s.size, (s[0].toNat : Int) = 45
  · obtain ⟨h0, h45⟩ := h
    refine (refParse_neg s w hs h0 h45).mono ?_
    rintro e w' ⟨he, hb⟩
    refine ⟨?_, hb⟩
    rw [body_val he, parseL_body]
    have h0' : s[0] = 45 := UInt8.toNat_inj.mp (by show s[0].toNat = 45; omega)
    have hc := head_cons s h0
    rw [h0'] at hc
    have hp : Lib.hasPrefix s.data.toList [45] = true := by rw [hc]; simp [Lib.hasPrefix, List.isPrefixOf]
    have ht : Lib.trimPrefix s.data.toList [45] = (s.extract 1 s.size).data.toList := by
      unfold Lib.trimPrefix
      rw [hp, if_pos rfl, extract_drop]; rfl
    rw [hp, ht]
  · have hn : s.size = 0 ∨ ∃ h : 0 < s.size, ¬ (s[0].toNat : Int) = 45 := by
      rcases Nat.eq_zero_or_pos s.size with h0 | h0
      · exact Or.inl h0
      · exact Or.inr ⟨h0, fun x => h ⟨h0, x⟩⟩
    refine (refParse_pos s w hs hn).mono ?_
    rintro e w' ⟨he, hb⟩
    refine ⟨?_, hb⟩
    rw [body_val he, parseL_body]
    have hp : Lib.hasPrefix s.data.toList [45] = false := by
      rcases Nat.eq_zero_or_pos s.size with h0 | h0
      · have : s.data.toList = [] := List.eq_nil_of_length_eq_zero (by rw [size_data]; exact h0)
        rw [this]; rfl
      · rw [head_cons s h0]
        have : ((45 : UInt8) == s[0]) = false := by
          rw [beq_eq_false_iff_ne]; intro e; exact h ⟨h0, by rw [← e]; rfl⟩
        simp [Lib.hasPrefix, List.isPrefixOf, this]
    have ht : Lib.trimPrefix s.data.toList [45] = s.data.toList := by
      unfold Lib.trimPrefix
      rw [hp]; rfl
    rw [hp, ht]
end Go.Proofs.YtglennfjeacpoaaGreatDoor
