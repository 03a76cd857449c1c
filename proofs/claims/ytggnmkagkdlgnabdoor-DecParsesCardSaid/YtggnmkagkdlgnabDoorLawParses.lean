/-
  DecParses: whatever text: the number that it tells, or none, is what the law reckons digit by digit; as a text it tells the same number.
-/
import Derived.Test.YtggnmkagkdlgnabDoorA11
import Derived.Test.YtggnmkagkdlgnabDoorA3r
import Derived.Test.YtggnmkagkdlgnabDoorLawParse0
import Derived.Deep.RegionHeld3
namespace Go.Proofs.YtggnmkagkdlgnabDoor
open Go.RowKit

theorem strip_all {k : Nat} : ∀ {l : List UInt8}, l.all digB = true → (stripL k l).all digB = true
  | [], _ => rfl
  | c :: l, h => by
    rw [stripL]
    split
    · rw [List.all_cons, Bool.and_eq_true] at h
      exact strip_all h.2
    · exact h
theorem strip_length {k : Nat} : ∀ {l : List UInt8}, (stripL k l).length ≤ l.length ∧ (k ≤ l.length → k ≤ (stripL k l).length)
  | [] => ⟨Nat.le_refl _, fun h => h⟩
  | c :: l => by
    have ih := strip_length (k := k) (l := l)
    rw [stripL]
    split
    · rename_i h
      exact ⟨by simp only [List.length_cons]; omega, fun _ => ih.2 (by omega)⟩
    · exact ⟨Nat.le_refl _, fun h => h⟩
theorem strip_head {k : Nat} : ∀ {l : List UInt8}, k ≤ l.length → (stripL k l).length = k ∨ (stripL k l).head? ≠ some 48
  | [], h => Or.inl (by rw [stripL]; have : k = 0 := by simpa using h
                        rw [this]; rfl)
  | c :: l, h => by
    rw [stripL]
    split
    · rename_i h'
      exact strip_head (by omega)
    · rename_i h'
      by_cases hc : c = 48
      · refine Or.inl ?_
        have : ¬ k < l.length + 1 := fun x => h' ⟨x, hc⟩
        simp only [List.length_cons] at h ⊢
        omega
      · exact Or.inr (by rw [List.head?_cons]; intro e; exact hc (Option.some.inj e))
theorem strip_same {k : Nat} {l : List UInt8} (h : l.length ≤ k ∨ l.head? ≠ some 48) : stripL k l = l := by
  cases l with
  | nil => rfl
  | cons c l =>
    rw [stripL, if_neg]
    rintro ⟨h1, rfl⟩
    rcases h with h | h
    · simp only [List.length_cons] at h; omega
    · exact h rfl

/-- Such digits, of which k stand behind the point, as a text tells. -/
structure Told (d : List UInt8) (k : Nat) : Prop where
  digs : d.all digB = true
  le : d.length ≤ 40
  lt : k < d.length
  head : d.length = k + 1 ∨ d.head? ≠ some 48
theorem told_of_strip {l : List UInt8} {k : Nat} (h : l.all digB = true) (h40 : l.length ≤ 40) (hk : k < l.length) : Told (stripL (k + 1) l) k :=
  ⟨strip_all h, Nat.le_trans strip_length.1 h40, strip_length.2 hk, strip_head hk⟩
theorem digsB_parts {l : List UInt8} (h : digsB l = true) : l.all digB = true ∧ l ≠ [] := by
  unfold digsB at h
  rw [Bool.and_eq_true] at h
  refine ⟨h.1, ?_⟩
  intro e
  rw [e] at h
  exact absurd h.2 (by decide)
theorem cut_second (l : List UInt8) (p : List UInt8) (h : (Lib.cut l p).2.2 = false) : (Lib.cut l p).2.1 = [] := by
  unfold Lib.cut at h ⊢
  split at h
  · cases h
  · rename_i h'; rw [if_neg h']
theorem told_of_body {b d : List UInt8} {k : Nat} (h : bodyL b = some (d, k)) : Told d k := by
  unfold bodyL at h
  simp only at h
  split at h
  · rename_i hc
    obtain ⟨h1, h2, h3⟩ := hc
    obtain ⟨ha, hne⟩ := digsB_parts h1
    have hb : (Lib.cut b [46]).2.1.all digB = true := by
      cases hh : (Lib.cut b [46]).2.2
      · rw [cut_second b [46] hh]; rfl
      · exact (digsB_parts (h2 hh)).1
    injection h with h
    injection h with hd hk
    rw [← strip_whole _ _ hne] at hd
    subst hd hk
    refine told_of_strip (by rw [List.all_append, ha, hb]; rfl) (by rw [List.length_append]; exact h3) ?_
    rw [List.length_append]
    have : 0 < (Lib.cut b [46]).1.length := List.length_pos_iff.2 hne
    omega
  · cases h
/-- The digits with their point. -/
def textL (d : List UInt8) (k : Nat) : List UInt8 := if k = 0 then d else d.take (d.length - k) ++ 46 :: d.drop (d.length - k)
theorem body_text {d : List UInt8} {k : Nat} (h : Told d k) : bodyL (textL d k) = some (d, k) := by
  have hs : stripL (k + 1) d = d := strip_same (by
    rcases h.head with h | h
    · exact Or.inl (by omega)
    · exact Or.inr h)
  have hlt := h.lt
  unfold textL
  by_cases hk : k = 0
  · subst hk
    rw [if_pos rfl, bodyL_plain h.digs, if_pos ⟨by intro e; rw [e] at hlt; simp at hlt, h.le⟩, hs]
  · rw [if_neg hk]
    have h1 : (d.take (d.length - k)).all digB = true := List.all_eq_true.2 fun c hc => List.all_eq_true.1 h.digs c (List.mem_of_mem_take hc)
    have h2 : (d.drop (d.length - k)).all digB = true := List.all_eq_true.2 fun c hc => List.all_eq_true.1 h.digs c (List.mem_of_mem_drop hc)
    have l2 : (d.drop (d.length - k)).length = k := by rw [List.length_drop]; omega
    have h3 : d.take (d.length - k) ≠ [] := by intro e; have := congrArg List.length e; rw [List.length_take, List.length_nil] at this; omega
    have h4 : d.drop (d.length - k) ≠ [] := by intro e; rw [e] at l2; exact hk l2.symm
    rw [bodyL_point h1 h2 h3 h4, List.take_append_drop, l2, hs, if_pos h.le]
theorem text_head {d : List UInt8} {k : Nat} (h : Told d k) : ∃ c l, textL d k = c :: l ∧ digB c = true := by
  have hlt := h.lt
  have hd := h.digs
  cases d with
  | nil => simp at hlt
  | cons c l =>
    rw [List.all_cons, Bool.and_eq_true] at hd
    unfold textL
    split
    · exact ⟨c, l, rfl, hd.1⟩
    · simp only [List.length_cons] at hlt ⊢
      rw [show l.length + 1 - k = (l.length - k) + 1 by omega, List.take_succ_cons]
      exact ⟨c, _, rfl, hd.1⟩
theorem strB_data (n : Bool) (s : ByteArray) (k : Nat) : (strB n s k).data.toList = (if n then [45] else []) ++ textL s.data.toList k := by
  unfold strB textL
  by_cases hk : k = 0
  · subst hk
    cases n <;> simp
  · cases n <;> simp [hk] <;> rw [List.take_of_length_le (by rw [List.length_drop, size_data]; exact Nat.le_refl _)]
theorem parse_back {n : Bool} {d : List UInt8} {k : Nat} (h : Told d k) : parseL ((if n then [45] else []) ++ textL d k) = some (n, d, k) := by
  obtain ⟨c, l, e, hc⟩ := text_head h
  have hc45 : ((45 : UInt8) == c) = false := by
    rw [beq_eq_false_iff_ne]; intro e; rw [← e] at hc; exact absurd hc (by decide)
  have hp : Lib.hasPrefix ((if n then [45] else []) ++ textL d k) [45] = n := by
    cases n
    · simp [Lib.hasPrefix, e, List.isPrefixOf, hc45]
    · simp [Lib.hasPrefix, List.isPrefixOf]
  have ht : Lib.trimPrefix ((if n then [45] else []) ++ textL d k) [45] = textL d k := by
    unfold Lib.trimPrefix
    rw [hp]
    cases n <;> simp
  rw [parseL_body, hp, ht, body_text h]
  rfl
theorem right_told {d : List UInt8} {k : Nat} (h : Told d k) : decRightB d k = true := by
  have hlt := h.lt
  have hd : digsB d = true := by
    unfold digsB; rw [h.digs]
    cases d with
    | nil => simp at hlt
    | cons => rfl
  unfold decRightB
  rw [hd]
  have e1 : decide ((0 : Int) ≤ (k : Int)) = true := by rw [decide_eq_true_eq]; omega
  have e2 : decide ((k : Int) < (d.length : Int)) = true := by rw [decide_eq_true_eq]; omega
  rw [e1, e2]
  rcases h.head with h | h
  · have e3 : decide ((d.length : Int) - k = 1) = true := by rw [decide_eq_true_eq]; omega
    rw [e3]; simp
  · have e3 : (d.head? == some 48) = false := by rw [beq_eq_false_iff_ne]; exact h
    rw [e3]; rfl

def parseVal : Option (Bool × List UInt8 × Nat) → Value
  | some (n, d, k) => .tuple #[.agg #[.bool n, .string ⟨d.toArray⟩, .int .i64 k], .bool true]
  | none => .tuple #[.agg #[.bool false, .string ⟨#[]⟩, .int .i64 0], .bool false]
theorem parse_val (s : ByteArray) (w : World) (hsh : w.ShapedOpen Tryd.prog) (hs : s.size < 4294967281) :
    Calls Tryd.prog 9 #[.string s] w fun e w' => e = .returned (parseVal (parseL s.data.toList)) ∧ Below w.heap.size w w' := by
  refine (parse_any s w hsh hs).mono ?_
  rintro e w' ⟨he, hb⟩
  refine ⟨?_, hb⟩
  unfold ParseEnd at he
  cases h : parseL s.data.toList with
  | none => rw [h] at he; exact he
  | some x => obtain ⟨n, d, k⟩ := x; rw [h] at he; exact he
theorem body_val {n : Bool} {b : List UInt8} {e : Ending} (h : BodyEnd n b e) : e = .returned (parseVal ((bodyL b).map fun x => (n, x.1, x.2))) := by
  unfold BodyEnd at h
  cases hb : bodyL b with
  | none => rw [hb] at h; exact h
  | some x => obtain ⟨d, k⟩ := x; rw [hb] at h; exact h
theorem ref_val (s : ByteArray) (w : World) (hs : s.size ≤ 100) :
    Calls Tryd.prog 10 #[.string s] w fun e w' => e = .returned (parseVal (parseL s.data.toList)) ∧ Below w.heap.size w w' := by
  by_cases h : ∃ h : 0 < s.size, (s[0].toNat : Int) = 45
  · obtain ⟨h0, h45⟩ := h
    refine (refParse_neg s w hs h0 h45).mono ?_
    rintro e w' ⟨he, hb⟩
    refine ⟨?_, hb⟩
    rw [body_val he, parseL_body]
    have h0' : s[0] = 45 := UInt8.toNat_inj.mp (by show s[0].toNat = 45; omega)
    have hc := head_cons s h0
    rw [h0'] at hc
    have hp : Lib.hasPrefix s.data.toList [45] = true := by rw [hc]; simp [Lib.hasPrefix, List.isPrefixOf]
    have ht : Lib.trimPrefix s.data.toList [45] = (s.extract 1 s.size).data.toList := by
      unfold Lib.trimPrefix
      rw [hp, if_pos rfl, extract_drop]; rfl
    rw [hp, ht]
  · have hn : s.size = 0 ∨ ∃ h : 0 < s.size, ¬ (s[0].toNat : Int) = 45 := by
      rcases Nat.eq_zero_or_pos s.size with h0 | h0
      · exact Or.inl h0
      · exact Or.inr ⟨h0, fun x => h ⟨h0, x⟩⟩
    refine (refParse_pos s w hs hn).mono ?_
    rintro e w' ⟨he, hb⟩
    refine ⟨?_, hb⟩
    rw [body_val he, parseL_body]
    have hp : Lib.hasPrefix s.data.toList [45] = false := by
      rcases Nat.eq_zero_or_pos s.size with h0 | h0
      · have : s.data.toList = [] := List.eq_nil_of_length_eq_zero (by rw [size_data]; exact h0)
        rw [this]; rfl
      · rw [head_cons s h0]
        have : ((45 : UInt8) == s[0]) = false := by
          rw [beq_eq_false_iff_ne]; intro e; exact h ⟨h0, by rw [← e]; rfl⟩
        simp [Lib.hasPrefix, List.isPrefixOf, this]
    have ht : Lib.trimPrefix s.data.toList [45] = s.data.toList := by
      unfold Lib.trimPrefix
      rw [hp]; rfl
    rw [hp, ht]

set_option maxHeartbeats 1000000 in
set_option maxRecDepth 100000 in
theorem lawParses_none (s : ByteArray) (w : World) (hsh : w.ShapedOpen Tryd.prog) (hs : s.size ≤ 100) (hno : parseL s.data.toList = none) :
    Calls Tryd.prog 3 #[.string s] w fun e w' => e = .returned (.bool true) ∧ Below w.heap.size w w' := by
  have hp := fun W (h : W.ShapedOpen Tryd.prog) => parse_val s W h (by omega)
  have hr := fun W => ref_val s W hs
  rw [hno] at hp hr
  have Hp := Lib.hid hp
  have Hr := Lib.hid hr
  clear hp hr hno
  go_enter Tryd.func3, Tryd.ntmps3
  go_wp2_with fail
  go_at_call 8
  refine (head_any _ hsh).mono ?_
  rintro e w1 ⟨rfl, hb1⟩
  go_wp2_with fail
  go_at_call 9
  refine (Hp.out _ (shp_below hsh hb1)).mono ?_
  rintro e w2 ⟨rfl, hb2⟩
  unfold parseVal
  go_wp2_with fail
  go_at_call 10
  refine (Hr.out _).mono ?_
  rintro e w3 ⟨rfl, hb3⟩
  have hz3 : w2.heap.size < w3.heap.size := by have := hb3.size; simp at this; omega
  obtain ⟨hc3, hf3⟩ := bcell hb3
  unfold parseVal
  go_wp2_with fail
  go_ret
  have L := Nat.le_refl w.heap.size
  exact ⟨rfl, below_new (below_then (below_new (below_then hb1 L hb2) L _) L hb3) L _⟩

/-- What is said of two boxed structs of three fields in a region. -/
theorem box6 {A C B : Nat} {w W w1 : World} {a0 a1 a2 c0 c1 c2 : Value} (hb1 : Below W.heap.size W w1)
    (h : W.cell? ⟨A, 0, none⟩ = some a0 ∧ W.cell? ⟨A, 1, none⟩ = some a1 ∧ W.cell? ⟨A, 2, none⟩ = some a2 ∧ W.cell? ⟨C, 0, none⟩ = some c0 ∧ W.cell? ⟨C, 1, none⟩ = some c1 ∧ W.cell? ⟨C, 2, none⟩ = some c2 ∧ A + 1 ≤ W.heap.size ∧ C + 1 ≤ W.heap.size ∧ B ≤ W.heap.size ∧ Below B w W) :
    w1.cell? ⟨A, 0, none⟩ = some a0 ∧ w1.cell? ⟨A, 1, none⟩ = some a1 ∧ w1.cell? ⟨A, 2, none⟩ = some a2 ∧ w1.cell? ⟨C, 0, none⟩ = some c0 ∧ w1.cell? ⟨C, 1, none⟩ = some c1 ∧ w1.cell? ⟨C, 2, none⟩ = some c2 ∧ A + 1 ≤ w1.heap.size ∧ C + 1 ≤ w1.heap.size ∧ B ≤ w1.heap.size ∧ Below B w w1 := by
  obtain ⟨h0, h1, h2, h3, h4, h5, hA, hC, hB0, hB⟩ := h
  have hz := hb1.size
  exact ⟨(hb1.cell (p := ⟨A, 0, none⟩) hA).trans h0, (hb1.cell (p := ⟨A, 1, none⟩) hA).trans h1, (hb1.cell (p := ⟨A, 2, none⟩) hA).trans h2, (hb1.cell (p := ⟨C, 0, none⟩) hC).trans h3, (hb1.cell (p := ⟨C, 1, none⟩) hC).trans h4, (hb1.cell (p := ⟨C, 2, none⟩) hC).trans h5, by omega, by omega, by omega, hB.trans (hb1.mono hB0)⟩
theorem box6_below {A C B : Nat} {w W : World} {a0 a1 a2 c0 c1 c2 : Value}
    (h : W.cell? ⟨A, 0, none⟩ = some a0 ∧ W.cell? ⟨A, 1, none⟩ = some a1 ∧ W.cell? ⟨A, 2, none⟩ = some a2 ∧ W.cell? ⟨C, 0, none⟩ = some c0 ∧ W.cell? ⟨C, 1, none⟩ = some c1 ∧ W.cell? ⟨C, 2, none⟩ = some c2 ∧ A + 1 ≤ W.heap.size ∧ C + 1 ≤ W.heap.size ∧ B ≤ W.heap.size ∧ Below B w W) : Below B w W := h.2.2.2.2.2.2.2.2.2

set_option maxHeartbeats 2000000 in
set_option maxRecDepth 100000 in
theorem lawParses_some (s D : ByteArray) (n : Bool) (k : Nat) (w : World) (hsh : w.ShapedOpen Tryd.prog) (hs : s.size ≤ 100) (hyes : parseL s.data.toList = some (n, D.data.toList, k)) (hT : Told D.data.toList k) :
    Calls Tryd.prog 3 #[.string s] w fun e w' => e = .returned (.bool true) ∧ Below w.heap.size w w' := by
  have hlt := hT.lt
  have hle := hT.le
  rw [size_data] at hlt hle
  have hp : ∀ W, W.ShapedOpen Tryd.prog → Calls Tryd.prog 9 #[.string s] W fun e w' => e = .returned (.tuple #[.agg #[.bool n, .string D, .int .i64 k], .bool true]) ∧ Below W.heap.size W w' := by
    intro W h
    have := parse_val s W h (by omega)
    rw [hyes] at this
    exact this
  have hr : ∀ W, Calls Tryd.prog 10 #[.string s] W fun e w' => e = .returned (.tuple #[.agg #[.bool n, .string D, .int .i64 k], .bool true]) ∧ Below W.heap.size W w' := by
    intro W
    have := ref_val s W hs
    rw [hyes] at this
    exact this
  have hback : ∀ W, W.ShapedOpen Tryd.prog → Calls Tryd.prog 9 #[.string (strB n D k)] W fun e w' => e = .returned (.tuple #[.agg #[.bool n, .string D, .int .i64 k], .bool true]) ∧ Below W.heap.size W w' := by
    intro W h
    have hl : (strB n D k).size ≤ 1000 := by
      have e := congrArg List.length (strB_data n D k)
      rw [size_data, List.length_append] at e
      have h1 : (if n = true then [(45 : UInt8)] else []).length ≤ 1 := by cases n <;> simp
      have h2 : (textL D.data.toList k).length ≤ D.size + 1 := by
        unfold textL
        split
        · rw [size_data]; omega
        · simp only [List.length_append, List.length_take, List.length_cons, List.length_drop, size_data]; omega
      omega
    have := parse_val (strB n D k) W h (by omega)
    rw [strB_data, parse_back hT] at this
    exact this
  have hright : ∀ W, Calls Tryd.prog 12 #[.agg #[.bool n, .string D, .int .i64 k]] W fun e w' => e = .returned (.bool true) ∧ Below W.heap.size W w' := by
    intro W
    have := right_any n D k W (by unfold maxLen; omega) (by omega) (by omega)
    rw [right_told hT] at this
    exact this
  have hmax : D.size + 2 ≤ maxLen := by unfold maxLen; omega
  have hmax2 : D.size ≤ maxLen := by unfold maxLen; omega
  have Hp := Lib.hid hp
  have Hr := Lib.hid hr
  have Hback := Lib.hid hback
  have Hright := Lib.hid hright
  have Hyes := Lib.hid hyes
  clear hp hr hback hright hyes hT
  have hkk : k ≤ D.size := by omega
  have hi0 : (0 : Int) ≤ (D.size : Int) - k := by omega
  have hi1 : (D.size : Int) - k ≤ D.size := by omega
  have hi2 : (k : Int) ≤ D.size := by omega
  have hcat : (D.extract 0 (D.size - k) ++ D.extract (D.size - k) D.size) = D := by
    apply bytes_eq
    rw [Joins.data_append, extract_take, extract_drop, List.take_append_drop]
  have Hcat := Lib.hid hcat
  clear hcat
  go_enter Tryd.func3, Tryd.ntmps3
  go_wp2_with fail
  go_at_call 8
  refine (head_any _ hsh).mono ?_
  rintro e w1 ⟨rfl, hb1⟩
  have hsh1 := shp_below hsh hb1
  go_wp2_with fail
  go_at_call 9
  refine (Hp.out _ hsh1).mono ?_
  rintro e w2 ⟨rfl, hb2⟩
  have hsh2 := shp_below hsh1 hb2
  go_wp2_with fail
  go_at_call 10
  refine (Hr.out _).mono ?_
  rintro e w3 ⟨rfl, hb3⟩
  have hsh3 := shp_below (shp_alloc hsh2 _) hb3
  have hz3 : w2.heap.size < w3.heap.size := by have := hb3.size; simp at this; omega
  obtain ⟨hc3, hf3⟩ := bcell hb3
  go_wp2_with fail
  go_at_call 11
  refine (string_any n D k _ hmax hkk).mono ?_
  rintro e w4 ⟨rfl, hb4⟩
  have hsh4 := shp_below (shp_alloc hsh3 _) hb4
  have hz4 : w2.heap.size < w4.heap.size := by have := hb4.size; simp at this; omega
  obtain ⟨hc4, hf4⟩ := bcell hb4
  go_wp2_with fail
  go_at_call 9
  refine (Hback.out _ hsh4).mono ?_
  rintro e w5 ⟨rfl, hb5⟩
  have hz5 : w2.heap.size < w5.heap.size := by have := hb5.size; omega
  obtain ⟨hc5, hf5⟩ := bcell hb5
  go_wp2_with fail
  have L := Nat.le_refl w.heap.size
  have hbw : Below w.heap.size w w5 := below_then (below_then (below_new (below_then (below_new (below_then hb1 L hb2) L _) L hb3) L _) L hb4) L hb5
  have hw5 := hbw.size
  have a0 : w5.cell? ⟨w2.heap.size, 0, none⟩ = some (.bool n) := by rw [hc5 _ _ hz4, hc4 _ _ (by simp; omega), World.cell?_alloc_lt _ _ _ (by show w2.heap.size < w3.heap.size; omega), hc3 _ _ (by simp)]; simp
  have a1 : w5.cell? ⟨w2.heap.size, 1, none⟩ = some (.string D) := by rw [hc5 _ _ hz4, hc4 _ _ (by simp; omega), World.cell?_alloc_lt _ _ _ (by show w2.heap.size < w3.heap.size; omega), hc3 _ _ (by simp)]; simp
  have a2 : w5.cell? ⟨w2.heap.size, 2, none⟩ = some (.int .i64 k) := by rw [hc5 _ _ hz4, hc4 _ _ (by simp; omega), World.cell?_alloc_lt _ _ _ (by show w2.heap.size < w3.heap.size; omega), hc3 _ _ (by simp)]; simp
  clear hc3 hf3 hc4 hf4 hc5 hf5 hz3 hz4 hb1 hb2 hb3 hb4 hb5 hsh1 hsh2 hsh3 hsh4 hsh
  have hcat2 : ((D.extract 0 (D.size - k) ++ D.extract (D.size - k) D.size).toList == D.toList) = true := by rw [Hcat.out]; simp
  have hsz : ¬ 9223372036854775807 < (D.size - k) + (D.size - (D.size - k)) := by omega
  have hsz2 : ¬ 9223372036854775807 < D.size := by omega
  have hsz3 : ¬ 9223372036854775807 < D.size - k + k := by omega
  have b0 := (World.cell?_alloc_lt w5 (.cells #[.bool n, .string D, .int .i64 k] 24) ⟨w2.heap.size, 0, none⟩ hz5).trans a0
  have b1 := (World.cell?_alloc_lt w5 (.cells #[.bool n, .string D, .int .i64 k] 24) ⟨w2.heap.size, 1, none⟩ hz5).trans a1
  have b2 := (World.cell?_alloc_lt w5 (.cells #[.bool n, .string D, .int .i64 k] 24) ⟨w2.heap.size, 2, none⟩ hz5).trans a2
  go_region_held3 (fun w' => w'.cell? ⟨w2.heap.size, 0, none⟩ = some (.bool n) ∧ w'.cell? ⟨w2.heap.size, 1, none⟩ = some (.string D) ∧ w'.cell? ⟨w2.heap.size, 2, none⟩ = some (.int .i64 k) ∧ w'.cell? ⟨w5.heap.size, 0, none⟩ = some (.bool n) ∧ w'.cell? ⟨w5.heap.size, 1, none⟩ = some (.string D) ∧ w'.cell? ⟨w5.heap.size, 2, none⟩ = some (.int .i64 k) ∧ w2.heap.size + 1 ≤ w'.heap.size ∧ w5.heap.size + 1 ≤ w'.heap.size ∧ w.heap.size ≤ w'.heap.size ∧ Below w.heap.size w w')
    (first | (exact box6 (by assumption) (by assumption)) | (exact ⟨by simpa using b0, by simpa using b1, by simpa using b2, by simp, by simp, by simp, by simp; omega, by simp, by simp; omega, (below_new hbw L _).drew⟩) | go_keep)
    (first | (go_at_call 12; refine (Hright.out _).mono ?_; rintro e w6 ⟨rfl, hb6⟩) | (go_at_call 13; refine (whole_any n D k _ hmax2 hkk).mono ?_; rintro e w7 ⟨rfl, hb7⟩) | (go_at_call 14; refine (part_any n D k _ hmax2 hkk).mono ?_; rintro e w8 ⟨rfl, hb8⟩))
  go_wp2
  go_ret
  exact ⟨ret_bool (by simp), box6_below (by assumption)⟩

theorem lawParses (s : ByteArray) (w : World) (hsh : w.ShapedOpen Tryd.prog) (hs : s.size ≤ 9223372036854775807) :
    Calls Tryd.prog 3 #[.string s] w fun e w' => e = .returned (.bool true) ∧ Below w.heap.size w w' := by
  by_cases h : (100 : Int) < s.size
  · go_enter Tryd.func3, Tryd.ntmps3
    go_wp2_with (go_at_call 8; refine (head_any _ hsh).mono ?_; rintro e w1 ⟨rfl, hb1⟩)
    go_ret
    exact ⟨rfl, hb1⟩
  · cases hp : parseL s.data.toList with
    | none => exact lawParses_none s w hsh (by omega) hp
    | some x =>
      obtain ⟨n, d, k⟩ := x
      have hT : Told d k := by
        rw [parseL_body] at hp
        cases hb : bodyL (Lib.trimPrefix s.data.toList [45]) with
        | none => rw [hb] at hp; cases hp
        | some y =>
          obtain ⟨d', k'⟩ := y
          rw [hb] at hp
          simp only [Option.map_some, Option.some.injEq, Prod.mk.injEq] at hp
          obtain ⟨_, rfl, rfl⟩ := hp
          exact told_of_body hb
      exact lawParses_some s ⟨d.toArray⟩ n k w hsh (by omega) hp hT
end Go.Proofs.YtggnmkagkdlgnabDoor
