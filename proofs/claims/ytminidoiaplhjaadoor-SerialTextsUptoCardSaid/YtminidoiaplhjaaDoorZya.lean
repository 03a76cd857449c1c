/-
  Law 10: spaces; an expression as a text.
-/
import Derived.Test.YtminidoiaplhjaaDoorZx
namespace Go.Proofs.YtminidoiaplhjaaDoor
open Go.RowKit
set_option linter.unusedVariables false
set_option linter.unusedSimpArgs false

theorem cat_mk (l : List UInt8) (a : ByteArray) : (⟨l.toArray⟩ : ByteArray) ++ a = ⟨(l ++ a.data.toList).toArray⟩ := by
  apply bytes_eq
  simp
theorem cat_mk2 (a : ByteArray) (l : List UInt8) : a ++ (⟨l.toArray⟩ : ByteArray) = ⟨(a.data.toList ++ l).toArray⟩ := by
  apply bytes_eq
  simp
set_option maxHeartbeats 1000000 in
set_option maxRecDepth 100000 in
theorem lspaces (n : Nat) (hn : n ≤ 8000000) (w : World) : Calls Tryd.prog 22 #[.int .i64 n] w fun e w' => e = .returned (.string (mgB n)) ∧ w' = w := by
  have hn0 : (n : Int) ≤ 8000000 := by omega
  go_enter Tryd.func22, Tryd.ntmps22
  go_wp2
  go_loop [3, 4] (fun t3 t4 => ∃ j : Nat, t4 = .int .i64 j ∧ t3 = .string (mgB j) ∧ j ≤ n) (fun _ t4 => n - (intOf t4).toNat)
  case atStart => exact ⟨0, rfl, rfl, Nat.zero_le _⟩
  case round =>
    obtain ⟨j, rfl, rfl, hj⟩ := hrel
    have hj0 : (j : Int) ≤ 8000000 := by omega
    by_cases hlt : j < n
    · have d1 : decide ((j : Int) < (n : Int)) = true := decide_eq_true (by omega)
      have d2 : (j : Int) < (n : Int) := by omega
      have hz : ¬ 9223372036854775807 < (mgB j).size + 1 := by rw [mgB_size]; omega
      have HM := Lib.hid (show mgB j ++ ⟨#[32]⟩ = mgB (j + 1) from mgB_add j 1)
      go_wp2
      go_round
      case rel => exact ⟨j + 1, by go_num, by rw [HM.out], hlt⟩
      case measure => simp [intOf]; omega
    · obtain rfl : j = n := by omega
      have d1 : decide ((j : Int) < (j : Int)) = false := decide_eq_false (by omega)
      go_wp2
      go_ret
      exact ⟨rfl, rfl⟩
/-- An expression's text, by the law; a place's; a pattern's. -/
def LiTo (W0 : World) (m : Nat) (e : EX) : Prop := ∀ (c : C7) (w : World), ExAt W0 e c → Below W0.heap.size W0 w → (exT m e).length ≤ 140737488355328 →
  Calls Tryd.prog 32 #[.agg #[c.k, c.t, c.n, c.a, c.al, c.i, c.vs], .int .i64 m] w fun x w' => x = .returned (.string ⟨(exT m e).toArray⟩) ∧ Below w.heap.size w w'
def LpTo (W0 : World) (m : Nat) (e : EX) : Prop := ∀ (c : C7) (w : World), ExAt W0 e c → Below W0.heap.size W0 w → (plT m e).length ≤ 140737488355328 →
  Calls Tryd.prog 23 #[.agg #[c.k, c.t, c.n, c.a, c.al, c.i, c.vs], .int .i64 m] w fun x w' => x = .returned (.string ⟨(plT m e).toArray⟩) ∧ Below w.heap.size w w'
def LaTo (W0 : World) (m : Nat) (l : List EL) : Prop := ∀ (v : Value) (w : World), PatAt W0 l v → Below W0.heap.size W0 w → (paT m l).length ≤ 140737488355328 →
  Calls Tryd.prog 14 #[v, .int .i64 m] w fun x w' => x = .returned (.string ⟨(paT m l).toArray⟩) ∧ Below w.heap.size w w'
/-- The texts of the first arguments. -/
def asTo (m : Nat) (al : List AR) : Nat → List UInt8
  | 0 => []
  | j + 1 => asTo m al j ++ (match al[j]? with
    | none => []
    | some (.mk n e) => nameG (j == 0) n ++ exT m e)
theorem asTo_all (m : Nat) (al : List AR) : ∀ j, j ≤ al.length → asTo m al j ++ asT m (j == 0) (al.drop j) = asT m true al
  | 0, _ => by rw [asTo, List.nil_append, List.drop_zero]; rfl
  | j + 1, h => by
    have ih := asTo_all m al j (by omega)
    obtain ⟨n, e, he⟩ : ∃ n e, al[j]? = some (.mk n e) := by
      cases q : al[j] with
      | mk n e => exact ⟨n, e, by rw [List.getElem?_eq_getElem (by omega), q]⟩
    rw [drop_cons al j _ he, asT] at ih
    rw [asTo, he]
    dsimp only
    rw [show (j + 1 == 0) = false from rfl, ← ih]
    simp
theorem asTo_end (m : Nat) (al : List AR) : asTo m al al.length = asT m true al := by
  have := asTo_all m al al.length (Nat.le_refl _)
  rw [List.drop_of_length_le (Nat.le_refl _), asT, List.append_nil] at this
  exact this
theorem asTo_le (m : Nat) (al : List AR) (j : Nat) (h : j ≤ al.length) : (asTo m al j).length ≤ (asT m true al).length := by
  have := congrArg List.length (asTo_all m al j h)
  rw [List.length_append] at this
  omega
set_option maxHeartbeats 4000000 in
set_option maxRecDepth 100000 in
theorem lexpr_simple {W0 : World} {m : Nat} (k : Int) (t n a : ByteArray) (al : List AR) (i : Option EX) (vs : List VA) (hk : k = 0 ∨ k = 1 ∨ k = 2 ∨ k = 6) (hg : gdI (.mk k t n a al i vs) = true) (ht : t.size ≤ 4000000) (hP : k = 6 → ∀ e, i = some e → LpTo W0 m e) : LiTo W0 m (.mk k t n a al i vs) := by
  intro c w hx hW hn
  have h6 := (gdI_kind hg).2.1
  obtain ⟨A1, c1, p, A2, c2, rfl, ho, _⟩ := exAt_parts hx
  rw [exT] at hn ⊢
  unfold inlG at hn ⊢
  have HK := Lib.hid ((Below.refl w.heap.size w).alloc (Nat.le_refl _) (.cells #[.int .i64 k, .string t, .string n, .string a, .slice A1 al.length c1, .pointer p, .slice A2 vs.length c2] 37))
  clear hx hg
  dsimp only
  rcases hk with rfl | rfl | rfl | rfl
  · rw [if_pos rfl] at hn ⊢
    have HQ := Lib.hid (quote_any t (w.alloc (.cells #[.int .i64 0, .string t, .string n, .string a, .slice A1 al.length c1, .pointer p, .slice A2 vs.length c2] 37)) ht)
    clear hn h6 ho hP hW
    go_enter Tryd.func32, Tryd.ntmps32
    go_wp2_with fail
    go_at_call 41
    refine HQ.out.mono ?_
    rintro e w1 ⟨rfl, hb⟩
    have HB := Lib.hid (below_box hb)
    clear hb
    go_wp2
    go_ret
    exact ⟨rfl, HB.out⟩
  · rw [if_neg (by decide), if_pos rfl] at hn ⊢
    clear hn h6 ho hP hW
    go_enter Tryd.func32, Tryd.ntmps32
    go_wp2
    go_ret
    exact ⟨rfl, HK.out⟩
  · rw [if_neg (by decide), if_neg (by decide), if_pos rfl] at hn ⊢
    have hz : ¬ 9223372036854775807 < 1 + n.size := by rw [List.length_cons, size_data] at hn; omega
    clear hn h6 ho hP hW
    go_enter Tryd.func32, Tryd.ntmps32
    go_wp2
    go_ret
    exact ⟨ret_str (by apply bytes_eq; simp), HK.out⟩
  · rw [if_neg (by decide), if_neg (by decide), if_neg (by decide), if_pos rfl] at hn ⊢
    obtain ⟨e', rfl, _⟩ := h6 rfl
    rw [plO] at hn ⊢
    simp only [OAt] at ho
    obtain ⟨q', o', c', hp', hq', hc', hx'⟩ := ho
    cases hp'
    have hW1 := hW.alloc hW.size (.cells #[.int .i64 6, .string t, .string n, .string a, .slice A1 al.length c1, .pointer (some ⟨q', o', none⟩), .slice A2 vs.length c2] 37)
    have HR := Lib.hid (hP rfl e' rfl c' _ hx' hW1 hn)
    obtain ⟨x0, x1, x2, x3, x4, x5, x6⟩ := hc'.under hq' hW1
    have hlq : q' < (w.alloc (.cells #[.int .i64 6, .string t, .string n, .string a, .slice A1 al.length c1, .pointer (some ⟨q', o', none⟩), .slice A2 vs.length c2] 37)).heap.size := Nat.lt_of_lt_of_le hq' hW1.size
    have hsh := ex_shape hx'
    obtain ⟨k2, t2, n3, a2, B1, m1, q1, p2, B2, m2, q2, rfl⟩ := hsh
    dsimp only at x0 x1 x2 x3 x4 x5 x6 HR
    clear hn h6 hP hc' hx' hW1 hW
    go_enter Tryd.func32, Tryd.ntmps32
    go_wp2_with fail
    go_at_call 23
    refine HR.out.mono ?_
    rintro e w2 ⟨rfl, h2⟩
    have HB := Lib.hid (below_box h2)
    clear h2
    go_wp2
    go_ret
    exact ⟨rfl, HB.out⟩
end Go.Proofs.YtminidoiaplhjaaDoor
