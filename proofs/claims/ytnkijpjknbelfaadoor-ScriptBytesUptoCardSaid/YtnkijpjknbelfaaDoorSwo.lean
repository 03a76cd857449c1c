/-
  Package script: what is written is read; what is read was written so.
-/
import Derived.Test.YtnkijpjknbelfaaDoorSwn
import Derived.Lib.SlBytesRow
namespace Go.Proofs.YtnkijpjknbelfaaDoor
open Go.RowKit
set_option linter.unusedVariables false
set_option linter.unusedSimpArgs false

theorem empty_eS {s : ByteArray} (h : s.data.toList.isEmpty = true) : s = eS := bytes_eq (by rw [List.isEmpty_iff.1 h]; rfl)
theorem list_nil {α : Type} {l : List α} (h : l.isEmpty = true) : l = [] := List.isEmpty_iff.1 h
/-- A step of which no text, and no list, is long. -/
structure ShortS (x : ST) : Prop where
  tag : x.tag.size ≤ 262144
  bytes : x.bytes.size ≤ 262144
  name : x.name.size ≤ 262144
  attr : x.attr.size ≤ 262144
  wl : x.wishes.length ≤ 262144
  ws : ∀ w ∈ x.wishes, w.size ≤ 262144
  al : x.args.length ≤ 262144
  an : ∀ a ∈ x.args, a.name.size ≤ 262144 ∧ a.text.size ≤ 262144
theorem ShortS.ok {x : ST} (h : ShortS x) : OkS x := ⟨by have := h.wl; omega, by have := h.al; omega, fun a ha => by have := (h.an a ha).2; omega⟩
theorem valS_of {x : ST} (hs : ShortS x) (hr : rightS x = true) : ValS x := by
  obtain ⟨hk, ha⟩ := rightS_args hr
  unfold rightS addsS asksS at hr
  rcases hk with hk | hk | hk
  · rw [if_pos hk] at hr
    simp only [Bool.and_eq_true, Bool.not_eq_true', Bool.or_eq_false_iff, Bool.not_eq_false'] at hr
    exact .inl ⟨hk, list_nil hr.1, empty_eS hr.2.1.1, empty_eS hr.2.1.2, list_nil hr.2.2, hs.tag, hs.bytes⟩
  · rw [if_neg (by omega), if_pos hk] at hr
    simp only [Bool.and_eq_true, Bool.not_eq_true', Bool.or_eq_false_iff, Bool.not_eq_false'] at hr
    exact .inr (.inl ⟨hk, empty_eS hr.1.1, hr.1.2, empty_eS hr.2.1.1, empty_eS hr.2.1.2, list_nil hr.2.2, hs.tag, hs.wl, hs.ws⟩)
  · rw [if_neg (by omega), if_neg (by omega), if_pos hk] at hr
    simp only [Bool.and_eq_true, Bool.not_eq_true', Bool.or_eq_false_iff, Bool.not_eq_false'] at hr
    refine .inr (.inr ⟨hk, empty_eS hr.1.2, empty_eS hr.1.1.1.1, hr.1.1.1.2, list_nil hr.1.1.2, hs.name, hs.attr, hs.al, fun a h => ?_⟩)
    have := okA_kind (ha hk a h)
    exact ⟨(hs.an a h).1, by omega, (hs.an a h).2⟩
theorem encL_cons (x : ST) (l : List ST) : encL (x :: l) = encS x ++ encL l := by unfold encL; rw [List.flatMap_cons]
theorem decG_enc (size : Nat) : ∀ (l acc : List ST) (r r' : ByteArray) (n m : Nat), (∀ x ∈ l, ValS x ∧ rightS x = true) → acc.length + l.length ≤ 4096 → r.data.toList = encL l ++ r'.data.toList → r.size < n → r'.size < m → decG size n acc r = decG size m (acc ++ l) r'
  | [], acc, r, r', n, m, hv, hl, hr, hn, hm => by
    have : r = r' := bytes_eq (by simpa [encL] using hr)
    rw [this, List.append_nil]
    exact decG_fuel size n m acc r' (by rw [← this]; exact hn) hm
  | x :: l, acc, r, r', 0, m, hv, hl, hr, hn, hm => by omega
  | x :: l, acc, r, r', n + 1, m, hv, hl, hr, hn, hm => by
    rw [encL_cons, List.append_assoc] at hr
    have hx := hv x (List.mem_cons_self ..)
    have q := rds_step.to r x (mkS (encL l ++ r'.data.toList)) hx.1 hr
    have hpos := encS_pos x
    have hrs : r.size ≠ 0 := fun h => by
      have := congrArg List.length hr
      rw [size_data, List.length_append] at this
      omega
    have hlt : (mkS (encL l ++ r'.data.toList)).size < r.size := by
      have := congrArg List.length hr
      rw [size_data, List.length_append] at this
      rw [size_mkS]
      omega
    rw [List.length_cons] at hl
    rw [decG, if_neg hrs, q]
    dsimp only
    rw [if_neg (by rw [hx.2]; simp), if_neg (by omega), decG_enc size l (acc ++ [x]) (mkS (encL l ++ r'.data.toList)) r' n m (fun y hy => hv y (List.mem_cons_of_mem _ hy)) (by rw [List.length_append, List.length_singleton]; omega) rfl (by omega) hm, List.append_assoc, List.singleton_append]
theorem decD_enc (l : List ST) (hv : ∀ x ∈ l, ValS x ∧ rightS x = true) (hl : l.length ≤ 4096) (hs : (encL l).length ≤ 262144) : decD (mkS (encL l)) = (l, (encL l).length, 0) := by
  unfold decD
  rw [size_mkS, if_neg (by omega), decG_enc _ l [] (mkS (encL l)) eS _ 1 hv (by simpa using hl) (by rw [mkS_data]; simp [eS]) (by rw [size_mkS]; omega) (by decide), decG, if_pos (by rfl), List.nil_append]
/-- What was read. -/
theorem decG_of (size : Nat) : ∀ (n : Nat) (acc : List ST) (r : ByteArray), r.size < n → r.size ≤ size → ∃ l r', (decG size n acc r).1 = acc ++ l ∧ (∀ x ∈ l, ValS x ∧ rightS x = true) ∧ r.data.toList = encL l ++ r'.data.toList ∧ r'.size ≤ size ∧ (decG size n acc r).2.1 = size - r'.size ∧
    (((decG size n acc r).2.2 = 0 ∧ r'.size = 0) ∨ ((decG size n acc r).2.2 = 2 ∧ 0 < r'.size ∧ ((stepG (r', false)).2.2 = true ∨ rightS (stepG (r', false)).1 = false)) ∨ ((decG size n acc r).2.2 = 4 ∧ (acc ++ l).length = 4096))
  | 0, acc, r, hn, _ => by omega
  | n + 1, acc, r, hn, hsz => by
    rw [decG]
    by_cases h0 : r.size = 0
    · rw [if_pos h0]
      exact ⟨[], r, by simp, (fun x h => by cases h), by simp [encL], hsz, by dsimp only; omega, .inl ⟨rfl, h0⟩⟩
    · rw [if_neg h0]
      by_cases h1 : (stepG (r, false)).2.2 = true ∨ rightS (stepG (r, false)).1 = false
      · rw [if_pos h1]
        exact ⟨[], r, by simp, (fun x h => by cases h), by simp [encL], hsz, rfl, .inr (.inl ⟨rfl, by omega, h1⟩)⟩
      · rw [if_neg h1]
        by_cases h2 : acc.length = 4096
        · rw [if_pos h2]
          exact ⟨[], r, by simp, (fun x h => by cases h), by simp [encL], hsz, rfl, .inr (.inr ⟨rfl, by simpa using h2⟩)⟩
        · rw [if_neg h2]
          have hf : (stepG (r, false)).2.2 = false := by
            cases h : (stepG (r, false)).2.2
            · rfl
            · exact absurd (.inl h) h1
          have hrt : rightS (stepG (r, false)).1 = true := by
            cases h : rightS (stepG (r, false)).1
            · exact absurd (.inr h) h1
            · rfl
          have hsh := stepG_shrinks hf
          have hg := rds_step.got hf
          obtain ⟨l, r', e1, e2, e3, e4, e5, e6⟩ := decG_of size n (acc ++ [(stepG (r, false)).1]) (stepG (r, false)).2.1 (by omega) (by omega)
          refine ⟨(stepG (r, false)).1 :: l, r', by rw [e1]; simp, ?_, ?_, e4, e5, ?_⟩
          · intro x hx
            rcases List.mem_cons.1 hx with rfl | hx
            · exact ⟨hg.2.1, hrt⟩
            · exact e2 x hx
          · have := hg.2.2
            dsimp only at this
            rw [this, e3, encL_cons, List.append_assoc]
          · rw [List.append_assoc, List.singleton_append] at e6
            exact e6
theorem own_conv {B : Nat} {W : World} {v : Value} {l : List UInt8} (h : OwnBy B W v l) : CvT v (mkS l) W := by
  unfold CvT
  rcases h.2 with ⟨rfl, h0⟩ | ⟨g, cap, cur, rfl, _⟩
  · have : l = [] := List.eq_nil_of_length_eq_zero h0
    subst this
    exact run_convert_bytes_nil (P := Tryd.prog) W 32 5 Tryd.underlying32 Tryd.underlying5 0 0 9 Tryd.underlying9
  · have hb : Lib.Bytes W g 0 (mkS l) := fun i hi => by
      rw [size_mkS] at hi
      have := World.ownsRow.cells (g := g) h rfl i (.int .u8 (l[i].toNat : Nat)) (by unfold Lib.byteCells; rw [List.getElem?_map, List.getElem?_eq_getElem hi]; rfl)
      rw [addMid] at this
      exact this
    have := Lib.run_convert_whole (P := Tryd.prog) W 32 5 9 Tryd.underlying32 Tryd.underlying5 Tryd.underlying9 g 0 (mkS l) hb cap
    rw [size_mkS] at this
    exact this
theorem own_len {B : Nat} {W : World} {v : Value} {l : List UInt8} (h : OwnBy B W v l) : ∃ A c, v = .slice A l.length c := by
  rcases h.2 with ⟨rfl, h0⟩ | ⟨g, cap, cur, rfl, _⟩
  · exact ⟨none, 0, by rw [h0]⟩
  · exact ⟨_, _, rfl⟩
end Go.Proofs.YtnkijpjknbelfaaDoor
