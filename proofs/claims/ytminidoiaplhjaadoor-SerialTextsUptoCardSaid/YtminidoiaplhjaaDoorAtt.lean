/-
  Attributes in memory; an entry as a value.
-/
import Derived.Test.YtminidoiaplhjaaDoorTr
namespace Go.Proofs.YtminidoiaplhjaaDoor
open Go.RowKit
set_option linter.unusedVariables false
set_option linter.unusedSimpArgs false

/-- An attribute. -/
inductive AT where
  | mk (name : ByteArray) (value : List EL)
def sizeTs : List AT → Nat
  | [] => 0
  | .mk n v :: r => 1 + n.size + sizeEs v + sizeTs r
def TsAt (W : World) : List AT → Nat → Nat → Prop
  | [], _, _ => True
  | .mk n v :: r, b, o => b < W.heap.size ∧ W.cell? ⟨b, o, none⟩ = some (.string n) ∧ (∃ u, W.cell? ⟨b, o + 1, none⟩ = some u ∧ PatAt W v u) ∧ TsAt W r b (o + 2)
theorem TsAt.get {W : World} : ∀ {l : List AT} {b o : Nat} (j : Nat) {t : ByteArray} {v : List EL}, TsAt W l b o → l[j]? = some (.mk t v) →
    b < W.heap.size ∧ W.cell? ⟨b, o + j * 2, none⟩ = some (.string t) ∧ ∃ u, W.cell? ⟨b, o + j * 2 + 1, none⟩ = some u ∧ PatAt W v u
  | [], b, o, j, t, p, h, hj => by simp at hj
  | .mk t' p' :: r, b, o, 0, t, p, h, hj => by
    rw [TsAt] at h
    simp at hj
    obtain ⟨rfl, rfl⟩ := hj
    obtain ⟨h0, h1, h2, _⟩ := h
    exact ⟨h0, by simpa using h1, by simpa using h2⟩
  | .mk t' p' :: r, b, o, j + 1, t, p, h, hj => by
    rw [TsAt] at h
    have := TsAt.get j h.2.2.2 (by simpa using hj)
    rw [show o + (j + 1) * 2 = o + 2 + j * 2 by omega]
    exact this
theorem ats_get {W0 : World} {l : List AT} {v : Value} (h : LieAt (TsAt W0 l) v l.length) {i : Nat} (hi : i < l.length) : ∃ b o c, v = .slice (some ⟨b, o, none⟩) l.length c ∧ b < W0.heap.size ∧
    ∀ j t p, l[j]? = some (.mk t p) → W0.cell? ⟨b, o + j * 2, none⟩ = some (.string t) ∧ ∃ u, W0.cell? ⟨b, o + j * 2 + 1, none⟩ = some u ∧ PatAt W0 p u := by
  obtain ⟨A, c, rfl, _, _, h2⟩ := h
  obtain ⟨b, o, rfl, h3⟩ := h2 (by omega)
  have h0 : l[0]? = some l[0] := List.getElem?_eq_getElem (by omega)
  refine ⟨b, o, c, rfl, ?_, fun j t p hj => ⟨(h3.get j hj).2.1, (h3.get j hj).2.2⟩⟩
  cases e : l[0]'(by omega) with
  | mk t p => rw [e] at h0; exact (h3.get 0 h0).1
theorem sizeTs_length : ∀ l : List AT, l.length ≤ sizeTs l
  | [] => Nat.zero_le _
  | .mk t p :: r => by have := sizeTs_length r; rw [sizeTs, List.length_cons]; omega
theorem sizeTs_append : ∀ a b : List AT, sizeTs (a ++ b) = sizeTs a + sizeTs b
  | [], b => by rw [List.nil_append, sizeTs]; omega
  | .mk t p :: r, b => by rw [List.cons_append, sizeTs, sizeTs, sizeTs_append r b]; omega
theorem sizeTs_take (l : List AT) (i : Nat) : sizeTs (l.take i) ≤ sizeTs l := by
  have := sizeTs_append (l.take i) (l.drop i)
  rw [List.take_append_drop] at this
  omega
/-- An entry as it is handed on. -/
def entV (ty level : Int) (text name : ByteArray) (v u : Value) (fr tu : Int) : Value := .agg #[.int .i64 ty, .int .i64 level, .string text, .string name, v, u, .int .i64 fr, .int .i64 tu]
end Go.Proofs.YtminidoiaplhjaaDoor
