/-
  Several texts put together (part 15): what the law and the program call, walked; their contracts.
-/
import Derived.Test.YtamghpleajbonaaGreatDoorQ7
import Derived.Test.YtamghpleajbonaaGreatDoorQ14
namespace Go.Proofs.YtamghpleajbonaaGreatDoor
open Go.RowKit Go.ChangeMaps
set_option linter.unusedVariables false
set_option linter.unusedSimpArgs false
structure VE where
  x : EN
  A : Option Addr
  c : Nat
  B : Option Addr
  d : Nat
def VE.v (e : VE) : Value := .agg #[.int .i64 e.x.ty, .int .i64 e.x.lv, .string e.x.tx, .string e.x.nm, .slice e.A e.x.val.length e.c, .slice e.B e.x.ats.length e.d, .int .i64 e.x.fr, .int .i64 e.x.tu]
def entM (p : VE × Nat) : MapEntry := { key := .string p.1.x.nm, val := p.1.v, born := p.2 }
def mapOf (L : List VE) : Array MapEntry := (L.zipIdx.map entM).toArray
def putL (over : Bool) (e : VE) : List VE → List VE × Bool
  | [] => ([e], false)
  | y :: r => if y.x.nm = e.x.nm then ((if over then e else y) :: r, true) else (y :: (putL over e r).1, (putL over e r).2)
theorem beqT {a b : ByteArray} : (a == b) = true ↔ a = b := by
  constructor
  · intro h
    have h1 : (a.data == b.data) = true := h
    have h2 : a.data = b.data := by simpa using h1
    obtain ⟨x⟩ := a
    obtain ⟨y⟩ := b
    simp only at h2
    rw [h2]
  · rintro rfl
    show (a.data == a.data) = true
    exact beq_self_eq_true _
theorem find_put (over : Bool) (e : VE) : ∀ (L : List VE) (j : Nat), ∃ r, Instr.findNow .string (.string e.x.nm) ((L.zipIdx j).map entM) j = some r ∧
    (r = none → putL over e L = (L ++ [e], false)) ∧ (∀ i v, r = some (i, v) → j ≤ i ∧ ∃ y, L[i - j]? = some y ∧ y.x.nm = e.x.nm ∧ v = y.v ∧ putL over e L = (if over then L.set (i - j) e else L, true))
  | [], j => ⟨none, rfl, fun _ => rfl, fun i v h => by cases h⟩
  | y :: L, j => by
    have e0 : Instr.findNow .string (.string e.x.nm) (((y :: L).zipIdx j).map entM) j = (match (some (e.x.nm == y.x.nm) : Option Bool) with | some true => some (some (j, y.v)) | some false => Instr.findNow .string (.string e.x.nm) ((L.zipIdx (j + 1)).map entM) (j + 1) | none => none) := by
      rw [List.zipIdx_cons, List.map_cons]
      rfl
    rw [e0]
    cases hb : (e.x.nm == y.x.nm) with
    | true =>
      have hn : y.x.nm = e.x.nm := (beqT.1 hb).symm
      refine ⟨some (j, y.v), rfl, (fun h => by cases h), fun i v h => ?_⟩
      cases h
      refine ⟨Nat.le_refl _, y, by simp, hn, rfl, ?_⟩
      rw [putL, if_pos hn, Nat.sub_self]
      cases over <;> rfl
    | false =>
      have hn : ¬ y.x.nm = e.x.nm := fun h => by rw [beqT.2 h.symm] at hb; cases hb
      obtain ⟨r, h1, h2, h3⟩ := find_put over e L (j + 1)
      refine ⟨r, h1, fun hr => ?_, fun i v hr => ?_⟩
      · rw [putL, if_neg hn, h2 hr]
        rfl
      · obtain ⟨h4, z, h5, h6, h7, h8⟩ := h3 i v hr
        refine ⟨by omega, z, ?_, h6, h7, ?_⟩
        · rw [show i - j = (i - (j + 1)) + 1 by omega, List.getElem?_cons_succ]
          exact h5
        · rw [putL, if_neg hn, h8, show i - j = (i - (j + 1)) + 1 by omega]
          cases over <;> rfl
theorem mapOf_push (L : List VE) (e : VE) : (mapOf L).push { key := .string e.x.nm, val := e.v, born := L.length } = mapOf (L ++ [e]) := by
  unfold mapOf
  rw [List.zipIdx_append, List.map_append]
  apply Array.toList_inj.1
  simp [entM]
theorem zip_set : ∀ (L : List VE) (i j : Nat) (e : VE), ((L.set i e).zipIdx j) = (L.zipIdx j).modify i (fun p => (e, p.2))
  | [], i, j, e => by cases i <;> rfl
  | y :: L, 0, j, e => by rw [List.set_cons_zero, List.zipIdx_cons, List.zipIdx_cons]; rfl
  | y :: L, i + 1, j, e => by
    rw [List.set_cons_succ, List.zipIdx_cons, List.zipIdx_cons, zip_set L i (j + 1) e]
    rfl
theorem mapOf_set (L : List VE) (i : Nat) (e : VE) : (mapOf L).modify i (fun y => { y with key := .string e.x.nm, val := e.v }) = mapOf (L.set i e) := by
  unfold mapOf
  apply Array.toList_inj.1
  rw [zip_set, Array.toList_modify]
  apply List.ext_getElem?
  intro k
  simp only [List.getElem?_modify, List.getElem?_map]
  by_cases h : i = k
  · subst h
    cases (L.zipIdx)[i]? <;> simp [entM]
  · simp [h]
theorem mapOf_get {L : List VE} {i : Nat} {y : VE} (h : L[i]? = some y) : (mapOf L)[i]? = some (entM (y, i)) := by
  unfold mapOf
  rw [List.getElem?_toArray, List.getElem?_map, List.getElem?_zipIdx, h]
  simp
theorem put_all (mb : Nat) (L : List VE) (e : VE) (over : Bool) (w : World) (hm : MapAt w mb (mapOf L) L.length) :
    Calls Tryz.prog 27 #[.map (some mb), e.v, .bool over] w fun e' w' => e' = .returned (.bool (putL over e L).2) ∧ MapAt w' mb (mapOf (putL over e L).1) (putL over e L).1.length ∧ Kp mb w w' := by
  obtain ⟨r, h1, h2, h3⟩ := find_put over e L 0
  have h1' : Instr.findNow .string (.string e.x.nm) (mapOf L).toList 0 = some r := h1
  have hl := hm.lt
  cases r with
  | none =>
    rw [h2 rfl]
    refine (put_new mb L.length (mapOf L) e.x.nm _ _ _ _ _ _ _ over w hm h1').mono ?_
    rintro e' w' ⟨rfl, g1, g2⟩
    refine ⟨rfl, ?_, g2⟩
    rw [List.length_append, ← mapOf_push]
    exact g1
  | some p =>
    obtain ⟨i, v⟩ := p
    obtain ⟨h4, y, h5, h6, rfl, h7⟩ := h3 i v rfl
    rw [Nat.sub_zero] at h5 h7
    rw [h7]
    cases over with
    | false =>
      refine (put_kept mb L.length i (mapOf L) e.x.nm _ _ _ _ _ _ _ _ _ _ _ _ _ _ _ _ _ _ _ w hm h1').mono ?_
      rintro e' w' ⟨rfl, g1, g2⟩
      exact ⟨rfl, g1, Kp.of_below g2 (Nat.le_of_lt hl)⟩
    | true =>
      refine (put_over mb L.length i (mapOf L) e.x.nm _ _ _ _ _ _ _ _ _ _ _ _ _ _ _ _ _ _ _ (entM (y, i)) w hm h1' (mapOf_get h5) (by unfold entM; rw [h6])).mono ?_
      rintro e' w' ⟨rfl, g1, g2⟩
      refine ⟨rfl, ?_, g2⟩
      simp only [if_true]
      rw [List.length_set, ← mapOf_set]
      exact g1
end Go.Proofs.YtamghpleajbonaaGreatDoor
