/-
  Several texts put together (part 36): what the law and the program call, walked; their contracts.
-/
import Derived.Test.YtpgiboblonlddaaGreatDoorQ5
import Derived.Maps.Range
import Derived.Sort.KeysCollected
namespace Go.Proofs.YtpgiboblonlddaaGreatDoor
open Go.RowKit Go.ChangeMaps Go.WideShapes
open Go.WideElems (Fit rd rg rd_mk rg_of)
set_option linter.unusedVariables false
set_option linter.unusedSimpArgs false
def mvE (p : (ByteArray × Value) × Nat) : MapEntry := { key := .string p.1.1, val := p.1.2, born := p.2 }
def mapV (L : List (ByteArray × Value)) : Array MapEntry := (L.zipIdx.map mvE).toArray
def lookI (n : ByteArray) : List (ByteArray × Value) → Nat → Option (Nat × Value)
  | [], _ => none
  | y :: r, j => if y.1 = n then some (j, y.2) else lookI n r (j + 1)
def lookV (n : ByteArray) : List (ByteArray × Value) → Option Value
  | [] => none
  | y :: r => if y.1 = n then some y.2 else lookV n r
def putV (n : ByteArray) (v : Value) : List (ByteArray × Value) → List (ByteArray × Value)
  | [] => [(n, v)]
  | y :: r => if y.1 = n then (n, v) :: r else y :: putV n v r
theorem lookI_V (n : ByteArray) : ∀ (L : List (ByteArray × Value)) (j : Nat), (lookI n L j).map (·.2) = lookV n L
  | [], j => rfl
  | y :: r, j => by
    rw [lookI, lookV]
    split
    · rfl
    · exact lookI_V n r (j + 1)
theorem find_v (n : ByteArray) : ∀ (L : List (ByteArray × Value)) (j : Nat), Instr.findNow .string (.string n) ((L.zipIdx j).map mvE) j = some (lookI n L j)
  | [], j => rfl
  | y :: L, j => by
    have e0 : Instr.findNow .string (.string n) (((y :: L).zipIdx j).map mvE) j = (match (some (n == y.1) : Option Bool) with | some true => some (some (j, y.2)) | some false => Instr.findNow .string (.string n) ((L.zipIdx (j + 1)).map mvE) (j + 1) | none => none) := by
      rw [List.zipIdx_cons, List.map_cons]
      rfl
    rw [e0, lookI]
    cases hb : (n == y.1) with
    | true => rw [if_pos (beqT.1 hb).symm]
    | false =>
      rw [if_neg (fun h => by rw [beqT.2 h.symm] at hb; cases hb)]
      exact find_v n L (j + 1)
theorem find_map (n : ByteArray) (L : List (ByteArray × Value)) : Instr.findNow .string (.string n) (mapV L).toList 0 = some (lookI n L 0) := find_v n L 0
theorem put_none (n : ByteArray) (v : Value) : ∀ (L : List (ByteArray × Value)) (j : Nat), lookI n L j = none → putV n v L = L ++ [(n, v)]
  | [], j, _ => rfl
  | y :: L, j, h => by
    rw [lookI] at h
    rw [putV]
    split at h
    · cases h
    · next hn => rw [if_neg hn, put_none n v L (j + 1) h]; rfl
theorem put_some (n : ByteArray) (v : Value) : ∀ (L : List (ByteArray × Value)) (j i : Nat) (u : Value), lookI n L j = some (i, u) → j ≤ i ∧ L[i - j]? = some (n, u) ∧ putV n v L = L.set (i - j) (n, v)
  | [], j, i, u, h => by cases h
  | y :: L, j, i, u, h => by
    rw [lookI] at h
    rw [putV]
    split at h
    · next hn =>
      cases h
      rw [if_pos hn, Nat.sub_self]
      obtain ⟨a, b⟩ := y
      simp only at hn
      subst hn
      exact ⟨Nat.le_refl _, rfl, rfl⟩
    · next hn =>
      obtain ⟨h1, h2, h3⟩ := put_some n v L (j + 1) i u h
      rw [if_neg hn, h3, show i - j = (i - (j + 1)) + 1 by omega]
      exact ⟨by omega, by simpa using h2, rfl⟩
theorem mapV_push (L : List (ByteArray × Value)) (n : ByteArray) (v : Value) : (mapV L).push { key := .string n, val := v, born := L.length } = mapV (L ++ [(n, v)]) := by
  unfold mapV
  rw [List.zipIdx_append, List.map_append]
  apply Array.toList_inj.1
  simp [mvE]
theorem zip_setV : ∀ (L : List (ByteArray × Value)) (i j : Nat) (e : ByteArray × Value), ((L.set i e).zipIdx j) = (L.zipIdx j).modify i (fun p => (e, p.2))
  | [], i, j, e => by cases i <;> rfl
  | y :: L, 0, j, e => by rw [List.set_cons_zero, List.zipIdx_cons, List.zipIdx_cons]; rfl
  | y :: L, i + 1, j, e => by
    rw [List.set_cons_succ, List.zipIdx_cons, List.zipIdx_cons, zip_setV L i (j + 1) e]
    rfl
theorem mapV_set (L : List (ByteArray × Value)) (i : Nat) (n : ByteArray) (v : Value) : (mapV L).modify i (fun y => { y with key := .string n, val := v }) = mapV (L.set i (n, v)) := by
  unfold mapV
  apply Array.toList_inj.1
  rw [zip_setV, Array.toList_modify]
  apply List.ext_getElem?
  intro k
  simp only [List.getElem?_modify, List.getElem?_map]
  by_cases h : i = k
  · subst h
    cases (L.zipIdx)[i]? <;> simp [mvE]
  · simp [h]
theorem mapV_get {L : List (ByteArray × Value)} {i : Nat} {y : ByteArray × Value} (h : L[i]? = some y) : (mapV L)[i]? = some (mvE (y, i)) := by
  unfold mapV
  rw [List.getElem?_toArray, List.getElem?_map, List.getElem?_zipIdx, h]
  simp
theorem run_look_v {P : Program} {t k e : TypeId} (ht : P.underlying t = some (.map k e)) (hk : P.underlying k = some .string) (w : World) {z : Value} (hz : (zeroValue e).run P w = .ok z w) (b : Nat) (L : List (ByteArray × Value)) (hb : MapAt w b (mapV L) L.length) (n : ByteArray) :
    (Instr.lookup t (.map (some b)) (.string n) true).run P w = .ok (.tuple #[(lookV n L).getD z, .bool (lookV n L).isSome]) w := by
  have := run_look ht hk w hz b (mapV L) L.length hb n _ (find_map n L)
  rw [lookI_V] at this
  rw [this, show (lookI n L 0).isSome = (lookV n L).isSome by rw [← lookI_V n L 0]; cases lookI n L 0 <;> rfl]
theorem run_look_w {P : Program} {t k e : TypeId} (ht : P.underlying t = some (.map k e)) (hk : P.underlying k = some .string) (w : World) {z : Value} (hz : (zeroValue e).run P w = .ok z w) (b : Nat) (L : List (ByteArray × Value)) (hb : MapAt w b (mapV L) L.length) (n : ByteArray) :
    (Instr.lookup t (.map (some b)) (.string n) false).run P w = .ok ((lookV n L).getD z) w := by
  have hn := find_map n L
  have h1 : (Instr.findKey k (.string n) (mapV L).toList).run P w = .ok (lookI n L 0) w := by
    simp [Instr.findKey, run_underlying hk, hn, Result.andThen]
  have hc := check_str hk w (mapV L).isEmpty n
  have hb' : w.heap[b]? = some (.map (mapV L) L.length) := hb
  rw [← lookI_V n L 0]
  cases hr : lookI n L 0 with
  | none => rw [hr] at h1; simp [Instr.lookup, run_underlying ht, MapKept.run_getObj_map hb', hc, h1, hz, Result.andThen]
  | some p => rw [hr] at h1; simp [Instr.lookup, run_underlying ht, MapKept.run_getObj_map hb', hc, h1, Result.andThen]
theorem run_put_v {P : Program} {t k e : TypeId} (ht : P.underlying t = some (.map k e)) (hk : P.underlying k = some .string) (w : World) (b : Nat) (L : List (ByteArray × Value)) (hb : MapAt w b (mapV L) L.length) (n : ByteArray) (v : Value) :
    (Instr.mapUpdate t (.map (some b)) (.string n) v).run P w = .ok () (setBlock w b (.map (mapV (putV n v L)) (putV n v L).length)) := by
  have hn := find_map n L
  cases hr : lookI n L 0 with
  | none =>
    rw [hr] at hn
    rw [run_put_new ht hk w b (mapV L) L.length hb n v hn, put_none n v L 0 hr, mapV_push, List.length_append]
    rfl
  | some p =>
    obtain ⟨i, u⟩ := p
    rw [hr] at hn
    obtain ⟨_, h2, h3⟩ := put_some n v L 0 i u hr
    rw [Nat.sub_zero] at h2 h3
    rw [run_put_old ht hk w b (mapV L) L.length hb n v i u (mvE ((n, u), i)) hn (mapV_get h2) rfl, h3, mapV_set, List.length_set]
def anyE (_ : Value) : Option (DataW Unit × List MemPlace) := some (.nil, [])
theorem owns_v {P : Program} {k : TypeId} (hk : P.underlying k = some .string) {w : World} {b : Nat} {L : List (ByteArray × Value)} (hb : MapAt w b (mapV L) L.length) (hd : (L.map (·.1)).Nodup) (hs : ∀ p ∈ L, p.1.size ≤ maxLen) (hl : L.length ≤ maxLen) :
    ∃ D : DataW Unit, w.ownsMap P k anyE b L.length D ∧ Maps.size D = L.length ∧ (strKeys D).Perm (L.map (·.1.data.toList)) := by
  have hsz : (mapV L).size = L.length := by unfold mapV; simp
  have hrd : ∀ x ∈ (mapV L).toList, ∃ p ∈ L, x.key = .string p.1 ∧ rd P k anyE x = some (.string p.1.data.toList, .nil) := by
    intro x hx
    unfold mapV at hx
    obtain ⟨p, hp, rfl⟩ := List.mem_map.1 hx
    have hm : p.1 ∈ L := by
      obtain ⟨a, i⟩ := p
      have := List.mem_zipIdx hp
      rw [this.2.2]
      exact List.getElem_mem _
    refine ⟨p.1, hm, rfl, ?_⟩
    show rd P k anyE ⟨.string p.1.1, p.1.2, p.2⟩ = _
    exact rd_mk (yv := (DataW.nil, [])) (WideMaps.keyOf_string_mk hk (hs _ hm)) rfl
  refine ⟨.map (((mapV L).toList.map (rg P k anyE)).foldr DataW.insert []), ⟨mapV L, L.length, hb, ⟨by rw [hsz]; exact hl, ?_, fun x hx => ?_⟩, by rw [hsz]; exact Nat.le_refl _, rfl⟩, ?_, ?_⟩
  · refine (MapKept.stamped_iff _ _).2 ⟨fun x hx => ?_, ?_, ?_⟩
    · unfold mapV at hx
      obtain ⟨p, hp, rfl⟩ := List.mem_map.1 hx
      obtain ⟨a, i⟩ := p
      have := List.mem_zipIdx hp
      show i < _
      omega
    · have : (mapV L).toList.map (·.born) = List.range' 0 L.length := by
        unfold mapV
        rw [List.map_map]
        exact List.zipIdx_map_snd 0 L
      rw [this]
      exact List.nodup_range'
    · have h2 : ((mapV L).toList.map (·.key)).Nodup := by
        have : (mapV L).toList.map (·.key) = (L.map (·.1)).map Value.string := by
          unfold mapV
          rw [List.map_map, List.map_map]
          conv => rhs; rw [← List.zipIdx_map_fst 0 L, List.map_map]
          rfl
        rw [this]
        refine List.pairwise_map.2 (hd.imp (fun hne e => hne (by injection e)))
      exact List.pairwise_map.1 h2
  · obtain ⟨p, _, _, h⟩ := hrd x hx
    exact ⟨_, h⟩
  · show (List.foldr DataW.insert [] ((mapV L).toList.map (rg P k anyE))).length = _
    rw [length_sorted, List.length_map, Array.length_toList, hsz]
  · unfold strKeys
    refine ((sorted_perm _).map _).trans ?_
    rw [List.map_map]
    have : (mapV L).toList.map (fun x => strOf (rg P k anyE x).1) = L.map (·.1.data.toList) := by
      have h1 : (mapV L).toList.map (fun x => strOf (rg P k anyE x).1) = (mapV L).toList.map (fun x => match x.key with | .string s => s.data.toList | _ => []) := by
        apply List.map_congr_left
        intro x hx
        obtain ⟨p, _, h1, h2⟩ := hrd x hx
        rw [rg_of h2, h1]
        rfl
      rw [h1]
      unfold mapV
      rw [List.map_map]
      conv => rhs; rw [← List.zipIdx_map_fst 0 L, List.map_map]
      rfl
    exact List.Perm.of_eq this
end Go.Proofs.YtpgiboblonlddaaGreatDoor
