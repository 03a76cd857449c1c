/-
  Package ast: samePatterns, where what stands in places is at one place.
-/
import Derived.Test.YtbolmffldmegeaaDoorAsw
import Derived.StillTailTactics
namespace Go.Proofs.YtbolmffldmegeaaDoor
open Go.RowKit
set_option linter.unusedVariables false
set_option linter.unusedSimpArgs false

set_option maxHeartbeats 2000000 in
set_option maxRecDepth 100000 in
theorem pat1_no (qb b o b' o' n c n' c' kL kO kQ i : Nat) (t t' : ByteArray) (p : Option Addr) (w : World) (hi : i < n) (hi' : i < n') (hn : n ≤ 4000000) (hn' : n' ≤ 4000000)
    (hL : w.cell? ⟨kL, 0, none⟩ = some (.slice (some ⟨b, o, none⟩) n c)) (hO : w.cell? ⟨kO, 0, none⟩ = some (.slice (some ⟨b', o', none⟩) n' c')) (hQ : w.cell? ⟨kQ, 0, none⟩ = some (pt qb))
    (c0 : w.cell? ⟨b, o + i * 2, none⟩ = some (.string t)) (c1 : w.cell? ⟨b, o + i * 2 + 1, none⟩ = some (.pointer p)) (c2 : w.cell? ⟨b', o' + i * 2, none⟩ = some (.string t')) (c3 : w.cell? ⟨b', o' + i * 2 + 1, none⟩ = some (.pointer p)) (ht : t ≠ t') :
    Calls Tryd.prog 33 #[.int .i64 (i : Nat), pt kL, pt kO, pt kQ] w fun e w' => e = .returned (.bool false) ∧ Below w.heap.size w w' := by
  have hi0 : (i : Int) < (n : Int) := by omega
  have hi1 : (i : Int) < (n' : Int) := by omega
  have hz : (t.toList == t'.toList) = false := by
    rw [beq_eq_false_iff_ne]
    intro e
    rw [Lib.toList_data, Lib.toList_data] at e
    exact ht (bytes_eq e)
  have hi2 : (i : Int) ≤ 4000000 := by omega
  unfold pt at *
  go_enter Tryd.func33, Tryd.ntmps33
  go_wp2
  go_quiet (fail)
  go_wp2
  go_ret
  exact ⟨rfl, below_drewN (Below.refl _ _) _⟩
set_option maxHeartbeats 2000000 in
set_option maxRecDepth 100000 in
theorem pat1_yes (qb b o b' o' n c n' c' kL kO kQ i : Nat) (t : ByteArray) (p : Option Addr) (w : World) (hi : i < n) (hi' : i < n') (hn : n ≤ 4000000) (hn' : n' ≤ 4000000)
    (hL : w.cell? ⟨kL, 0, none⟩ = some (.slice (some ⟨b, o, none⟩) n c)) (hO : w.cell? ⟨kO, 0, none⟩ = some (.slice (some ⟨b', o', none⟩) n' c')) (hQ : w.cell? ⟨kQ, 0, none⟩ = some (pt qb))
    (c0 : w.cell? ⟨b, o + i * 2, none⟩ = some (.string t)) (c1 : w.cell? ⟨b, o + i * 2 + 1, none⟩ = some (.pointer p)) (c2 : w.cell? ⟨b', o' + i * 2, none⟩ = some (.string t)) (c3 : w.cell? ⟨b', o' + i * 2 + 1, none⟩ = some (.pointer p)) :
    Calls Tryd.prog 33 #[.int .i64 (i : Nat), pt kL, pt kO, pt kQ] w fun e w' => e = .returned (.bool true) ∧ Below w.heap.size w w' := by
  have hi0 : (i : Int) < (n : Int) := by omega
  have hi1 : (i : Int) < (n' : Int) := by omega
  have hz : (t.toList == t.toList) = true := beq_iff_eq.2 rfl
  have hi2 : (i : Int) ≤ 4000000 := by omega
  have hw := fun W => within_one qb p W
  have HW := Lib.hid hw
  clear hw
  unfold pt at *
  go_enter Tryd.func33, Tryd.ntmps33
  go_wp2
  go_still_tail 23, (by kernel_rfl)
  change wpList _ _ _ _ _ w.drew
  go_wp2_with fail
  go_at_call 34
  refine (HW.out _).mono ?_
  rintro e w2 ⟨rfl, hb⟩
  have hb2 : Below w.heap.size w w2 := ((Below.refl _ _).drew).trans hb
  have HB := Lib.hid hb2
  clear hb hb2
  go_wp2
  go_ret
  exact ⟨rfl, HB.out⟩
/-- The texts of two patterns, whose places hold the same. -/
def TwoAt (W : World) (l l' : List EL) (v v' : Value) : Prop := PatAt W l v ∧ PatAt W l' v' ∧ ∀ b o b' o', (∃ n c, v = .slice (some ⟨b, o, none⟩) n c) → (∃ n c, v' = .slice (some ⟨b', o', none⟩) n c) → ∀ j, j < l.length → j < l'.length → W.cell? ⟨b, o + j * 2 + 1, none⟩ = W.cell? ⟨b', o' + j * 2 + 1, none⟩
def txtAt (l l' : List EL) (i : Nat) : Bool := decide ((l[i]?).map elText = (l'[i]?).map elText)
set_option maxHeartbeats 2000000 in
set_option maxRecDepth 100000 in
theorem samePats (qb : Nat) (l l' : List EL) (v v' : Value) (W0 w : World) (h : TwoAt W0 l l' v v') (hbel : Below W0.heap.size W0 w) (hn : l.length ≤ 4000000) (hn' : l'.length ≤ 4000000) :
    Calls Tryd.prog 20 #[pt qb, v, v'] w fun e w' => e = .returned (.bool (decide (l.length = l'.length) && allTo (txtAt l l') l.length)) ∧ Below w.heap.size w w' := by
  obtain ⟨h1, h2, h3⟩ := h
  have h1' := h1
  have h2' := h2
  obtain ⟨A, c, rfl, _, _, _⟩ := h1'
  obtain ⟨A', c', rfl, _, _, _⟩ := h2'
  have hE : Enters 33 := fun args w => by go_simp
  have hS := fun W hF => areSame_any l.length l'.length hn hn' 33 #[pt (w.heap.size + 1), pt (w.heap.size + 1 + 1), pt w.heap.size] hE (txtAt l l') W hF
  have HS := Lib.hid hS
  have H1 := Lib.hid h1
  have H2 := Lib.hid h2
  have H3 := Lib.hid h3
  clear hS h1 h2 h3 hE
  unfold pt
  unfold pt at HS
  go_enter Tryd.func20, Tryd.ntmps20
  go_wp2_with fail
  go_at_call 32
  refine (HS.out _ ?hf).mono ?_
  case hf =>
    intro hlen i hi w1 hb1
    have hi' : i < l'.length := by omega
    obtain ⟨b, o, q, e1, hb, hcs⟩ := pat_get H1.out hi
    obtain ⟨b', o', q', e2, hb', hcs'⟩ := pat_get H2.out hi'
    obtain ⟨t, p, hel⟩ : ∃ t p, l[i]? = some (.mk t p) := by
      cases e : l[i] with
      | mk t p => exact ⟨t, p, by rw [List.getElem?_eq_getElem hi, e]⟩
    obtain ⟨t', p', hel'⟩ : ∃ t p, l'[i]? = some (.mk t p) := by
      cases e : l'[i] with
      | mk t p => exact ⟨t, p, by rw [List.getElem?_eq_getElem hi', e]⟩
    obtain ⟨c0, u, c1, hu⟩ := hcs i t p hel
    obtain ⟨c2, u', c3, hu'⟩ := hcs' i t' p' hel'
    have hsame := H3.out b o b' o' ⟨_, _, e1⟩ ⟨_, _, e2⟩ i hi hi'
    rw [c1, c3] at hsame
    cases hsame
    obtain ⟨pa, rfl⟩ : ∃ pa, u = .pointer pa := by
      cases p with
      | none => simp only [OAt] at hu; exact ⟨_, hu⟩
      | some ex => simp only [OAt] at hu; obtain ⟨_, _, _, e, _⟩ := hu; exact ⟨_, e⟩
    have hbw : Below w.heap.size w w1 := Below.trans (by repeat' first | exact Below.refl _ _ | apply Below.setCell | apply Below.alloc | (simp; done) | (simp; omega)) (hb1.mono (by simp; omega))
    have hbz : Below W0.heap.size W0 w1 := hbel.trans (hbw.mono hbel.size)
    rw [← hbz.cell (p := ⟨b, _, none⟩) hb] at c0 c1
    rw [← hbz.cell (p := ⟨b', _, none⟩) hb'] at c2 c3
    have hL := ((BoxAt.new' (w.alloc (.cells #[.pointer (some ⟨qb, 0, none⟩)] 52)) (w.heap.size + 1) #[.slice A l.length c] 23 (by simp)).alloc (.cells #[.slice A' l'.length c'] 23)).later hb1
    have hO := (BoxAt.new' ((w.alloc (.cells #[.pointer (some ⟨qb, 0, none⟩)] 52)).alloc (.cells #[.slice A l.length c] 23)) (w.heap.size + 1 + 1) #[.slice A' l'.length c'] 23 (by simp)).later hb1
    have hQ := (((BoxAt.new' w w.heap.size #[.pointer (some ⟨qb, 0, none⟩)] 52 rfl).alloc (.cells #[.slice A l.length c] 23)).alloc (.cells #[.slice A' l'.length c'] 23)).later hb1
    have hA := e1
    have hA' := e2
    cases hA
    cases hA'
    have htx : txtAt l l' i = decide (t = t') := by
      unfold txtAt
      rw [hel, hel']
      simp [elText]
    rw [htx]
    by_cases e : t = t'
    · subst e
      rw [decide_eq_true rfl]
      exact pat1_yes qb b o b' o' l.length _ l'.length _ (w.heap.size + 1) (w.heap.size + 1 + 1) w.heap.size i t pa w1 hi hi' hn hn' (hL.cell 0) (hO.cell 0) (hQ.cell 0) c0 c1 c2 c3
    · rw [decide_eq_false e]
      exact pat1_no qb b o b' o' l.length _ l'.length _ (w.heap.size + 1) (w.heap.size + 1 + 1) w.heap.size i t t' pa w1 hi hi' hn hn' (hL.cell 0) (hO.cell 0) (hQ.cell 0) c0 c1 c2 c3 e
  rintro e w2 ⟨rfl, hb2⟩
  have hbw : Below w.heap.size w w2 := Below.trans (by repeat' first | exact Below.refl _ _ | apply Below.setCell | apply Below.alloc | (simp; done) | (simp; omega)) (hb2.mono (by simp; omega))
  have HB := Lib.hid hbw
  clear hb2 hbw
  go_wp2
  go_ret
  exact ⟨rfl, HB.out⟩
end Go.Proofs.YtbolmffldmegeaaDoor
