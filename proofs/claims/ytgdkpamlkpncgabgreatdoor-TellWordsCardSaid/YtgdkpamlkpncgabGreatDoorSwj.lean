/-
  Package script: Decode.
-/
import Derived.Test.YtgdkpamlkpncgabGreatDoorSwi
namespace Go.Proofs.YtgdkpamlkpncgabGreatDoor
open Go.RowKit
set_option linter.unusedVariables false
set_option linter.unusedSimpArgs false

theorem encS_pos (s : ST) : 0 < (encS s).length := by
  unfold encS textsS
  split
  · rw [List.flatMap_cons, List.length_append]; have := encT_len [97]; omega
  · split
    · rw [List.flatMap_cons, List.length_append]; have := encT_len [99]; omega
    · rw [List.flatMap_cons, List.length_append]; have := encT_len [113]; omega
theorem stepG_shrinks {r : ByteArray} (h : (stepG (r, false)).2.2 = false) : (stepG (r, false)).2.1.size < r.size := by
  have := (rds_step.got h).2.2
  have e := congrArg List.length this
  rw [List.length_append, size_data, size_data] at e
  have := encS_pos (stepG (r, false)).1
  dsimp only at e
  omega
theorem decG_fuel (size : Nat) : ∀ (n m : Nat) (acc : List ST) (r : ByteArray), r.size < n → r.size < m → decG size n acc r = decG size m acc r
  | 0, m, acc, r, h, _ => by omega
  | n + 1, 0, acc, r, _, h => by omega
  | n + 1, m + 1, acc, r, hn, hm => by
    rw [decG, decG]
    by_cases h0 : r.size = 0
    · rw [if_pos h0, if_pos h0]
    · rw [if_neg h0, if_neg h0]
      by_cases h1 : (stepG (r, false)).2.2 = true ∨ rightS (stepG (r, false)).1 = false
      · rw [if_pos h1, if_pos h1]
      · rw [if_neg h1, if_neg h1]
        have hf : (stepG (r, false)).2.2 = false := by
          cases h : (stepG (r, false)).2.2
          · rfl
          · exact absurd (.inl h) h1
        have := stepG_shrinks hf
        rw [decG_fuel size n m _ _ (by omega) (by omega)]
/-- What Decode tells. -/
def decD (s : ByteArray) : List ST × Nat × Int := if 262144 < s.size then ([], 0, 4) else decG s.size (s.size + 1) [] s

/-- The values of a row of steps. -/
def SZip (W : World) (F : Nat → Prop) : List ST → List Value → Prop
  | [], xs => xs = []
  | x :: r, xs => ∃ (A1 : Option Addr) (c1 : Nat) (A2 : Option Addr) (c2 : Nat) (ys : List Value), xs = stL x A1 c1 A2 c2 ++ ys ∧ StF W F x A1 A2 ∧ SZip W F r ys
theorem SZip.snoc {W : World} {F : Nat → Prop} {x : ST} {A1 A2 : Option Addr} {c1 c2 : Nat} (hp : StF W F x A1 A2) : ∀ (acc : List ST) (xs : List Value), SZip W F acc xs → SZip W F (acc ++ [x]) (xs ++ stL x A1 c1 A2 c2)
  | [], xs, h => by
    rw [SZip] at h
    subst h
    exact ⟨A1, c1, A2, c2, [], by simp, hp, rfl⟩
  | y :: r, xs, h => by
    rw [SZip] at h
    obtain ⟨B1, d1, B2, d2, ys, rfl, h2, h3⟩ := h
    exact ⟨B1, d1, B2, d2, _, by rw [List.append_assoc], h2, SZip.snoc hp r ys h3⟩
theorem SZip.carry {W W' : World} {F F' : Nat → Prop} (g : ∀ b, F b → F' b ∧ W'.heap[b]? = W.heap[b]?) : ∀ (acc : List ST) (xs : List Value), SZip W F acc xs → SZip W' F' acc xs
  | [], xs, h => by rw [SZip] at h ⊢; exact h
  | y :: r, xs, h => by
    rw [SZip] at h
    obtain ⟨B1, d1, B2, d2, ys, rfl, h2, h3⟩ := h
    exact ⟨B1, d1, B2, d2, ys, rfl, h2.carry g, SZip.carry g r ys h3⟩
theorem stL_len (x : ST) (A1 : Option Addr) (c1 : Nat) (A2 : Option Addr) (c2 : Nat) : (stL x A1 c1 A2 c2).length = 8 := rfl
theorem SZip.get {W : World} {F : Nat → Prop} : ∀ (acc : List ST) (xs : List Value) (j : Nat) (x : ST), SZip W F acc xs → acc[j]? = some x →
    ∃ A1 c1 A2 c2, (∀ i u, (stL x A1 c1 A2 c2)[i]? = some u → xs[j * 8 + i]? = some u) ∧ StF W F x A1 A2
  | [], xs, j, x, h, hj => by simp at hj
  | y :: r, xs, 0, x, h, hj => by
    rw [SZip] at h
    obtain ⟨B1, d1, B2, d2, ys, rfl, h2, h3⟩ := h
    simp at hj
    subst hj
    refine ⟨B1, d1, B2, d2, fun i u hu => ?_, h2⟩
    obtain ⟨q, _⟩ := List.getElem?_eq_some_iff.1 hu
    rw [Nat.zero_mul, Nat.zero_add, List.getElem?_append_left q]
    exact hu
  | y :: r, xs, j + 1, x, h, hj => by
    rw [SZip] at h
    obtain ⟨B1, d1, B2, d2, ys, rfl, h2, h3⟩ := h
    obtain ⟨A1, c1, A2, c2, h4, h5⟩ := SZip.get r ys j x h3 (by simpa using hj)
    refine ⟨A1, c1, A2, c2, fun i u hu => ?_, h5⟩
    rw [List.getElem?_append_right (by rw [stL_len]; omega), stL_len, show (j + 1) * 8 + i - 8 = j * 8 + i by omega]
    exact h4 i u hu
def OwnSt (B : Nat) (W : World) (v : Value) (acc : List ST) : Prop := ∃ xs, W.ownsRow B 45 8 v acc.length xs ∧ SZip W (fun b => Snc B W b ∧ some b ≠ v.ownBlock) acc xs
theorem OwnSt.nil (B : Nat) (W : World) : OwnSt B W (.slice none 0 0) [] := ⟨[], World.ownsRow_nil _ _ _ _, rfl⟩
theorem own_kp {W W' : World} {B n k rb : Nat} {t : TypeId} {v : Value} {xs : List Value} (h : W.ownsRow B t n v k xs) (g : Kp rb W W') (hr : rb < B) : W'.ownsRow B t n v k xs := by
  refine World.ownsRow.kept h (⟨g.below.os, g.below.tape, g.below.output, g.below.size, fun k hk hn => g.others k hk (fun e => hn (by rw [e]))⟩ : W.grownBy W' (some rb)) ?_
  by_cases hv : v.ownBlock = none
  · exact .inl hv
  · refine .inr fun e => ?_
    obtain ⟨k, hk⟩ := Option.ne_none_iff_exists'.1 hv
    have h1 := World.ownsRow.lt h k hk
    have := Option.some.inj (e.symm.trans hk)
    omega
theorem OwnSt.kp {B rb : Nat} {W W' : World} {v : Value} {acc : List ST} (h : OwnSt B W v acc) (g : Kp rb W W') (hr : rb < B) : OwnSt B W' v acc := by
  obtain ⟨xs, h1, h2⟩ := h
  refine ⟨xs, own_kp h1 g hr, SZip.carry (fun b hb => ?_) _ _ h2⟩
  obtain ⟨⟨q1, q2⟩, q3⟩ := hb
  exact ⟨⟨⟨q1, Nat.lt_of_lt_of_le q2 g.size⟩, q3⟩, g.others b q2 (by omega)⟩
theorem OwnSt.lt {B : Nat} {W : World} {v : Value} {acc : List ST} (h : OwnSt B W v acc) (k : Nat) (e : v.ownBlock = some k) : B ≤ k ∧ k < W.heap.size := by
  obtain ⟨xs, h1, _⟩ := h
  exact World.ownsRow.lt h1 k e
theorem OwnSt.push {B : Nat} {W2 W3 : World} {v v' : Value} {acc : List ST} {xs : List Value} {x : ST} {A1 A2 : Option Addr} {c1 c2 : Nat} (hz : SZip W2 (fun b => Snc B W2 b ∧ some b ≠ v.ownBlock) acc xs) (hp : StF W2 (fun b => Snc B W2 b ∧ some b ≠ v.ownBlock) x A1 A2)
    (ho : W3.ownsRow B 45 8 v' (acc.length + 1) (xs ++ stL x A1 c1 A2 c2)) (hg : W2.grownBy W3 v.ownBlock) (hw : v'.ownBlock = v.ownBlock ∨ v'.ownBlock = some W2.heap.size) : OwnSt B W3 v' (acc ++ [x]) := by
  refine ⟨_, by rw [List.length_append]; exact ho, SZip.carry (fun b hb => ?_) _ _ (SZip.snoc hp acc xs hz)⟩
  obtain ⟨⟨q1, q2⟩, q3⟩ := hb
  refine ⟨⟨⟨q1, Nat.lt_of_lt_of_le q2 hg.size⟩, ?_⟩, hg.block b q2 q3⟩
  rcases hw with e | e
  · rw [e]; exact q3
  · rw [e]; intro e2; have := Option.some.inj e2; omega
theorem OwnSt.list {B : Nat} {W : World} {v : Value} {acc : List ST} (h : OwnSt B W v acc) : ∃ A c, v = .slice A acc.length c ∧ StsIn W (Snc B W) acc A := by
  obtain ⟨xs, h1, h2⟩ := h
  rcases h1.2 with ⟨rfl, h0⟩ | ⟨g, cap, cur, rfl, hb, hg, hc1, hc2, hcs, htk⟩
  · have : acc = [] := List.eq_nil_of_length_eq_zero h0
    subst this
    exact ⟨none, 0, rfl, fun h => absurd h (by simp)⟩
  · refine ⟨_, _, rfl, fun _ => ⟨g, 0, rfl, ⟨hb, (Array.getElem?_eq_some_iff.1 hg).1⟩, fun j x hx => ?_⟩⟩
    obtain ⟨A1, c1, A2, c2, h4, h5⟩ := SZip.get acc xs j x h2 hx
    refine ⟨A1, c1, A2, c2, fun i u hu => ?_, h5.carry fun b hb => ⟨hb.1, rfl⟩⟩
    have := World.ownsRow.cells (g := g) h1 rfl _ u (h4 i u hu)
    rw [addMid] at this
    rw [show 0 + j * 8 + i = 0 + (j * 8 + i) by omega]
    exact this
def restAt (w : World) (b : Nat) : Nat := match w.cell? ⟨b, 0, none⟩ with | some (.string r) => r.size | _ => 0
theorem restAt_of {w : World} {b : Nat} {st : RSt} (h : Rs b st w) : restAt w b = st.1.size := by
  unfold restAt
  rw [h.c0]
/-- What Decode gives. -/
def GotD (w : World) (R : List ST × Nat × Int) (e : Ending) (w' : World) : Prop :=
  ∃ A c, e = .returned (.tuple #[.slice A R.1.length c, .int .i64 (R.2.1 : Nat), .int .i64 R.2.2]) ∧ Below w.heap.size w w' ∧ StsIn w' (Snc w.heap.size w') R.1 A
def CvT (v : Value) (s : ByteArray) (w : World) : Prop := (convert 28 9 v).run Tryz.prog w = .ok (.string s) w
theorem decode_many {A : Option Addr} {c : Nat} {s : ByteArray} (w : World) (hs : 262144 < s.size) : Calls Tryz.prog 8 #[.slice A s.size c] w (GotD w ([], 0, 4)) := by
  have d1 : decide ((262144 : Int) < (s.size : Int)) = true := decide_eq_true (by omega)
  have d2 : (262144 : Int) < (s.size : Int) := by omega
  go_enter Tryz.func8, Tryz.ntmps8
  go_wp2
  go_ret3
  exact ⟨none, 0, rfl, Below.refl _ _, fun h => absurd h (by simp)⟩
/-- A step that is read has few and short parts. -/
theorem stepG_ok {r : ByteArray} (h : (stepG (r, false)).2.2 = false) (hs : r.size ≤ 300000) : (stepG (r, false)).1.wishes.length ≤ 4000000 ∧ (stepG (r, false)).1.args.length ≤ 4000000 := by
  rcases (rds_step.got h).2.1 with ⟨_, h1, _, _, h4, _⟩ | ⟨_, _, _, _, _, h5, _, h7, _⟩ | ⟨_, _, _, _, h4, _, _, h7, _⟩
  · rw [h1, h4]; exact ⟨by simp, by simp⟩
  · rw [h5]; exact ⟨by omega, by simp⟩
  · rw [h4]; exact ⟨by simp, by omega⟩
end Go.Proofs.YtgdkpamlkpncgabGreatDoor
