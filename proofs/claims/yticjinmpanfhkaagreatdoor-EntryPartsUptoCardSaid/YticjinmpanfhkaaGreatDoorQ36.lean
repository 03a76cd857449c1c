/-
  Several texts put together (part 36): what the law and the program call, walked; their contracts.
-/
import Derived.Test.YticjinmpanfhkaaGreatDoorQ1
import Derived.Deep.RegionLaw
import Derived.Deep.RegionHeld3
import Derived.Test.YticjinmpanfhkaaGreatDoorQ10
import Derived.Test.YticjinmpanfhkaaGreatDoorQ34
/-
  law07.patterns of two patterns that are the same and have no places.
-/
namespace Go.Proofs.YticjinmpanfhkaaGreatDoor
open Go.RowKit
set_option linter.unusedVariables false
set_option linter.unusedSimpArgs false

theorem EsAt.at2 {W : World} : ∀ {l : List EL} {b o : Nat} (j : Nat) {t : ByteArray} {p : Option EX}, EsAt W l b o → l[j]? = some (.mk t p) →
    b < W.heap.size ∧ W.cell? ⟨b, o + j * 2, none⟩ = some (.string t) ∧ ∃ u, W.cell? ⟨b, o + j * 2 + 1, none⟩ = some u ∧ OAt W p u
  | [], b, o, j, t, p, h, hj => by simp at hj
  | .mk t' p' :: r, b, o, 0, t, p, h, hj => by
    rw [EsAt] at h
    simp at hj
    obtain ⟨rfl, rfl⟩ := hj
    obtain ⟨h0, h1, h2, _⟩ := h
    exact ⟨h0, by simpa using h1, by simpa using h2⟩
  | .mk t' p' :: r, b, o, j + 1, t, p, h, hj => by
    rw [EsAt] at h
    have := EsAt.at2 j h.2.2.2 (by simpa using hj)
    rw [show o + (j + 1) * 2 = o + 2 + j * 2 by omega]
    exact this
theorem pat_at2 {W : World} {l : List EL} {v : Value} (h : PatAt W l v) {i : Nat} (hi : i < l.length) : ∃ b o c, v = .slice (some ⟨b, o, none⟩) l.length c ∧ b < W.heap.size ∧
    ∀ j t p, l[j]? = some (.mk t p) → W.cell? ⟨b, o + j * 2, none⟩ = some (.string t) ∧ ∃ u, W.cell? ⟨b, o + j * 2 + 1, none⟩ = some u ∧ OAt W p u := by
  obtain ⟨A, c, rfl, _, _, h2⟩ := h
  obtain ⟨b, o, rfl, h3⟩ := h2 (by omega)
  have h0 : l[0]? = some l[0] := List.getElem?_eq_getElem (by omega)
  refine ⟨b, o, c, rfl, ?_, fun j t p hj => ⟨(h3.at2 j hj).2.1, (h3.at2 j hj).2.2⟩⟩
  cases e : l[0]'(by omega) with
  | mk t p => rw [e] at h0; exact (h3.at2 0 h0).1
theorem cell_under {W W' : World} (hb : Below W.heap.size W W') {b o : Nat} {v : Value} (h : W.cell? ⟨b, o, none⟩ = some v) : W'.cell? ⟨b, o, none⟩ = some v := (hb.cell (p := ⟨b, o, none⟩) (World.block_lt_of_cell? W _ h)).trans h
/-- Same tells that two of this expression are the same. -/
def SameTo (W0 : World) (e : EX) : Prop := ∀ (w : World) (c1 c2 : C7), Below W0.heap.size W0 w → ExAt W0 e c1 → ExAt W0 e c2 → Calls Tryz.prog 12 #[.agg c1.arr, .agg c2.arr] w fun e w' => e = .returned (.bool true) ∧ Below w.heap.size w w'
set_option maxHeartbeats 8000000 in
set_option maxRecDepth 1000000 in
theorem pats_text {W0 : World} (l : List EL) {v1 v2 : Value} (h1 : PatAt W0 l v1) (h2 : PatAt W0 l v2) (hl : l.length ≤ 8000000) (hS : ∀ t e, EL.mk t (some e) ∉ l) (w : World) (hb : Below W0.heap.size W0 w) :
    Calls Tryz.prog 34 #[v1, v2] w fun e w' => e = .returned (.bool true) ∧ Below w.heap.size w w' := by
  have hg1 := fun i (hi : i < l.length) => pat_at2 h1 hi
  have hg2 := fun i (hi : i < l.length) => pat_at2 h2 hi
  obtain ⟨A1, c1, rfl, _⟩ := h1
  obtain ⟨A2, c2, rfl, _⟩ := h2
  have HG1 := Lib.hid hg1
  have HG2 := Lib.hid hg2
  have HS := Lib.hid hS
  have HB := Lib.hid hb
  have hl0 : (l.length : Int) ≤ 8000000 := by omega
  have d0 : ((l.length : Int) != (l.length : Int)) = false := bne_self_eq_false _
  clear hg1 hg2 hS hb
  go_enter Tryz.func34, Tryz.ntmps34
  go_wp2
  go_loopw [15] (fun t15 wr => ∃ i : Nat, t15 = .int .i64 i ∧ i ≤ l.length ∧ Hid (Below w.heap.size w wr)) (fun t15 _ => l.length - (intOf t15).toNat)
  case atStart => exact ⟨0, rfl, Nat.zero_le _, Below.refl _ _⟩
  case round =>
    obtain ⟨i, rfl, hi, HBel⟩ := hrel
    have hi0 : (i : Int) ≤ 8000000 := by omega
    by_cases hlt : i < l.length
    case neg =>
      have d1 : decide ((i : Int) < (l.length : Int)) = false := decide_eq_false (by omega)
      have d2 : ¬ (i : Int) < (l.length : Int) := by omega
      go_wp2
      go_ret
      exact ⟨rfl, HBel.out⟩
    have d1 : decide ((i : Int) < (l.length : Int)) = true := decide_eq_true (by omega)
    have d2 : (i : Int) < (l.length : Int) := by omega
    obtain ⟨b1, o1, c1', e1', hb1, g1⟩ := HG1.out i hlt
    obtain ⟨b2, o2, c2', e2', hb2, g2⟩ := HG2.out i hlt
    cases e1'
    cases e2'
    have hli : l[i]? = some l[i] := List.getElem?_eq_getElem hlt
    have hmem : l[i] ∈ l := List.getElem_mem hlt
    obtain ⟨t, p, hx⟩ : ∃ t p, l[i] = EL.mk t p := by cases h : l[i]; exact ⟨_, _, rfl⟩
    rw [hx] at hli hmem
    obtain ⟨k1, u1, k2, ho1⟩ := g1 i t p hli
    obtain ⟨m1, u2, m2, ho2⟩ := g2 i t p hli
    have hcell : ∀ (b o : Nat) v, b < W0.heap.size → W0.cell? ⟨b, o, none⟩ = some v → wr.cell? ⟨b, o, none⟩ = some v := fun b o v hb h =>
      (HBel.out.cell (p := ⟨b, o, none⟩) (Nat.lt_of_lt_of_le hb HB.out.size)).trans ((HB.out.cell (p := ⟨b, o, none⟩) hb).trans h)
    have e1 := hcell _ _ _ hb1 k1
    have e1p := hcell _ _ _ hb1 k2
    have e2 := hcell _ _ _ hb2 m1
    have e2p := hcell _ _ _ hb2 m2
    have hbw1 : b1 < wr.heap.size := Nat.lt_of_lt_of_le hb1 (Nat.le_trans HB.out.size HBel.out.size)
    have hbw2 : b2 < wr.heap.size := Nat.lt_of_lt_of_le hb2 (Nat.le_trans HB.out.size HBel.out.size)
    have Hcell := Lib.hid hcell
    have Hmem := Lib.hid hmem
    clear hcell hmem hli hx k1 k2 m1 m2 g1 g2 hb1 hb2
    cases p with
    | none =>
      simp only [OAt] at ho1 ho2
      subst ho1
      subst ho2
      go_wp2_with fail
      go_region
      all_goals (go_wp2_with fail)
      refine ⟨⟨i + 1, by go_num, hlt, ?_⟩, by simp [intOf]; omega⟩
      exact Lib.hid HBel.out.drew
    | some e =>
      exact absurd Hmem.out (HS.out t e)
end Go.Proofs.YticjinmpanfhkaaGreatDoor

/-
  law07.SameEntry of two entries that are the same and have no attributes.
-/
namespace Go.Proofs.YticjinmpanfhkaaGreatDoor
open Go.RowKit
set_option linter.unusedVariables false
set_option linter.unusedSimpArgs false

set_option maxHeartbeats 4000000 in
set_option maxRecDepth 100000 in
theorem entry_same0 {W0 : World} (ty lv : Int) (tx nm : ByteArray) (l : List EL) {v1 v2 : Value} (A B : Option Addr) (d d' : Nat) (f1 t1 f2 t2 : Int) (h1 : PatAt W0 l v1) (h2 : PatAt W0 l v2) (hl : l.length ≤ 8000000)
    (hS : ∀ t e, EL.mk t (some e) ∉ l) (w : World) (hb : Below W0.heap.size W0 w) :
    Calls Tryz.prog 17 #[entV ty lv tx nm v1 (.slice A 0 d) f1 t1, entV ty lv tx nm v2 (.slice B 0 d') f2 t2] w fun e w' => e = .returned (.bool true) ∧ Below w.heap.size w w' := by
  have hP := fun W (h : Below W0.heap.size W0 W) => pats_text l h1 h2 hl hS W h
  obtain ⟨A1, c1, rfl, _⟩ := h1
  obtain ⟨A2, c2, rfl, _⟩ := h2
  have HP := Lib.hid hP
  have HB := Lib.hid hb
  have hs0 := hb.size
  have z1 : (tx.toList != tx.toList) = false := bne_self_eq_false _
  have z2 : (nm.toList != nm.toList) = false := bne_self_eq_false _
  have z3 : (ty != ty) = false := bne_self_eq_false _
  have z4 : (lv != lv) = false := bne_self_eq_false _
  clear hP hS hb
  unfold entV
  go_enter Tryz.func17, Tryz.ntmps17
  go_wp2
  go_loopw [44] (fun t44 wr => t44 = .int .i64 0 ∧ wr = (w.alloc (.cells #[.int .i64 ty, .int .i64 lv, .string tx, .string nm, .slice A1 l.length c1, .slice A 0 d, .int .i64 f1, .int .i64 t1] 45)).alloc (.cells #[.int .i64 ty, .int .i64 lv, .string tx, .string nm, .slice A2 l.length c2, .slice B 0 d', .int .i64 f2, .int .i64 t2] 45)) (fun _ _ => 0)
  case atStart => exact ⟨rfl, rfl⟩
  case round =>
  obtain ⟨rfl, rfl⟩ := hrel
  go_wp2_with fail
  go_at_call 34
  refine (HP.out _ ((HB.out.alloc hs0 _).alloc (by simp; omega) _)).mono ?_
  rintro e w1 ⟨rfl, hb1⟩
  have HB1 := Lib.hid ((((Below.refl w.heap.size w).alloc (Nat.le_refl _) _).alloc (by simp) _).trans (hb1.mono (by simp; omega)))
  clear hb1
  go_wp2
  go_ret
  exact ⟨rfl, HB1.out⟩
end Go.Proofs.YticjinmpanfhkaaGreatDoor

/-
  Package expr: braces within braces, as they are read.
-/
namespace Go.Proofs.YticjinmpanfhkaaGreatDoor
open Go.RowKit
set_option linter.unusedVariables false
set_option linter.unusedSimpArgs false

section
variable (A R : List UInt8) (c d : UInt8)
theorem mkB_list (L : List UInt8) : (mkB L).data.toList = L := by simp [mkB]
theorem at0_app : at0 (A ++ c :: R) A.length = c := by
  unfold at0
  simp
theorem isAt_app : isAt (mkB (A ++ c :: R)) A.length d = (c == d) := by
  unfold isAt
  rw [mkB_list, at0_app, mkB_size]
  have : A.length < (A ++ c :: R).length := by simp
  rw [decide_eq_true this, Bool.true_and]
theorem behN_app (p : UInt8 → Bool) : behN p (A ++ R) A.length = A.length + (R.takeWhile p).length := by
  unfold behN
  rw [List.drop_left]
theorem bl_app : bl (mkB (A ++ R)) A.length = A.length + (R.takeWhile blB).length := by
  unfold bl
  rw [mkB_list, behN_app]
theorem quo_none (h : c ≠ 34) : quoS (mkB (A ++ c :: R)) A.length = none := by
  unfold quoS unqAll
  rw [extract_drop, mkB_list, List.drop_left, if_neg]
  simp [Lib.hasPrefix, Ne.symm h]
theorem nm_none (h : leB c = false) : nm (mkB (A ++ c :: R)) A.length = A.length := by
  unfold nm
  rw [mkB_list, at0_app, h, if_neg (by simp)]
theorem nu_none (h : dgB c = false) (h2 : c ≠ 45) : nu (mkB (A ++ c :: R)) A.length = A.length := by
  unfold nu numN
  rw [mkB_list, at0_app]
  have e : behN dgB (A ++ c :: R) A.length = A.length := by rw [behN_app, List.takeWhile_cons, h]; rfl
  dsimp only
  simp only [h2, and_false, if_false, e, Nat.lt_irrefl]
end
def ub (b : Bool) : List UInt8 := if b then [123, 10, 32] else [123]
def nestX : Nat → EX
  | 0 => .mk 2 E0 ⟨#[120]⟩ E0 [] none []
  | k + 1 => .mk 6 E0 E0 E0 [] (some (nestX k)) []
def braces (b : Bool) (k : Nat) : List UInt8 := (List.replicate k (ub b)).flatten
theorem braces_succ (b : Bool) (k : Nat) : braces b (k + 1) = ub b ++ braces b k := by simp [braces, List.replicate_succ]
theorem braces_length (b : Bool) (k : Nat) : (braces b k).length = k * (ub b).length := by
  induction k with
  | zero => simp [braces]
  | succ k ih => rw [braces_succ, List.length_append, ih, Nat.succ_mul]; omega
theorem bl_ub (A : List UInt8) (b : Bool) (c : UInt8) (R : List UInt8) (h : blB c = false) : bl (mkB (A ++ (ub b ++ c :: R))) (A.length + 1) = A.length + (ub b).length := by
  cases b with
  | false =>
    have e : A ++ (ub false ++ c :: R) = (A ++ [123]) ++ c :: R := by simp [ub]
    have e2 : A.length + 1 = (A ++ [(123 : UInt8)]).length := by simp
    rw [e, e2, bl_app, List.takeWhile_cons, h]
    simp [ub]
  | true =>
    have e : A ++ (ub true ++ c :: R) = (A ++ [123]) ++ 10 :: 32 :: c :: R := by simp [ub]
    have e2 : A.length + 1 = (A ++ [(123 : UInt8)]).length := by simp
    rw [e, e2, bl_app, List.takeWhile_cons, List.takeWhile_cons, List.takeWhile_cons, h]
    simp [ub, show blB 10 = true by decide, show blB 32 = true by decide]
theorem var_x (A R : List UInt8) : varS (mkB (A ++ 36 :: 120 :: 125 :: R)) A.length = some (.mk 2 E0 ⟨#[120]⟩ E0 [] none [], A.length + 2) := by
  have e : A ++ 36 :: 120 :: 125 :: R = (A ++ [36]) ++ 120 :: 125 :: R := by simp
  have e2 : A.length + 1 = (A ++ [(36 : UInt8)]).length := by simp
  have hn : nm (mkB (A ++ 36 :: 120 :: 125 :: R)) (A.length + 1) = A.length + 2 := by
    rw [e, e2]
    unfold nm
    rw [mkB_list, at0_app, mkB_size, if_pos ⟨by simp, by decide⟩, behN_app, List.takeWhile_cons, List.takeWhile_cons]
    simp [show naB 120 = true by decide, show naB 125 = false by decide]
  unfold varS
  rw [isAt_app, hn]
  have hx : (mkB (A ++ 36 :: 120 :: 125 :: R)).extract (A.length + 1) (A.length + 2) = ⟨#[120]⟩ := by
    apply bytes_eq
    rw [e]
    simp [mkB, ByteArray.extract, ByteArray.copySlice]
  rw [hx]
  simp
def txt (b : Bool) (k : Nat) (C : List UInt8) : List UInt8 := braces b k ++ (36 :: 120 :: (List.replicate k 125 ++ C))
theorem txt_zero (b : Bool) (C : List UInt8) : txt b 0 C = 36 :: 120 :: C := rfl
theorem txt_succ (b : Bool) (k : Nat) (C : List UInt8) : txt b (k + 1) C = ub b ++ txt b k (125 :: C) := by
  unfold txt
  rw [braces_succ, List.replicate_succ', List.append_assoc, List.append_assoc]
  rfl
theorem ub_cons (b : Bool) : ∃ u, ub b = 123 :: u := by cases b <;> exact ⟨_, rfl⟩
theorem end_brace (A C : List UInt8) : bl (mkB (A ++ 125 :: C)) A.length = A.length ∧ isAt (mkB (A ++ 125 :: C)) A.length 125 = true := by
  refine ⟨?_, by rw [isAt_app]; rfl⟩
  rw [bl_app, List.takeWhile_cons, show blB 125 = false by decide]
  rfl
theorem head_none (P : Nat → Res) (A R : List UInt8) (h : P A.length = none) : headS P (mkB (A ++ 123 :: R)) A.length = none := by
  unfold headS
  rw [quo_none A R 123 (by decide)]
  have hv : varS (mkB (A ++ 123 :: R)) A.length = none := by unfold varS; rw [isAt_app]; rfl
  have ht : terS (mkB (A ++ 123 :: R)) A.length = none := by unfold terS; rw [isAt_app]; rfl
  have hr : refS 3 (mkB (A ++ 123 :: R)) A.length = none := by unfold refS; rw [nm_none A R 123 (by decide), if_pos rfl]
  have hn : nubS (mkB (A ++ 123 :: R)) A.length = none := by unfold nubS; rw [nu_none A R 123 (by decide) (by decide), if_pos rfl]
  rw [hv, ht, hr, hn]
  unfold nestS
  rw [h]
  rfl
theorem head_nest (P : Nat → Res) (A R : List UInt8) {e : EX} {j : Nat} (h : P A.length = some (e, j)) : headS P (mkB (A ++ 123 :: R)) A.length = some (.mk 6 E0 E0 E0 [] (some e) [], j) := by
  unfold headS
  rw [quo_none A R 123 (by decide)]
  have hv : varS (mkB (A ++ 123 :: R)) A.length = none := by unfold varS; rw [isAt_app]; rfl
  rw [hv]
  unfold nestS
  rw [h]
  rfl
theorem inl_flat (P : Nat → Res) (s : ByteArray) (i : Nat) {k : Int} {t n a : ByteArray} {al : List AR} {ie : Option EX} {vs : List VA} {j : Nat} (h : headS P s i = some (.mk k t n a al ie vs, j)) (h3 : k ≠ 3) (h4 : k ≠ 4) : inlS P s i = some (.mk k t n a al ie vs, j) := by
  have ho : opnS s (.mk k t n a al ie vs) j = (false, j) := by
    unfold opnS
    rw [if_neg]
    simp [isFuncS, isTermS, h3, h4]
  unfold inlS
  rw [h]
  dsimp only
  rw [ho]
  rfl
theorem deepS (b : Bool) : ∀ (k r : Nat) (A C : List UInt8), placeS (mkB (A ++ txt b (k + 1) C)) r A.length = if k + 1 ≤ r then some (nestX k, A.length + (k + 1) * (ub b).length + 2 + (k + 1)) else none
  | k, 0, A, C => by rw [placeS, if_neg (by omega)]
  | 0, r + 1, A, C => by
    obtain ⟨u, hu⟩ := ub_cons b
    have e1 : A ++ txt b 1 C = A ++ (ub b ++ 36 :: (120 :: 125 :: C)) := by rw [txt_succ, txt_zero]
    have e2 : A ++ txt b 1 C = A ++ 123 :: (u ++ 36 :: (120 :: 125 :: C)) := by rw [e1, hu]; rfl
    have e3 : A ++ txt b 1 C = (A ++ ub b) ++ 36 :: 120 :: 125 :: C := by rw [e1]; simp
    have e4 : A ++ txt b 1 C = (A ++ ub b ++ [36, 120]) ++ 125 :: C := by rw [e1]; simp
    have hb : bl (mkB (A ++ txt b 1 C)) (A.length + 1) = (A ++ ub b).length := by
      rw [e1, bl_ub A b 36 _ (by decide), List.length_append]
    have hi : inlS (placeS (mkB (A ++ txt b 1 C)) r) (mkB (A ++ txt b 1 C)) (A ++ ub b).length = some (.mk 2 E0 ⟨#[120]⟩ E0 [] none [], (A ++ ub b).length + 2) := by
      refine inl_flat _ _ _ ?_ (by decide) (by decide)
      rw [e3]
      unfold headS
      rw [quo_none _ _ 36 (by decide), var_x]
      rfl
    have he := end_brace (A ++ ub b ++ [36, 120]) C
    have hl : (A ++ ub b ++ [(36 : UInt8), 120]).length = (A ++ ub b).length + 2 := by simp only [List.length_append, List.length_cons, List.length_nil]
    rw [← e4, hl] at he
    rw [placeS, if_pos (by rw [e2, isAt_app]; rfl), hb, hi]
    dsimp only
    rw [he.1, if_pos he.2, if_neg (by simp [termAttr]), if_pos (by omega)]
    rw [List.length_append, nestX]
    congr 2
    omega
  | k + 1, r + 1, A, C => by
    obtain ⟨u, hu⟩ := ub_cons b
    have e1 : A ++ txt b (k + 2) C = A ++ (ub b ++ 123 :: (u ++ txt b k (125 :: 125 :: C))) := by rw [txt_succ, txt_succ, hu]; rfl
    have e2 : A ++ txt b (k + 2) C = A ++ 123 :: (u ++ 123 :: (u ++ txt b k (125 :: 125 :: C))) := by rw [e1, hu]; rfl
    have e3 : A ++ txt b (k + 2) C = (A ++ ub b) ++ txt b (k + 1) (125 :: C) := by rw [txt_succ]; simp
    have e5 : A ++ txt b (k + 2) C = (A ++ ub b) ++ 123 :: (u ++ txt b k (125 :: 125 :: C)) := by rw [e1]; simp
    have hb : bl (mkB (A ++ txt b (k + 2) C)) (A.length + 1) = (A ++ ub b).length := by
      rw [e1, bl_ub A b 123 _ (by decide), List.length_append]
    have ih := deepS b k r (A ++ ub b) (125 :: C)
    rw [← e3] at ih
    rw [placeS, if_pos (by rw [e2, isAt_app]; rfl), hb]
    by_cases hk : k + 1 ≤ r
    · rw [if_pos hk] at ih
      have hh := head_nest (placeS (mkB (A ++ txt b (k + 2) C)) r) (A ++ ub b) (u ++ txt b k (125 :: 125 :: C)) ih
      rw [← e5] at hh
      rw [inl_flat _ _ _ hh (by decide) (by decide)]
      dsimp only
      have e4 : A ++ txt b (k + 2) C = (A ++ ub b ++ (braces b (k + 1) ++ 36 :: 120 :: List.replicate (k + 1) 125)) ++ 125 :: C := by
        rw [e3]
        unfold txt
        simp
      have he := end_brace (A ++ ub b ++ (braces b (k + 1) ++ 36 :: 120 :: List.replicate (k + 1) 125)) C
      have hl : (A ++ ub b ++ (braces b (k + 1) ++ 36 :: 120 :: List.replicate (k + 1) 125)).length = (A ++ ub b).length + (k + 1) * (ub b).length + 2 + (k + 1) := by
        simp only [List.length_append, braces_length, List.length_cons, List.length_replicate]
        omega
      rw [← e4, hl] at he
      rw [he.1, if_pos he.2, if_neg (by simp [termAttr]), if_pos (by omega)]
      rw [List.length_append, nestX]
      congr 2
      rw [Nat.succ_mul (k + 1)]
      omega
    · rw [if_neg hk] at ih
      have hh := head_none (placeS (mkB (A ++ txt b (k + 2) C)) r) (A ++ ub b) (u ++ txt b k (125 :: 125 :: C)) ih
      rw [← e5] at hh
      rw [inl_none hh, if_neg (by omega)]
end Go.Proofs.YticjinmpanfhkaaGreatDoor

/-
  What entry.Parse reads of one line behind a name and an equals sign.
-/
namespace Go.Proofs.YticjinmpanfhkaaGreatDoor
open Go.RowKit
set_option linter.unusedVariables false
set_option linter.unusedSimpArgs false

theorem tw_stop (p : UInt8 → Bool) (c : UInt8) (r : List UInt8) (hc : p c = false) : ∀ l : List UInt8, (l ++ c :: r).takeWhile p = l.takeWhile p
  | [] => by rw [List.nil_append, List.takeWhile_cons, hc]; rfl
  | a :: l => by
    rw [List.cons_append, List.takeWhile_cons, List.takeWhile_cons, tw_stop p c r hc l]
theorem tw_alls (p : UInt8 → Bool) : ∀ l : List UInt8, (∀ x ∈ l, p x = true) → l.takeWhile p = l
  | [], _ => rfl
  | a :: l, h => by rw [List.takeWhile_cons, h a (by simp), if_pos rfl, tw_alls p l (fun x hx => h x (by simp [hx]))]
/-- No line feed, no braces. -/
def flat (L : List UInt8) : Prop := ∀ x ∈ L, x ≠ 10 ∧ x ≠ 123 ∧ x ≠ 125
def lnT (L : List UInt8) : ByteArray := mkB ([109, 32, 61] ++ (L ++ [10]))
section
variable (L : List UInt8)
theorem ln_size : (lnT L).size = 4 + L.length := by unfold lnT; rw [mkB_size]; simp; omega
theorem ln0 : lnT L = mkB ([] ++ 109 :: (32 :: 61 :: (L ++ [10]))) := rfl
theorem ln1 : lnT L = mkB ([109] ++ 32 :: (61 :: (L ++ [10]))) := rfl
theorem ln2 : lnT L = mkB ([109, 32] ++ 61 :: (L ++ [10])) := rfl
theorem ln3 : lnT L = mkB ([109, 32, 61] ++ (L ++ [10])) := rfl
theorem lnE : lnT L = mkB (([109, 32, 61] ++ L) ++ 10 :: []) := by unfold lnT; rw [List.append_assoc]
theorem lnF : lnT L = mkB (([109, 32, 61] ++ L ++ [10]) ++ []) := by unfold lnT; rw [List.append_nil, List.append_assoc]
theorem lenE : ([109, 32, 61] ++ L : List UInt8).length = 3 + L.length := by simp; omega
theorem lenF : ([109, 32, 61] ++ L ++ [10] : List UInt8).length = 4 + L.length := by simp; omega
theorem ln_nm : nm (lnT L) 0 = 1 := by
  rw [ln0]
  show nm (mkB ([] ++ 109 :: (32 :: 61 :: (L ++ [10])))) ([] : List UInt8).length = 1
  unfold nm
  rw [mkB_list, at0_app, mkB_size, if_pos ⟨by simp, by decide⟩, behN_app, List.takeWhile_cons, List.takeWhile_cons]
  simp [show naB 109 = true by decide, show naB 32 = false by decide]
theorem ln_sp1 : sp (lnT L) 1 = 2 := by
  rw [ln1]
  show sp (mkB ([109] ++ 32 :: (61 :: (L ++ [10])))) ([109] : List UInt8).length = 2
  unfold sp
  rw [mkB_list, behN_app, List.takeWhile_cons, List.takeWhile_cons]
  simp [show spB 32 = true by decide, show spB 61 = false by decide]
theorem ln_is2 : isAt (lnT L) 2 61 = true := by
  rw [ln2]
  exact (isAt_app [109, 32] (L ++ [10]) 61 61).trans rfl
theorem ln_is0 (c : UInt8) : isAt (lnT L) 0 c = (109 == c) := by
  rw [ln0]
  exact isAt_app [] (32 :: 61 :: (L ++ [10])) 109 c
theorem ln_isE (c : UInt8) : isAt (lnT L) (3 + L.length) c = (10 == c) := by
  rw [lnE, ← lenE]
  exact isAt_app ([109, 32, 61] ++ L) [] 10 c
theorem ln_isF (c : UInt8) : isAt (lnT L) (4 + L.length) c = false := by
  unfold isAt
  rw [ln_size, decide_eq_false (by omega), Bool.false_and]
theorem ln_sp3 : sp (lnT L) 3 = 3 + (L.takeWhile spB).length := by
  rw [ln3]
  show sp (mkB ([109, 32, 61] ++ (L ++ [10]))) ([109, 32, 61] : List UInt8).length = _
  unfold sp
  rw [mkB_list, behN_app, tw_stop spB 10 [] (by decide)]
  rfl
theorem ln_spF : sp (lnT L) (4 + L.length) = 4 + L.length := by
  rw [lnF, ← lenF]
  unfold sp
  rw [mkB_list, behN_app]
  rfl
theorem ln_blE : bl (lnT L) (3 + L.length) = 4 + L.length := by
  rw [lnE, ← lenE]
  rw [bl_app, lenE, List.takeWhile_cons, show blB 10 = true by decide]
  simp
  omega
theorem ln_tx (hL : flat L) : tx (lnT L) (3 + (L.takeWhile spB).length) = 3 + L.length := by
  have e : lnT L = mkB (([109, 32, 61] ++ L.takeWhile spB) ++ (L.dropWhile spB ++ [10])) := by
    unfold lnT
    rw [List.append_assoc, ← List.append_assoc (L.takeWhile spB), List.takeWhile_append_dropWhile]
  have el : ([109, 32, 61] ++ L.takeWhile spB : List UInt8).length = 3 + (L.takeWhile spB).length := by simp; omega
  have hd : (L.takeWhile spB).length + (L.dropWhile spB).length = L.length := by rw [← List.length_append, List.takeWhile_append_dropWhile]
  rw [e, ← el]
  unfold tx
  rw [mkB_list, behN_app, tw_stop txB 10 [] (by decide), tw_alls txB, el]
  · omega
  · intro x hx
    have hm : x ∈ L := by rw [← List.takeWhile_append_dropWhile (p := spB) (l := L)]; exact List.mem_append_right _ hx
    obtain ⟨h1, h2, h3⟩ := hL x hm
    unfold txB
    simp [h1, h2, h3]
theorem ln_li (hL : flat L) : li (lnT L) 0 = 3 + L.length := by
  have e : lnT L = mkB ([] ++ (([109, 32, 61] ++ L) ++ 10 :: [])) := lnE L
  rw [e]
  show li (mkB ([] ++ (([109, 32, 61] ++ L) ++ 10 :: []))) ([] : List UInt8).length = _
  unfold li
  rw [mkB_list, behN_app, tw_stop nlB 10 [] (by decide), tw_alls nlB, lenE]
  · rw [List.length_nil]; omega
  · intro x hx
    rcases List.mem_append.1 hx with h | h
    · simp at h; rcases h with rfl | rfl | rfl <;> decide
    · have := (hL x h).1
      unfold nlB
      simp [this]
theorem ln_liE : li (lnT L) (3 + L.length) = 3 + L.length := by
  rw [lnE, ← lenE]
  unfold li
  rw [mkB_list, behN_app, List.takeWhile_cons, show nlB 10 = false by decide]
  rfl
theorem ln_beh0 (hL : flat L) : beh (lnT L) 0 = 4 + L.length := by
  unfold beh
  rw [ln_li L hL, ln_size, if_pos (by omega)]
  omega
theorem ln_behE : beh (lnT L) (3 + L.length) = 4 + L.length := by
  unfold beh
  rw [ln_liE L, ln_size, if_pos (by omega)]
  omega
theorem ln_com (hL : flat L) : comS (lnT L) 0 = none := by
  have h : comL (lnT L) 0 = (0, E0) := by
    unfold comL
    have hh : hs (lnT L) 0 = 0 := by
      rw [ln0]
      show hs (mkB ([] ++ 109 :: (32 :: 61 :: (L ++ [10])))) ([] : List UInt8).length = 0
      unfold hs
      rw [mkB_list, behN_app, List.takeWhile_cons, show hsB 109 = false by decide]
      rfl
    rw [hh, ln_li L hL, ln_is0, if_pos (Or.inr ⟨by omega, rfl⟩)]
  unfold comS
  rw [h, if_pos rfl]
/-- What stands between the spaces. -/
def ownT : List UInt8 := trimR (L.dropWhile spB)
def ownL : List EL := if ownT L = [] then [] else [.mk (mkB (ownT L)) none]
theorem ln_next : nextS (lnT L) (3 + L.length) = none := by
  have h : nlS (lnT L) 0 (3 + L.length) (3 + L.length) = (1, 4 + L.length, 4 + L.length) := by
    rw [nlS, dif_pos (by rw [ln_isE]; rfl), show 3 + L.length + 1 = 4 + L.length by omega, ln_spF, nlS, dif_neg (by rw [ln_isF]; simp)]
  unfold nextS
  rw [h, if_pos (Or.inl rfl)]
theorem ext_ln : ((lnT L).extract (3 + (L.takeWhile spB).length) (3 + L.length)).data.toList = L.dropWhile spB := by
  have el : ([109, 32, 61] ++ L.takeWhile spB : List UInt8).length = 3 + (L.takeWhile spB).length := by simp; omega
  have e : ([109, 32, 61] ++ L : List UInt8) = ([109, 32, 61] ++ L.takeWhile spB) ++ L.dropWhile spB := by
    rw [List.append_assoc, List.takeWhile_append_dropWhile]
  rw [lnE, extract_list, mkB_list, ← lenE L, List.take_left, e, ← el, List.drop_left]
theorem ln_pat (P : Nat → Res) (hL : flat L) : patS P (lnT L) 3 = some (ownL L, 3 + L.length) := by
  have hp : partsS P (lnT L) [] (3 + (L.takeWhile spB).length) = some (addT (lnT L) [] (3 + (L.takeWhile spB).length) (3 + L.length), 3 + L.length) := by
    rw [partsS, ln_tx L hL, ln_isE, if_neg (by decide)]
  have hd : (L.takeWhile spB).length + (L.dropWhile spB).length = L.length := by rw [← List.length_append, List.takeWhile_append_dropWhile]
  have hj : joinS [⟨0, 0, addT (lnT L) [] (3 + (L.takeWhile spB).length) (3 + L.length)⟩] = ownL L := by
    unfold joinS ownL ownT addT
    by_cases h : (L.takeWhile spB).length < L.length
    · rw [if_pos (by omega)]
      have hx := ext_ln L
      obtain ⟨X, hX⟩ : ∃ X, (lnT L).extract (3 + (L.takeWhile spB).length) (3 + L.length) = X := ⟨_, rfl⟩
      rw [hX] at hx ⊢
      simp [lineJ, headJ, partJ, endS, hx]
    · have h0 : L.dropWhile spB = [] := List.eq_nil_of_length_eq_zero (by omega)
      rw [if_neg (by omega), h0]
      simp [lineJ, headJ, partJ, endS, trimR]
  unfold patS
  rw [ln_sp3, linesS, hp]
  dsimp only
  rw [ln_next]
  dsimp only
  rw [List.nil_append, hj]
theorem ln_named (hL : flat L) : namedS (lnT L) 0 = some (⟨#[109]⟩, ownL L, 3 + L.length) := by
  unfold namedS
  rw [ln_nm, ln_sp1, if_neg (by decide), if_pos (ln_is2 L), ln_pat L _ hL]
  dsimp only
  rw [if_pos (Or.inr (by rw [ln_isE]; rfl))]
  rfl
theorem ln_ats : atsS (lnT L) [] (3 + L.length) = ([], 3 + L.length) := by
  have h : attrS (lnT L) (3 + L.length) = none := by
    unfold attrS
    rw [ln_blE, ln_isF, Bool.false_and, if_neg (by simp)]
  rw [atsS, h]
def lnEntry : EN := if ownT L = [] then ⟨3, 0, lnT L, E0, [], [], 0, 4 + L.length⟩ else ⟨1, 0, E0, ⟨#[109]⟩, [.mk (mkB (ownT L)) none], [], 0, 4 + L.length⟩
theorem ln_read (hL : flat L) : readS (lnT L) 0 = lnEntry L := by
  unfold readS
  rw [ln_com L hL]
  dsimp only
  unfold msgS
  rw [ln_is0, if_neg (by decide), ln_named L hL]
  dsimp only
  rw [ln_ats]
  dsimp only
  rw [ln_behE]
  unfold ownL lnEntry
  by_cases h : ownT L = []
  · rw [if_pos h, if_pos h, if_neg (by decide)]
    dsimp only
    unfold junkS
    rw [ln_beh0 L hL, junk_end (lnT L) (4 + L.length) (by rw [ln_size]; omega)]
    have : (lnT L).extract 0 (4 + L.length) = lnT L := by
      apply bytes_eq
      rw [extract_list, List.take_of_length_le (by rw [size_data, ln_size]; omega)]
      rfl
    rw [this]
  · rw [if_neg h, if_neg h, if_pos (by rfl)]
    rfl
theorem ln_parse (hL : flat L) : parseS (lnT L) = [lnEntry L] := by
  have h0 : passE (lnT L) 0 = 0 := by
    have hsp : sp (lnT L) 0 = 0 := by
      rw [ln0]
      show sp (mkB ([] ++ 109 :: (32 :: 61 :: (L ++ [10])))) ([] : List UInt8).length = 0
      unfold sp
      rw [mkB_list, behN_app, List.takeWhile_cons, show spB 109 = false by decide]
      rfl
    rw [passE, dif_pos (by rw [ln_size]; omega), if_pos ⟨by rw [hsp, ln_size]; omega, by rw [hsp, ln_is0]; rfl⟩]
  have h1 : (lnEntry L).tu = 4 + L.length := by unfold lnEntry; split <;> rfl
  have h2 : passE (lnT L) (4 + L.length) = 4 + L.length := by rw [passE, dif_neg (by rw [ln_size]; omega)]
  unfold parseS
  rw [h0, (parseGo_step (lnT L) [] 0 (by rw [ln_size]; omega)).1, ln_read L hL, h1, h2, parseGo_end _ _ _ (by rw [ln_size]; omega)]
  rfl
end
end Go.Proofs.YticjinmpanfhkaaGreatDoor
