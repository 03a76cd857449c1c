/-
  Several texts put together (part 21): what the law and the program call, walked; their contracts.
-/
import Derived.Test.YtjdpmdheapmanaaGreatDoorQ18
import Derived.Test.YtjdpmdheapmanaaGreatDoorQ19
import Derived.Test.YtjdpmdheapmanaaGreatDoorQ20
import Derived.Laws.StructEq
namespace Go.Proofs.YtjdpmdheapmanaaGreatDoor
open Go.RowKit
set_option linter.unusedVariables false
set_option linter.unusedSimpArgs false
theorem bs1 {B : Nat} {a w : World} {b : Nat} (h : Below B a w) (hb : B ≤ b) (o : Nat) (x : Value) : Below B a (w.setCell ⟨b, o, none⟩ x) := h.setCell (p := ⟨b, o, none⟩) hb _
structure OP where
  mi : Int
  mf : Int
  xf : Int
  pl : Bool
  rk : Bool
def okO (p : OPT) : Bool := if p.it then txtOk p.nm p.tx else numOk p.nm (cntOk p.n p.s.data.toList p.k.toNat) (cntC p.n p.s.data.toList p.k.toNat)
def turnO (p : OPT) (o : OP) : OP :=
  if p.it then ⟨o.mi, o.mf, o.xf, txtPl p.nm p.tx o.pl, txtRk p.nm p.tx o.rk⟩
  else ⟨numMi p.nm (cntOk p.n p.s.data.toList p.k.toNat) (cntC p.n p.s.data.toList p.k.toNat) o.mi, numMf p.nm (cntOk p.n p.s.data.toList p.k.toNat) (cntC p.n p.s.data.toList p.k.toNat) o.mf, numXf p.nm (cntOk p.n p.s.data.toList p.k.toNat) (cntC p.n p.s.data.toList p.k.toNat) o.xf, o.pl, o.rk⟩
def setO (p : OPT) (o : OP) : OP := if okO p then turnO p o else o
def optsF : List OPT → OP → OP
  | [], o => o
  | p :: l, o => optsF l (setO p o)
def BdP (o : OP) : Prop := (0 ≤ o.mi ∧ o.mi ≤ 20) ∧ (0 ≤ o.mf ∧ o.mf ≤ 20) ∧ (0 ≤ o.xf ∧ o.xf ≤ 20)
theorem turn_bd {p : OPT} {o : OP} (hp : OkO p) (h : BdP o) : BdP (turnO p o) := by
  obtain ⟨kk, hk, hN⟩ := hp
  have hc := cntC_bd (n := p.n) hN
  obtain ⟨h1, h2, h3⟩ := h
  unfold turnO
  split
  · exact ⟨h1, h2, h3⟩
  · rw [hk, Int.toNat_natCast]
    generalize cntC p.n p.s.data.toList kk = c at *
    generalize cntOk p.n p.s.data.toList kk = q at *
    refine ⟨?_, ?_, ?_⟩
    · show 0 ≤ numMi p.nm q c o.mi ∧ numMi p.nm q c o.mi ≤ 20
      unfold numMi
      split
      · exact hc
      · exact h1
    · show 0 ≤ numMf p.nm q c o.mf ∧ numMf p.nm q c o.mf ≤ 20
      unfold numMf
      split
      · exact hc
      · split <;> omega
    · show 0 ≤ numXf p.nm q c o.xf ∧ numXf p.nm q c o.xf ≤ 20
      unfold numXf
      split
      · omega
      · split <;> omega
theorem set_bd {p : OPT} {o : OP} (hp : OkO p) (h : BdP o) : BdP (setO p o) := by
  unfold setO
  split
  · exact turn_bd hp h
  · exact h
set_option maxHeartbeats 4000000 in
set_option maxRecDepth 100000 in
theorem set_core (nm tx : ByteArray) (n : Bool) (s : ByteArray) (k : Int) (it ok : Bool) (mi mf xf mi2 mf2 xf2 : Int) (pl rk pl2 rk2 : Bool) (w : World)
    (hT : it = true → ∀ (b : Nat) (W : World), BoxAt W b #[.int .i64 mi, .int .i64 mf, .int .i64 xf, .bool pl, .bool rk] 26 → Calls Tryz.prog 18 #[.pointer (some ⟨b, 0, none⟩), .string nm, .string tx] W fun e w' => e = .returned (.bool ok) ∧ BoxAt w' b #[.int .i64 mi2, .int .i64 mf2, .int .i64 xf2, .bool pl2, .bool rk2] 26 ∧ Kp b W w')
    (hN : it = false → ∀ (b : Nat) (W : World), BoxAt W b #[.int .i64 mi, .int .i64 mf, .int .i64 xf, .bool pl, .bool rk] 26 → Calls Tryz.prog 19 #[.pointer (some ⟨b, 0, none⟩), .string nm, .agg #[.bool n, .string s, .int .i64 k]] W fun e w' => e = .returned (.bool ok) ∧ BoxAt w' b #[.int .i64 mi2, .int .i64 mf2, .int .i64 xf2, .bool pl2, .bool rk2] 26 ∧ Kp b W w') :
    Calls Tryz.prog 8 #[.agg #[.int .i64 mi, .int .i64 mf, .int .i64 xf, .bool pl, .bool rk], .string nm, .string tx, .agg #[.bool n, .string s, .int .i64 k], .bool it] w
      fun e w' => e = .returned (if ok then .tuple #[.agg #[.int .i64 mi2, .int .i64 mf2, .int .i64 xf2, .bool pl2, .bool rk2], .int .i64 0] else .tuple #[.agg #[.int .i64 0, .int .i64 0, .int .i64 0, .bool false, .bool false], .int .i64 1]) ∧ Below w.heap.size w w' := by
  have B0 := Lib.hid (((BoxAt.new w #[.int .i64 mi, .int .i64 mf, .int .i64 xf, .bool pl, .bool rk] 26).alloc (.cells #[.bool n, .string s, .int .i64 k] 29)).alloc (.cells #[.int .i64 0, .int .i64 0, .int .i64 0, .bool false, .bool false] 26))
  have D0 := Lib.hid ((BoxAt.new' (w.alloc (.cells #[.int .i64 mi, .int .i64 mf, .int .i64 xf, .bool pl, .bool rk] 26)) (w.heap.size + 1) #[.bool n, .string s, .int .i64 k] 29 (by simp)).alloc (.cells #[.int .i64 0, .int .i64 0, .int .i64 0, .bool false, .bool false] 26))
  have R0 := Lib.hid (BoxAt.new' ((w.alloc (.cells #[.int .i64 mi, .int .i64 mf, .int .i64 xf, .bool pl, .bool rk] 26)).alloc (.cells #[.bool n, .string s, .int .i64 k] 29)) (w.heap.size + 1 + 1) #[.int .i64 0, .int .i64 0, .int .i64 0, .bool false, .bool false] 26 (by simp))
  have K0 := Lib.hid ((((Kp.refl w.heap.size w).alloc (Nat.le_refl _) (.cells #[.int .i64 mi, .int .i64 mf, .int .i64 xf, .bool pl, .bool rk] 26)).alloc (by simp) (.cells #[.bool n, .string s, .int .i64 k] 29)).alloc (by simp; omega) (.cells #[.int .i64 0, .int .i64 0, .int .i64 0, .bool false, .bool false] 26))
  cases it
  all_goals
    first | have HT := Lib.hid (hT rfl) | have HT := Lib.hid (hN rfl)
    clear hT hN
    go_enter Tryz.func8, Tryz.ntmps8
    go_wp2_with fail
    first | go_at_call 18 | go_at_call 19
    refine (HT.out _ _ B0.out).mono ?_
    rintro e w2 ⟨rfl, hb2, hk2⟩
    have R2 := R0.out.kp hk2 (by omega)
    have K2 := Lib.hid (K0.out.trans hk2)
    have zb := hb2.lt
    have zr := R2.lt
    have y0 := hb2.cell 0
    have y1 := hb2.cell 1
    have y2 := hb2.cell 2
    have y3 := hb2.cell 3
    have y4 := hb2.cell 4
    simp only [List.getElem?_toArray, List.getElem?_cons_zero, List.getElem?_cons_succ] at y0 y1 y2 y3 y4
    have v0 := R2.cell 0
    have v1 := R2.cell 1
    have v2 := R2.cell 2
    have v3 := R2.cell 3
    have v4 := R2.cell 4
    simp only [List.getElem?_toArray, List.getElem?_cons_zero, List.getElem?_cons_succ] at v0 v1 v2 v3 v4
    have f0 := R2.z 0
    have f1 := R2.z 1
    have f2 := R2.z 2
    have f3 := R2.z 3
    have f4 := R2.z 4
    have HR2 := Lib.hid R2
    clear hb2 hk2 R2
    cases ok
    case false =>
      go_wp2
      have hK := Lib.hid (show Below w.heap.size w (((((w2.setCell ⟨w.heap.size + 1 + 1, 0, none⟩ (.int .i64 0)).setCell ⟨w.heap.size + 1 + 1, 1, none⟩ (.int .i64 0)).setCell ⟨w.heap.size + 1 + 1, 2, none⟩ (.int .i64 0)).setCell ⟨w.heap.size + 1 + 1, 3, none⟩ (.bool false)).setCell ⟨w.heap.size + 1 + 1, 4, none⟩ (.bool false)) from (bs1 (bs1 (bs1 (bs1 (bs1 K2.out.below (by omega : w.heap.size ≤ w.heap.size + 1 + 1) 0 (.int .i64 0)) (by omega : w.heap.size ≤ w.heap.size + 1 + 1) 1 (.int .i64 0)) (by omega : w.heap.size ≤ w.heap.size + 1 + 1) 2 (.int .i64 0)) (by omega : w.heap.size ≤ w.heap.size + 1 + 1) 3 (.bool false)) (by omega : w.heap.size ≤ w.heap.size + 1 + 1) 4 (.bool false)))
      have R3 := (((((HR2.out.set 0 (.int .i64 0)).set 1 (.int .i64 0)).set 2 (.int .i64 0)).set 3 (.bool false)).set 4 (.bool false))
      clear v0 y0 f0 v1 y1 f1 v2 y2 f2 v3 y3 f3 v4 y4 f4
      have v0 := R3.cell 0
      have v1 := R3.cell 1
      have v2 := R3.cell 2
      have v3 := R3.cell 3
      have v4 := R3.cell 4
      simp only [List.getElem?_toArray, List.getElem?_cons_zero, List.getElem?_cons_succ, List.setIfInBounds_toArray, List.set_cons_zero, List.set_cons_succ] at v0 v1 v2 v3 v4
      clear R3 HR2 K2
      generalize (((((w2.setCell ⟨w.heap.size + 1 + 1, 0, none⟩ (.int .i64 0)).setCell ⟨w.heap.size + 1 + 1, 1, none⟩ (.int .i64 0)).setCell ⟨w.heap.size + 1 + 1, 2, none⟩ (.int .i64 0)).setCell ⟨w.heap.size + 1 + 1, 3, none⟩ (.bool false)).setCell ⟨w.heap.size + 1 + 1, 4, none⟩ (.bool false)) = W at *
      exact bodyPost_ret (v := .tuple #[.agg #[.int .i64 0, .int .i64 0, .int .i64 0, .bool false, .bool false], .int .i64 1]) (by simp [results, Tryz.results8, go_sem, v0, v1, v2, v3, v4]) rfl ⟨rfl, hK.out⟩
    case true =>
      go_wp2
      have hK := Lib.hid (show Below w.heap.size w (((((w2.setCell ⟨w.heap.size + 1 + 1, 0, none⟩ (.int .i64 mi2)).setCell ⟨w.heap.size + 1 + 1, 1, none⟩ (.int .i64 mf2)).setCell ⟨w.heap.size + 1 + 1, 2, none⟩ (.int .i64 xf2)).setCell ⟨w.heap.size + 1 + 1, 3, none⟩ (.bool pl2)).setCell ⟨w.heap.size + 1 + 1, 4, none⟩ (.bool rk2)) from (bs1 (bs1 (bs1 (bs1 (bs1 K2.out.below (by omega : w.heap.size ≤ w.heap.size + 1 + 1) 0 (.int .i64 mi2)) (by omega : w.heap.size ≤ w.heap.size + 1 + 1) 1 (.int .i64 mf2)) (by omega : w.heap.size ≤ w.heap.size + 1 + 1) 2 (.int .i64 xf2)) (by omega : w.heap.size ≤ w.heap.size + 1 + 1) 3 (.bool pl2)) (by omega : w.heap.size ≤ w.heap.size + 1 + 1) 4 (.bool rk2)))
      have R3 := (((((HR2.out.set 0 (.int .i64 mi2)).set 1 (.int .i64 mf2)).set 2 (.int .i64 xf2)).set 3 (.bool pl2)).set 4 (.bool rk2))
      clear v0 y0 f0 v1 y1 f1 v2 y2 f2 v3 y3 f3 v4 y4 f4
      have v0 := R3.cell 0
      have v1 := R3.cell 1
      have v2 := R3.cell 2
      have v3 := R3.cell 3
      have v4 := R3.cell 4
      simp only [List.getElem?_toArray, List.getElem?_cons_zero, List.getElem?_cons_succ, List.setIfInBounds_toArray, List.set_cons_zero, List.set_cons_succ] at v0 v1 v2 v3 v4
      clear R3 HR2 K2
      generalize (((((w2.setCell ⟨w.heap.size + 1 + 1, 0, none⟩ (.int .i64 mi2)).setCell ⟨w.heap.size + 1 + 1, 1, none⟩ (.int .i64 mf2)).setCell ⟨w.heap.size + 1 + 1, 2, none⟩ (.int .i64 xf2)).setCell ⟨w.heap.size + 1 + 1, 3, none⟩ (.bool pl2)).setCell ⟨w.heap.size + 1 + 1, 4, none⟩ (.bool rk2)) = W at *
      exact bodyPost_ret (v := .tuple #[.agg #[.int .i64 mi2, .int .i64 mf2, .int .i64 xf2, .bool pl2, .bool rk2], .int .i64 0]) (by simp [results, Tryz.results8, go_sem, v0, v1, v2, v3, v4]) rfl ⟨rfl, hK.out⟩
theorem set_any (p : OPT) (o : OP) (w : World) (hp : OkO p) :
    Calls Tryz.prog 8 #[.agg #[.int .i64 o.mi, .int .i64 o.mf, .int .i64 o.xf, .bool o.pl, .bool o.rk], .string p.nm, .string p.tx, .agg #[.bool p.n, .string p.s, .int .i64 p.k], .bool p.it] w
      fun e w' => e = .returned (if okO p then .tuple #[.agg #[.int .i64 (turnO p o).mi, .int .i64 (turnO p o).mf, .int .i64 (turnO p o).xf, .bool (turnO p o).pl, .bool (turnO p o).rk], .int .i64 0] else .tuple #[.agg #[.int .i64 0, .int .i64 0, .int .i64 0, .bool false, .bool false], .int .i64 1]) ∧ Below w.heap.size w w' := by
  obtain ⟨kk, hk, hN⟩ := hp
  obtain ⟨nm, tx, n, s, k, it⟩ := p
  dsimp only at *
  subst hk
  refine set_core nm tx n s (kk : Int) it _ o.mi o.mf o.xf _ _ _ o.pl o.rk _ _ w (fun h b W hB => ?_) (fun h b W hB => ?_)
  · subst h
    exact setText_any b o.mi o.mf o.xf o.pl o.rk nm tx W hB
  · subst h
    have := setNumber_any b o.mi o.mf o.xf (cntC n s.data.toList kk) o.pl o.rk (cntOk n s.data.toList kk) nm n s (kk : Int) W hB (fun W => count_any n s kk W hN)
    simp only [okO, turnO, Int.toNat_natCast, Bool.false_eq_true, if_false]
    exact this
end Go.Proofs.YtjdpmdheapmanaaGreatDoor

namespace Go.Proofs.YtjdpmdheapmanaaGreatDoor
open Go.RowKit
set_option linter.unusedVariables false
set_option linter.unusedSimpArgs false
theorem join_list : ∀ (nm tx A B : List UInt8), (61 : UInt8) ∉ A → (61 : UInt8) ∉ B → (nm ++ 61 :: tx = A ++ 61 :: B ↔ nm = A ∧ tx = B)
  | [], tx, [], B, _, _ => by simp
  | [], tx, a :: A, B, hA, _ => by
    have : a ≠ 61 := fun e => hA (by rw [e]; exact List.mem_cons_self ..)
    simp only [List.nil_append, List.cons_append, List.cons.injEq]
    constructor
    · rintro ⟨e, _⟩; exact absurd e.symm this
    · rintro ⟨e, _⟩; cases e
  | c :: nm, tx, [], B, _, hB => by
    simp only [List.nil_append, List.cons_append, List.cons.injEq]
    constructor
    · rintro ⟨_, e⟩; exact absurd (by rw [← e]; simp) hB
    · rintro ⟨e, _⟩; cases e
  | c :: nm, tx, a :: A, B, hA, hB => by
    have ih := join_list nm tx A B (fun h => hA (List.mem_cons_of_mem _ h)) hB
    simp only [List.cons_append, List.cons.injEq, ih, and_assoc]
theorem join_eq (nm tx : ByteArray) (A B : List UInt8) (hA : (61 : UInt8) ∉ A) (hB : (61 : UInt8) ∉ B) : ((nm ++ ⟨#[61]⟩ ++ tx).toList == A ++ 61 :: B) = ((nm.toList == A) && (tx.toList == B)) := by
  have e : (nm ++ ⟨#[61]⟩ ++ tx).toList = nm.toList ++ 61 :: tx.toList := by
    rw [Lib.toList_data, Lib.toList_data, Lib.toList_data]
    simp
  have h := join_list nm.toList tx.toList A B hA hB
  rw [e, Bool.eq_iff_iff, Bool.and_eq_true, beq_iff_eq, beq_iff_eq, beq_iff_eq]
  exact h
theorem eq_useGrouping_false (nm tx : ByteArray) : ((nm ++ ⟨#[61]⟩ ++ tx).toList == [117, 115, 101, 71, 114, 111, 117, 112, 105, 110, 103, 61, 102, 97, 108, 115, 101]) = ((nm.toList == [117, 115, 101, 71, 114, 111, 117, 112, 105, 110, 103]) && (tx.toList == [102, 97, 108, 115, 101])) := join_eq nm tx [117, 115, 101, 71, 114, 111, 117, 112, 105, 110, 103] [102, 97, 108, 115, 101] (by decide) (by decide)
theorem eq_useGrouping_true (nm tx : ByteArray) : ((nm ++ ⟨#[61]⟩ ++ tx).toList == [117, 115, 101, 71, 114, 111, 117, 112, 105, 110, 103, 61, 116, 114, 117, 101]) = ((nm.toList == [117, 115, 101, 71, 114, 111, 117, 112, 105, 110, 103]) && (tx.toList == [116, 114, 117, 101])) := join_eq nm tx [117, 115, 101, 71, 114, 111, 117, 112, 105, 110, 103] [116, 114, 117, 101] (by decide) (by decide)
theorem eq_type_ordinal (nm tx : ByteArray) : ((nm ++ ⟨#[61]⟩ ++ tx).toList == [116, 121, 112, 101, 61, 111, 114, 100, 105, 110, 97, 108]) = ((nm.toList == [116, 121, 112, 101]) && (tx.toList == [111, 114, 100, 105, 110, 97, 108])) := join_eq nm tx [116, 121, 112, 101] [111, 114, 100, 105, 110, 97, 108] (by decide) (by decide)
theorem eq_type_cardinal (nm tx : ByteArray) : ((nm ++ ⟨#[61]⟩ ++ tx).toList == [116, 121, 112, 101, 61, 99, 97, 114, 100, 105, 110, 97, 108]) = ((nm.toList == [116, 121, 112, 101]) && (tx.toList == [99, 97, 114, 100, 105, 110, 97, 108])) := join_eq nm tx [116, 121, 112, 101] [99, 97, 114, 100, 105, 110, 97, 108] (by decide) (by decide)
set_option maxHeartbeats 4000000 in
set_option maxRecDepth 100000 in
theorem set_law_text (mi mf xf : Int) (pl rk : Bool) (nm tx : ByteArray) (n : Bool) (s : ByteArray) (k : Int) (w : World) (hz : nm.size + tx.size + 1 ≤ maxLen) :
    Calls Tryz.prog 9 #[.agg #[.int .i64 mi, .int .i64 mf, .int .i64 xf, .bool pl, .bool rk], .agg #[.string nm, .string tx, .bool n, .string s, .int .i64 k, .bool true]] w
      fun e w' => e = .returned (if txtOk nm tx then .tuple #[.agg #[.int .i64 mi, .int .i64 mf, .int .i64 xf, .bool (txtPl nm tx pl), .bool (txtRk nm tx rk)], .bool true] else .tuple #[.agg #[.int .i64 0, .int .i64 0, .int .i64 0, .bool false, .bool false], .bool false]) ∧ Below w.heap.size w w' := by
  have q1 := eq_useGrouping_false nm tx
  have q2 := eq_useGrouping_true nm tx
  have q3 := eq_type_ordinal nm tx
  have q4 := eq_type_cardinal nm tx
  unfold maxLen at hz
  have hs1 : nm.size + 1 ≤ 9223372036854775807 := by omega
  have hs2 : nm.size + 1 + tx.size ≤ 9223372036854775807 := by omega
  have hsJ : (nm ++ ⟨#[61]⟩).size = nm.size + 1 := by rw [ByteArray.size_append]; rfl
  obtain ⟨J, hJ⟩ : ∃ J, nm ++ ⟨#[61]⟩ ++ tx = J := ⟨_, rfl⟩
  rw [hJ] at q1 q2 q3 q4
  obtain ⟨P, hP⟩ : ∃ P, txtPl nm tx pl = P := ⟨_, rfl⟩
  obtain ⟨R, hR⟩ : ∃ R, txtRk nm tx rk = R := ⟨_, rfl⟩
  obtain ⟨O, hO⟩ : ∃ O, txtOk nm tx = O := ⟨_, rfl⟩
  rw [hP, hR, hO]
  unfold txtPl at hP
  unfold txtRk at hR
  unfold txtOk at hO
  cases a : (nm.toList == [117, 115, 101, 71, 114, 111, 117, 112, 105, 110, 103])
  case true =>
    have b : (nm.toList == [116, 121, 112, 101]) = false := by rw [beq_iff_eq.1 a]; decide
    cases c1 : (tx.toList == [102, 97, 108, 115, 101])
    case true =>
      have c2 : (tx.toList == [116, 114, 117, 101]) = false := by rw [beq_iff_eq.1 c1]; decide
      simp only [a, b, c1, c2, Bool.and_true, Bool.true_and, Bool.false_and, Bool.and_false, Bool.or_true, Bool.true_or, Bool.or_false, Bool.false_or, Bool.false_eq_true, if_true, if_false] at q1 q2 q3 q4 hP hR hO
      subst hP hR hO
      go_enter Tryz.func9, Tryz.ntmps9
      go_wp2
      exact bodyPost_ret (v := .tuple #[.agg #[.int .i64 mi, .int .i64 mf, .int .i64 xf, .bool true, .bool rk], .bool true]) (by simp [results, Tryz.results9, go_sem]) rfl ⟨rfl, ((((Below.refl _ _).alloc (Nat.le_refl _) _).alloc (by simp) _).alloc (by simp; omega) _)⟩
    case false =>
      cases c2 : (tx.toList == [116, 114, 117, 101])
      case true =>
        simp only [a, b, c1, c2, Bool.and_true, Bool.true_and, Bool.false_and, Bool.and_false, Bool.or_true, Bool.true_or, Bool.or_false, Bool.false_or, Bool.false_eq_true, if_true, if_false] at q1 q2 q3 q4 hP hR hO
        subst hP hR hO
        go_enter Tryz.func9, Tryz.ntmps9
        go_wp2
        exact bodyPost_ret (v := .tuple #[.agg #[.int .i64 mi, .int .i64 mf, .int .i64 xf, .bool false, .bool rk], .bool true]) (by simp [results, Tryz.results9, go_sem]) rfl ⟨rfl, ((((Below.refl _ _).alloc (Nat.le_refl _) _).alloc (by simp) _).alloc (by simp; omega) _)⟩
      case false =>
        simp only [a, b, c1, c2, Bool.and_true, Bool.true_and, Bool.false_and, Bool.and_false, Bool.or_true, Bool.true_or, Bool.or_false, Bool.false_or, Bool.false_eq_true, if_true, if_false] at q1 q2 q3 q4 hP hR hO
        subst hP hR hO
        go_enter Tryz.func9, Tryz.ntmps9
        go_wp2
        exact bodyPost_ret (v := .tuple #[.agg #[.int .i64 0, .int .i64 0, .int .i64 0, .bool false, .bool false], .bool false]) (by simp [results, Tryz.results9, go_sem]) rfl ⟨rfl, ((((Below.refl _ _).alloc (Nat.le_refl _) _).alloc (by simp) _).alloc (by simp; omega) _)⟩
  case false =>
    cases b : (nm.toList == [116, 121, 112, 101])
    case true =>
      cases c1 : (tx.toList == [111, 114, 100, 105, 110, 97, 108])
      case true =>
        have c2 : (tx.toList == [99, 97, 114, 100, 105, 110, 97, 108]) = false := by rw [beq_iff_eq.1 c1]; decide
        simp only [a, b, c1, c2, Bool.and_true, Bool.true_and, Bool.false_and, Bool.and_false, Bool.or_true, Bool.true_or, Bool.or_false, Bool.false_or, Bool.false_eq_true, if_true, if_false] at q1 q2 q3 q4 hP hR hO
        subst hP hR hO
        go_enter Tryz.func9, Tryz.ntmps9
        go_wp2
        exact bodyPost_ret (v := .tuple #[.agg #[.int .i64 mi, .int .i64 mf, .int .i64 xf, .bool pl, .bool true], .bool true]) (by simp [results, Tryz.results9, go_sem]) rfl ⟨rfl, ((((Below.refl _ _).alloc (Nat.le_refl _) _).alloc (by simp) _).alloc (by simp; omega) _)⟩
      case false =>
        cases c2 : (tx.toList == [99, 97, 114, 100, 105, 110, 97, 108])
        case true =>
          simp only [a, b, c1, c2, Bool.and_true, Bool.true_and, Bool.false_and, Bool.and_false, Bool.or_true, Bool.true_or, Bool.or_false, Bool.false_or, Bool.false_eq_true, if_true, if_false] at q1 q2 q3 q4 hP hR hO
          subst hP hR hO
          go_enter Tryz.func9, Tryz.ntmps9
          go_wp2
          exact bodyPost_ret (v := .tuple #[.agg #[.int .i64 mi, .int .i64 mf, .int .i64 xf, .bool pl, .bool false], .bool true]) (by simp [results, Tryz.results9, go_sem]) rfl ⟨rfl, ((((Below.refl _ _).alloc (Nat.le_refl _) _).alloc (by simp) _).alloc (by simp; omega) _)⟩
        case false =>
          simp only [a, b, c1, c2, Bool.and_true, Bool.true_and, Bool.false_and, Bool.and_false, Bool.or_true, Bool.true_or, Bool.or_false, Bool.false_or, Bool.false_eq_true, if_true, if_false] at q1 q2 q3 q4 hP hR hO
          subst hP hR hO
          go_enter Tryz.func9, Tryz.ntmps9
          go_wp2
          exact bodyPost_ret (v := .tuple #[.agg #[.int .i64 0, .int .i64 0, .int .i64 0, .bool false, .bool false], .bool false]) (by simp [results, Tryz.results9, go_sem]) rfl ⟨rfl, ((((Below.refl _ _).alloc (Nat.le_refl _) _).alloc (by simp) _).alloc (by simp; omega) _)⟩
    case false =>
      simp only [a, b, Bool.and_true, Bool.true_and, Bool.false_and, Bool.and_false, Bool.or_true, Bool.true_or, Bool.or_false, Bool.false_or, Bool.false_eq_true, if_true, if_false] at q1 q2 q3 q4 hP hR hO
      subst hP hR hO
      go_enter Tryz.func9, Tryz.ntmps9
      go_wp2
      exact bodyPost_ret (v := .tuple #[.agg #[.int .i64 0, .int .i64 0, .int .i64 0, .bool false, .bool false], .bool false]) (by simp [results, Tryz.results9, go_sem]) rfl ⟨rfl, ((((Below.refl _ _).alloc (Nat.le_refl _) _).alloc (by simp) _).alloc (by simp; omega) _)⟩
end Go.Proofs.YtjdpmdheapmanaaGreatDoor

namespace Go.Proofs.YtjdpmdheapmanaaGreatDoor
open Go.RowKit
set_option linter.unusedVariables false
set_option linter.unusedSimpArgs false
set_option maxHeartbeats 8000000 in
set_option maxRecDepth 100000 in
theorem set_law_num (mi mf xf c V : Int) (pl rk ok : Bool) (nm tx : ByteArray) (n : Bool) (s : ByteArray) (k : Int) (w : World)
    (hC : ∀ W : World, Calls Tryz.prog 20 #[.agg #[.bool n, .string s, .int .i64 k]] W fun e w' => e = .returned (.int .i64 V) ∧ Below W.heap.size W w')
    (hY : ok = true → V = c ∧ 0 ≤ c ∧ c ≤ 20) (hN : ok = false → V < 0 ∨ 20 < V) :
    Calls Tryz.prog 9 #[.agg #[.int .i64 mi, .int .i64 mf, .int .i64 xf, .bool pl, .bool rk], .agg #[.string nm, .string tx, .bool n, .string s, .int .i64 k, .bool false]] w
      fun e w' => e = .returned (if numOk nm ok c then .tuple #[.agg #[.int .i64 (numMi nm ok c mi), .int .i64 (numMf nm ok c mf), .int .i64 (numXf nm ok c xf), .bool pl, .bool rk], .bool true] else .tuple #[.agg #[.int .i64 0, .int .i64 0, .int .i64 0, .bool false, .bool false], .bool false]) ∧ Below w.heap.size w w' := by
  have HC := Lib.hid hC
  obtain ⟨O, hO⟩ : ∃ O, numOk nm ok c = O := ⟨_, rfl⟩
  obtain ⟨M, hM⟩ : ∃ M, numMi nm ok c mi = M := ⟨_, rfl⟩
  obtain ⟨F, hF⟩ : ∃ F, numMf nm ok c mf = F := ⟨_, rfl⟩
  obtain ⟨X, hX⟩ : ∃ X, numXf nm ok c xf = X := ⟨_, rfl⟩
  rw [hO, hM, hF, hX]
  unfold numOk at hO
  unfold numMi at hM
  unfold numMf at hF
  unfold numXf at hX
  have HO := Lib.hid hO
  have HM := Lib.hid hM
  have HF := Lib.hid hF
  have HX := Lib.hid hX
  clear hC hO hM hF hX
  have B0 := Lib.hid (((BoxAt.new w #[.int .i64 mi, .int .i64 mf, .int .i64 xf, .bool pl, .bool rk] 26).alloc (.cells #[.string nm, .string tx, .bool n, .string s, .int .i64 k, .bool false] 31)).alloc (.cells #[.int .i64 0, .int .i64 0, .int .i64 0, .bool false, .bool false] 26))
  have D0 := Lib.hid ((BoxAt.new' (w.alloc (.cells #[.int .i64 mi, .int .i64 mf, .int .i64 xf, .bool pl, .bool rk] 26)) (w.heap.size + 1) #[.string nm, .string tx, .bool n, .string s, .int .i64 k, .bool false] 31 (by simp)).alloc (.cells #[.int .i64 0, .int .i64 0, .int .i64 0, .bool false, .bool false] 26))
  have R0 := Lib.hid (BoxAt.new' ((w.alloc (.cells #[.int .i64 mi, .int .i64 mf, .int .i64 xf, .bool pl, .bool rk] 26)).alloc (.cells #[.string nm, .string tx, .bool n, .string s, .int .i64 k, .bool false] 31)) (w.heap.size + 1 + 1) #[.int .i64 0, .int .i64 0, .int .i64 0, .bool false, .bool false] 26 (by simp))
  have K0 := Lib.hid (show Below w.heap.size w (((w.alloc (.cells #[.int .i64 mi, .int .i64 mf, .int .i64 xf, .bool pl, .bool rk] 26)).alloc (.cells #[.string nm, .string tx, .bool n, .string s, .int .i64 k, .bool false] 31)).alloc (.cells #[.int .i64 0, .int .i64 0, .int .i64 0, .bool false, .bool false] 26)) from ((((Below.refl _ _).alloc (Nat.le_refl _) _).alloc (by simp) _).alloc (by simp; omega) _))
  go_enter Tryz.func9, Tryz.ntmps9
  go_wp2_with fail
  go_at_call 20
  refine (HC.out _).mono ?_
  rintro e w1 ⟨rfl, hb1⟩
  have HZ := Lib.hid (below_then K0.out (Nat.le_refl _) hb1)
  have B1 := B0.out.later hb1
  have D1 := D0.out.later hb1
  have R1 := R0.out.later hb1
  have zb := B1.lt
  have zd := D1.lt
  have zr := R1.lt
  have y0 := B1.cell 0
  have u0 := B1.z 0
  have v0 := R1.cell 0
  have f0 := R1.z 0
  have y1 := B1.cell 1
  have u1 := B1.z 1
  have v1 := R1.cell 1
  have f1 := R1.z 1
  have y2 := B1.cell 2
  have u2 := B1.z 2
  have v2 := R1.cell 2
  have f2 := R1.z 2
  have y3 := B1.cell 3
  have u3 := B1.z 3
  have v3 := R1.cell 3
  have f3 := R1.z 3
  have y4 := B1.cell 4
  have u4 := B1.z 4
  have v4 := R1.cell 4
  have f4 := R1.z 4
  have p0 := D1.cell 0
  simp only [List.getElem?_toArray, List.getElem?_cons_zero, List.getElem?_cons_succ] at y0 v0 y1 v1 y2 v2 y3 v3 y4 v4 p0
  have HB := Lib.hid B1
  have HR := Lib.hid R1
  clear hb1 B1 D1 R1 B0 D0 R0 K0
  have hO := HO.out
  have hM := HM.out
  have hF := HF.out
  have hX := HX.out
  clear HO HM HF HX HC
  cases ok
  case false =>
    simp only [Bool.false_and, Bool.false_eq_true, if_false] at hO hM hF hX
    by_cases h0 : V < 0
    · have d1 : decide (V < 0) = true := decide_eq_true h0
      subst hO hM hF hX
      go_wp2
      have hK := Lib.hid (show Below w.heap.size w (((((w1.setCell ⟨w.heap.size + 1 + 1, 0, none⟩ (.int .i64 0)).setCell ⟨w.heap.size + 1 + 1, 1, none⟩ (.int .i64 0)).setCell ⟨w.heap.size + 1 + 1, 2, none⟩ (.int .i64 0)).setCell ⟨w.heap.size + 1 + 1, 3, none⟩ (.bool false)).setCell ⟨w.heap.size + 1 + 1, 4, none⟩ (.bool false)) from (bs1 (bs1 (bs1 (bs1 (bs1 HZ.out (by omega) 0 (.int .i64 0)) (by omega) 1 (.int .i64 0)) (by omega) 2 (.int .i64 0)) (by omega) 3 (.bool false)) (by omega) 4 (.bool false)))
      have R3 := (((((HR.out.set 0 (.int .i64 0)).set 1 (.int .i64 0)).set 2 (.int .i64 0)).set 3 (.bool false)).set 4 (.bool false))
      clear y0 u0 v0 f0 y1 u1 v1 f1 y2 u2 v2 f2 y3 u3 v3 f3 y4 u4 v4 f4
      have v0 := R3.cell 0
      have v1 := R3.cell 1
      have v2 := R3.cell 2
      have v3 := R3.cell 3
      have v4 := R3.cell 4
      simp only [List.getElem?_toArray, List.getElem?_cons_zero, List.getElem?_cons_succ, List.setIfInBounds_toArray, List.set_cons_zero, List.set_cons_succ] at v0 v1 v2 v3 v4
      clear R3 HR HB HZ
      generalize (((((w1.setCell ⟨w.heap.size + 1 + 1, 0, none⟩ (.int .i64 0)).setCell ⟨w.heap.size + 1 + 1, 1, none⟩ (.int .i64 0)).setCell ⟨w.heap.size + 1 + 1, 2, none⟩ (.int .i64 0)).setCell ⟨w.heap.size + 1 + 1, 3, none⟩ (.bool false)).setCell ⟨w.heap.size + 1 + 1, 4, none⟩ (.bool false)) = W3 at *
      exact bodyPost_ret (v := .tuple #[.agg #[.int .i64 0, .int .i64 0, .int .i64 0, .bool false, .bool false], .bool false]) (by simp [results, Tryz.results9, go_sem, v0, v1, v2, v3, v4]) rfl ⟨rfl, hK.out⟩
    · have h1 : 20 < V := by have := hN rfl; omega
      have d1 : decide (V < 0) = false := decide_eq_false h0
      have d2 : decide (20 < V) = true := decide_eq_true h1
      have d3 : decide (V > 20) = true := decide_eq_true h1
      subst hO hM hF hX
      go_wp2
      have hK := Lib.hid (show Below w.heap.size w (((((w1.setCell ⟨w.heap.size + 1 + 1, 0, none⟩ (.int .i64 0)).setCell ⟨w.heap.size + 1 + 1, 1, none⟩ (.int .i64 0)).setCell ⟨w.heap.size + 1 + 1, 2, none⟩ (.int .i64 0)).setCell ⟨w.heap.size + 1 + 1, 3, none⟩ (.bool false)).setCell ⟨w.heap.size + 1 + 1, 4, none⟩ (.bool false)) from (bs1 (bs1 (bs1 (bs1 (bs1 HZ.out (by omega) 0 (.int .i64 0)) (by omega) 1 (.int .i64 0)) (by omega) 2 (.int .i64 0)) (by omega) 3 (.bool false)) (by omega) 4 (.bool false)))
      have R3 := (((((HR.out.set 0 (.int .i64 0)).set 1 (.int .i64 0)).set 2 (.int .i64 0)).set 3 (.bool false)).set 4 (.bool false))
      clear y0 u0 v0 f0 y1 u1 v1 f1 y2 u2 v2 f2 y3 u3 v3 f3 y4 u4 v4 f4
      have v0 := R3.cell 0
      have v1 := R3.cell 1
      have v2 := R3.cell 2
      have v3 := R3.cell 3
      have v4 := R3.cell 4
      simp only [List.getElem?_toArray, List.getElem?_cons_zero, List.getElem?_cons_succ, List.setIfInBounds_toArray, List.set_cons_zero, List.set_cons_succ] at v0 v1 v2 v3 v4
      clear R3 HR HB HZ
      generalize (((((w1.setCell ⟨w.heap.size + 1 + 1, 0, none⟩ (.int .i64 0)).setCell ⟨w.heap.size + 1 + 1, 1, none⟩ (.int .i64 0)).setCell ⟨w.heap.size + 1 + 1, 2, none⟩ (.int .i64 0)).setCell ⟨w.heap.size + 1 + 1, 3, none⟩ (.bool false)).setCell ⟨w.heap.size + 1 + 1, 4, none⟩ (.bool false)) = W3 at *
      exact bodyPost_ret (v := .tuple #[.agg #[.int .i64 0, .int .i64 0, .int .i64 0, .bool false, .bool false], .bool false]) (by simp [results, Tryz.results9, go_sem, v0, v1, v2, v3, v4]) rfl ⟨rfl, hK.out⟩
  case true =>
    obtain ⟨rfl, hc0, hc1⟩ := hY rfl
    have d1 : decide (V < 0) = false := decide_eq_false (by omega)
    have d2 : decide (20 < V) = false := decide_eq_false (by omega)
    have d3 : decide (V > 20) = false := decide_eq_false (by omega)
    clear hY hN
    cases a1 : (nm.toList == [109, 105, 110, 105, 109, 117, 109, 73, 110, 116, 101, 103, 101, 114, 68, 105, 103, 105, 116, 115])
    case true =>
      have a2 : (nm.toList == [109, 105, 110, 105, 109, 117, 109, 70, 114, 97, 99, 116, 105, 111, 110, 68, 105, 103, 105, 116, 115]) = false := by rw [beq_iff_eq.1 a1]; decide
      have a3 : (nm.toList == [109, 97, 120, 105, 109, 117, 109, 70, 114, 97, 99, 116, 105, 111, 110, 68, 105, 103, 105, 116, 115]) = false := by rw [beq_iff_eq.1 a1]; decide
      by_cases h0 : V = 0
      · have g1 : (V == 0) = true := by rw [h0]; rfl
        have g2 : (V != 0) = false := by rw [h0]; rfl
        clear h0
        simp only [a1, a2, a3, g2, Bool.and_true, Bool.true_and, Bool.false_and, Bool.and_false, Bool.or_true, Bool.true_or, Bool.or_false, Bool.false_or, Bool.false_eq_true, if_true, if_false] at hO hM hF hX
        subst hO hM hF hX
        go_wp2
        have hK := Lib.hid (show Below w.heap.size w (((((w1.setCell ⟨w.heap.size + 1 + 1, 0, none⟩ (.int .i64 0)).setCell ⟨w.heap.size + 1 + 1, 1, none⟩ (.int .i64 0)).setCell ⟨w.heap.size + 1 + 1, 2, none⟩ (.int .i64 0)).setCell ⟨w.heap.size + 1 + 1, 3, none⟩ (.bool false)).setCell ⟨w.heap.size + 1 + 1, 4, none⟩ (.bool false)) from (bs1 (bs1 (bs1 (bs1 (bs1 HZ.out (by omega) 0 (.int .i64 0)) (by omega) 1 (.int .i64 0)) (by omega) 2 (.int .i64 0)) (by omega) 3 (.bool false)) (by omega) 4 (.bool false)))
        have R3 := (((((HR.out.set 0 (.int .i64 0)).set 1 (.int .i64 0)).set 2 (.int .i64 0)).set 3 (.bool false)).set 4 (.bool false))
        clear y0 u0 v0 f0 y1 u1 v1 f1 y2 u2 v2 f2 y3 u3 v3 f3 y4 u4 v4 f4
        have v0 := R3.cell 0
        have v1 := R3.cell 1
        have v2 := R3.cell 2
        have v3 := R3.cell 3
        have v4 := R3.cell 4
        simp only [List.getElem?_toArray, List.getElem?_cons_zero, List.getElem?_cons_succ, List.setIfInBounds_toArray, List.set_cons_zero, List.set_cons_succ] at v0 v1 v2 v3 v4
        clear R3 HR HB HZ
        generalize (((((w1.setCell ⟨w.heap.size + 1 + 1, 0, none⟩ (.int .i64 0)).setCell ⟨w.heap.size + 1 + 1, 1, none⟩ (.int .i64 0)).setCell ⟨w.heap.size + 1 + 1, 2, none⟩ (.int .i64 0)).setCell ⟨w.heap.size + 1 + 1, 3, none⟩ (.bool false)).setCell ⟨w.heap.size + 1 + 1, 4, none⟩ (.bool false)) = W3 at *
        exact bodyPost_ret (v := .tuple #[.agg #[.int .i64 0, .int .i64 0, .int .i64 0, .bool false, .bool false], .bool false]) (by simp [results, Tryz.results9, go_sem, v0, v1, v2, v3, v4]) rfl ⟨rfl, hK.out⟩
      · have g1 : (V == 0) = false := by simpa using h0
        have g2 : (V != 0) = true := by simpa using h0
        clear h0
        simp only [a1, a2, a3, g2, Bool.and_true, Bool.true_and, Bool.false_and, Bool.and_false, Bool.or_true, Bool.true_or, Bool.or_false, Bool.false_or, Bool.false_eq_true, if_true, if_false] at hO hM hF hX
        subst hO hM hF hX
        go_wp2
        have hK := Lib.hid (show Below w.heap.size w ((((((w1.setCell ⟨w.heap.size, 0, none⟩ (.int .i64 V)).setCell ⟨w.heap.size + 1 + 1, 0, none⟩ (.int .i64 V)).setCell ⟨w.heap.size + 1 + 1, 1, none⟩ (.int .i64 mf)).setCell ⟨w.heap.size + 1 + 1, 2, none⟩ (.int .i64 xf)).setCell ⟨w.heap.size + 1 + 1, 3, none⟩ (.bool pl)).setCell ⟨w.heap.size + 1 + 1, 4, none⟩ (.bool rk)) from (bs1 (bs1 (bs1 (bs1 (bs1 (bs1 HZ.out (by omega) 0 (.int .i64 V)) (by omega) 0 (.int .i64 V)) (by omega) 1 (.int .i64 mf)) (by omega) 2 (.int .i64 xf)) (by omega) 3 (.bool pl)) (by omega) 4 (.bool rk)))
        have R3 := ((((((HR.out.setOther ⟨w.heap.size, 0, none⟩ (.int .i64 V) (by show _ ≠ w.heap.size; omega)).set 0 (.int .i64 V)).set 1 (.int .i64 mf)).set 2 (.int .i64 xf)).set 3 (.bool pl)).set 4 (.bool rk))
        clear y0 u0 v0 f0 y1 u1 v1 f1 y2 u2 v2 f2 y3 u3 v3 f3 y4 u4 v4 f4
        have v0 := R3.cell 0
        have v1 := R3.cell 1
        have v2 := R3.cell 2
        have v3 := R3.cell 3
        have v4 := R3.cell 4
        simp only [List.getElem?_toArray, List.getElem?_cons_zero, List.getElem?_cons_succ, List.setIfInBounds_toArray, List.set_cons_zero, List.set_cons_succ] at v0 v1 v2 v3 v4
        clear R3 HR HB HZ
        generalize ((((((w1.setCell ⟨w.heap.size, 0, none⟩ (.int .i64 V)).setCell ⟨w.heap.size + 1 + 1, 0, none⟩ (.int .i64 V)).setCell ⟨w.heap.size + 1 + 1, 1, none⟩ (.int .i64 mf)).setCell ⟨w.heap.size + 1 + 1, 2, none⟩ (.int .i64 xf)).setCell ⟨w.heap.size + 1 + 1, 3, none⟩ (.bool pl)).setCell ⟨w.heap.size + 1 + 1, 4, none⟩ (.bool rk)) = W3 at *
        exact bodyPost_ret (v := .tuple #[.agg #[.int .i64 V, .int .i64 mf, .int .i64 xf, .bool pl, .bool rk], .bool true]) (by simp [results, Tryz.results9, go_sem, v0, v1, v2, v3, v4]) rfl ⟨rfl, hK.out⟩
    case false =>
      cases a2 : (nm.toList == [109, 105, 110, 105, 109, 117, 109, 70, 114, 97, 99, 116, 105, 111, 110, 68, 105, 103, 105, 116, 115])
      case true =>
        have a3 : (nm.toList == [109, 97, 120, 105, 109, 117, 109, 70, 114, 97, 99, 116, 105, 111, 110, 68, 105, 103, 105, 116, 115]) = false := by rw [beq_iff_eq.1 a2]; decide
        by_cases h0 : xf < V
        · have g1 : decide (xf < V) = true := decide_eq_true h0
          have g2 : max V xf = V := by omega
          simp only [a1, a2, a3, g2, Bool.and_true, Bool.true_and, Bool.false_and, Bool.and_false, Bool.or_true, Bool.true_or, Bool.or_false, Bool.false_or, Bool.false_eq_true, if_true, if_false] at hO hM hF hX
          subst hO hM hF hX
          go_wp2
          have hK := Lib.hid (show Below w.heap.size w (((((((w1.setCell ⟨w.heap.size, 1, none⟩ (.int .i64 V)).setCell ⟨w.heap.size, 2, none⟩ (.int .i64 V)).setCell ⟨w.heap.size + 1 + 1, 0, none⟩ (.int .i64 mi)).setCell ⟨w.heap.size + 1 + 1, 1, none⟩ (.int .i64 V)).setCell ⟨w.heap.size + 1 + 1, 2, none⟩ (.int .i64 V)).setCell ⟨w.heap.size + 1 + 1, 3, none⟩ (.bool pl)).setCell ⟨w.heap.size + 1 + 1, 4, none⟩ (.bool rk)) from (bs1 (bs1 (bs1 (bs1 (bs1 (bs1 (bs1 HZ.out (by omega) 1 (.int .i64 V)) (by omega) 2 (.int .i64 V)) (by omega) 0 (.int .i64 mi)) (by omega) 1 (.int .i64 V)) (by omega) 2 (.int .i64 V)) (by omega) 3 (.bool pl)) (by omega) 4 (.bool rk)))
          have R3 := (((((((HR.out.setOther ⟨w.heap.size, 1, none⟩ (.int .i64 V) (by show _ ≠ w.heap.size; omega)).setOther ⟨w.heap.size, 2, none⟩ (.int .i64 V) (by show _ ≠ w.heap.size; omega)).set 0 (.int .i64 mi)).set 1 (.int .i64 V)).set 2 (.int .i64 V)).set 3 (.bool pl)).set 4 (.bool rk))
          clear y0 u0 v0 f0 y1 u1 v1 f1 y2 u2 v2 f2 y3 u3 v3 f3 y4 u4 v4 f4
          have v0 := R3.cell 0
          have v1 := R3.cell 1
          have v2 := R3.cell 2
          have v3 := R3.cell 3
          have v4 := R3.cell 4
          simp only [List.getElem?_toArray, List.getElem?_cons_zero, List.getElem?_cons_succ, List.setIfInBounds_toArray, List.set_cons_zero, List.set_cons_succ] at v0 v1 v2 v3 v4
          clear R3 HR HB HZ
          generalize (((((((w1.setCell ⟨w.heap.size, 1, none⟩ (.int .i64 V)).setCell ⟨w.heap.size, 2, none⟩ (.int .i64 V)).setCell ⟨w.heap.size + 1 + 1, 0, none⟩ (.int .i64 mi)).setCell ⟨w.heap.size + 1 + 1, 1, none⟩ (.int .i64 V)).setCell ⟨w.heap.size + 1 + 1, 2, none⟩ (.int .i64 V)).setCell ⟨w.heap.size + 1 + 1, 3, none⟩ (.bool pl)).setCell ⟨w.heap.size + 1 + 1, 4, none⟩ (.bool rk)) = W3 at *
          exact bodyPost_ret (v := .tuple #[.agg #[.int .i64 mi, .int .i64 V, .int .i64 V, .bool pl, .bool rk], .bool true]) (by simp [results, Tryz.results9, go_sem, v0, v1, v2, v3, v4]) rfl ⟨rfl, hK.out⟩
        · have g1 : decide (xf < V) = false := decide_eq_false h0
          have g2 : max V xf = xf := by omega
          simp only [a1, a2, a3, g2, Bool.and_true, Bool.true_and, Bool.false_and, Bool.and_false, Bool.or_true, Bool.true_or, Bool.or_false, Bool.false_or, Bool.false_eq_true, if_true, if_false] at hO hM hF hX
          subst hO hM hF hX
          go_wp2
          have hK := Lib.hid (show Below w.heap.size w ((((((w1.setCell ⟨w.heap.size, 1, none⟩ (.int .i64 V)).setCell ⟨w.heap.size + 1 + 1, 0, none⟩ (.int .i64 mi)).setCell ⟨w.heap.size + 1 + 1, 1, none⟩ (.int .i64 V)).setCell ⟨w.heap.size + 1 + 1, 2, none⟩ (.int .i64 xf)).setCell ⟨w.heap.size + 1 + 1, 3, none⟩ (.bool pl)).setCell ⟨w.heap.size + 1 + 1, 4, none⟩ (.bool rk)) from (bs1 (bs1 (bs1 (bs1 (bs1 (bs1 HZ.out (by omega) 1 (.int .i64 V)) (by omega) 0 (.int .i64 mi)) (by omega) 1 (.int .i64 V)) (by omega) 2 (.int .i64 xf)) (by omega) 3 (.bool pl)) (by omega) 4 (.bool rk)))
          have R3 := ((((((HR.out.setOther ⟨w.heap.size, 1, none⟩ (.int .i64 V) (by show _ ≠ w.heap.size; omega)).set 0 (.int .i64 mi)).set 1 (.int .i64 V)).set 2 (.int .i64 xf)).set 3 (.bool pl)).set 4 (.bool rk))
          clear y0 u0 v0 f0 y1 u1 v1 f1 y2 u2 v2 f2 y3 u3 v3 f3 y4 u4 v4 f4
          have v0 := R3.cell 0
          have v1 := R3.cell 1
          have v2 := R3.cell 2
          have v3 := R3.cell 3
          have v4 := R3.cell 4
          simp only [List.getElem?_toArray, List.getElem?_cons_zero, List.getElem?_cons_succ, List.setIfInBounds_toArray, List.set_cons_zero, List.set_cons_succ] at v0 v1 v2 v3 v4
          clear R3 HR HB HZ
          generalize ((((((w1.setCell ⟨w.heap.size, 1, none⟩ (.int .i64 V)).setCell ⟨w.heap.size + 1 + 1, 0, none⟩ (.int .i64 mi)).setCell ⟨w.heap.size + 1 + 1, 1, none⟩ (.int .i64 V)).setCell ⟨w.heap.size + 1 + 1, 2, none⟩ (.int .i64 xf)).setCell ⟨w.heap.size + 1 + 1, 3, none⟩ (.bool pl)).setCell ⟨w.heap.size + 1 + 1, 4, none⟩ (.bool rk)) = W3 at *
          exact bodyPost_ret (v := .tuple #[.agg #[.int .i64 mi, .int .i64 V, .int .i64 xf, .bool pl, .bool rk], .bool true]) (by simp [results, Tryz.results9, go_sem, v0, v1, v2, v3, v4]) rfl ⟨rfl, hK.out⟩
      case false =>
        cases a3 : (nm.toList == [109, 97, 120, 105, 109, 117, 109, 70, 114, 97, 99, 116, 105, 111, 110, 68, 105, 103, 105, 116, 115])
        case true =>
          by_cases h0 : V < mf
          · have g1 : decide (V < mf) = true := decide_eq_true h0
            have g3 : decide (mf > V) = true := decide_eq_true h0
            have g2 : min V mf = V := by omega
            simp only [a1, a2, a3, g2, Bool.and_true, Bool.true_and, Bool.false_and, Bool.and_false, Bool.or_true, Bool.true_or, Bool.or_false, Bool.false_or, Bool.false_eq_true, if_true, if_false] at hO hM hF hX
            subst hO hM hF hX
            go_wp2
            have hK := Lib.hid (show Below w.heap.size w (((((((w1.setCell ⟨w.heap.size, 2, none⟩ (.int .i64 V)).setCell ⟨w.heap.size, 1, none⟩ (.int .i64 V)).setCell ⟨w.heap.size + 1 + 1, 0, none⟩ (.int .i64 mi)).setCell ⟨w.heap.size + 1 + 1, 1, none⟩ (.int .i64 V)).setCell ⟨w.heap.size + 1 + 1, 2, none⟩ (.int .i64 V)).setCell ⟨w.heap.size + 1 + 1, 3, none⟩ (.bool pl)).setCell ⟨w.heap.size + 1 + 1, 4, none⟩ (.bool rk)) from (bs1 (bs1 (bs1 (bs1 (bs1 (bs1 (bs1 HZ.out (by omega) 2 (.int .i64 V)) (by omega) 1 (.int .i64 V)) (by omega) 0 (.int .i64 mi)) (by omega) 1 (.int .i64 V)) (by omega) 2 (.int .i64 V)) (by omega) 3 (.bool pl)) (by omega) 4 (.bool rk)))
            have R3 := (((((((HR.out.setOther ⟨w.heap.size, 2, none⟩ (.int .i64 V) (by show _ ≠ w.heap.size; omega)).setOther ⟨w.heap.size, 1, none⟩ (.int .i64 V) (by show _ ≠ w.heap.size; omega)).set 0 (.int .i64 mi)).set 1 (.int .i64 V)).set 2 (.int .i64 V)).set 3 (.bool pl)).set 4 (.bool rk))
            clear y0 u0 v0 f0 y1 u1 v1 f1 y2 u2 v2 f2 y3 u3 v3 f3 y4 u4 v4 f4
            have v0 := R3.cell 0
            have v1 := R3.cell 1
            have v2 := R3.cell 2
            have v3 := R3.cell 3
            have v4 := R3.cell 4
            simp only [List.getElem?_toArray, List.getElem?_cons_zero, List.getElem?_cons_succ, List.setIfInBounds_toArray, List.set_cons_zero, List.set_cons_succ] at v0 v1 v2 v3 v4
            clear R3 HR HB HZ
            generalize (((((((w1.setCell ⟨w.heap.size, 2, none⟩ (.int .i64 V)).setCell ⟨w.heap.size, 1, none⟩ (.int .i64 V)).setCell ⟨w.heap.size + 1 + 1, 0, none⟩ (.int .i64 mi)).setCell ⟨w.heap.size + 1 + 1, 1, none⟩ (.int .i64 V)).setCell ⟨w.heap.size + 1 + 1, 2, none⟩ (.int .i64 V)).setCell ⟨w.heap.size + 1 + 1, 3, none⟩ (.bool pl)).setCell ⟨w.heap.size + 1 + 1, 4, none⟩ (.bool rk)) = W3 at *
            exact bodyPost_ret (v := .tuple #[.agg #[.int .i64 mi, .int .i64 V, .int .i64 V, .bool pl, .bool rk], .bool true]) (by simp [results, Tryz.results9, go_sem, v0, v1, v2, v3, v4]) rfl ⟨rfl, hK.out⟩
          · have g1 : decide (V < mf) = false := decide_eq_false h0
            have g3 : decide (mf > V) = false := decide_eq_false h0
            have g2 : min V mf = mf := by omega
            simp only [a1, a2, a3, g2, Bool.and_true, Bool.true_and, Bool.false_and, Bool.and_false, Bool.or_true, Bool.true_or, Bool.or_false, Bool.false_or, Bool.false_eq_true, if_true, if_false] at hO hM hF hX
            subst hO hM hF hX
            go_wp2
            have hK := Lib.hid (show Below w.heap.size w ((((((w1.setCell ⟨w.heap.size, 2, none⟩ (.int .i64 V)).setCell ⟨w.heap.size + 1 + 1, 0, none⟩ (.int .i64 mi)).setCell ⟨w.heap.size + 1 + 1, 1, none⟩ (.int .i64 mf)).setCell ⟨w.heap.size + 1 + 1, 2, none⟩ (.int .i64 V)).setCell ⟨w.heap.size + 1 + 1, 3, none⟩ (.bool pl)).setCell ⟨w.heap.size + 1 + 1, 4, none⟩ (.bool rk)) from (bs1 (bs1 (bs1 (bs1 (bs1 (bs1 HZ.out (by omega) 2 (.int .i64 V)) (by omega) 0 (.int .i64 mi)) (by omega) 1 (.int .i64 mf)) (by omega) 2 (.int .i64 V)) (by omega) 3 (.bool pl)) (by omega) 4 (.bool rk)))
            have R3 := ((((((HR.out.setOther ⟨w.heap.size, 2, none⟩ (.int .i64 V) (by show _ ≠ w.heap.size; omega)).set 0 (.int .i64 mi)).set 1 (.int .i64 mf)).set 2 (.int .i64 V)).set 3 (.bool pl)).set 4 (.bool rk))
            clear y0 u0 v0 f0 y1 u1 v1 f1 y2 u2 v2 f2 y3 u3 v3 f3 y4 u4 v4 f4
            have v0 := R3.cell 0
            have v1 := R3.cell 1
            have v2 := R3.cell 2
            have v3 := R3.cell 3
            have v4 := R3.cell 4
            simp only [List.getElem?_toArray, List.getElem?_cons_zero, List.getElem?_cons_succ, List.setIfInBounds_toArray, List.set_cons_zero, List.set_cons_succ] at v0 v1 v2 v3 v4
            clear R3 HR HB HZ
            generalize ((((((w1.setCell ⟨w.heap.size, 2, none⟩ (.int .i64 V)).setCell ⟨w.heap.size + 1 + 1, 0, none⟩ (.int .i64 mi)).setCell ⟨w.heap.size + 1 + 1, 1, none⟩ (.int .i64 mf)).setCell ⟨w.heap.size + 1 + 1, 2, none⟩ (.int .i64 V)).setCell ⟨w.heap.size + 1 + 1, 3, none⟩ (.bool pl)).setCell ⟨w.heap.size + 1 + 1, 4, none⟩ (.bool rk)) = W3 at *
            exact bodyPost_ret (v := .tuple #[.agg #[.int .i64 mi, .int .i64 mf, .int .i64 V, .bool pl, .bool rk], .bool true]) (by simp [results, Tryz.results9, go_sem, v0, v1, v2, v3, v4]) rfl ⟨rfl, hK.out⟩
        case false =>
          simp only [a1, a2, a3, Bool.and_true, Bool.true_and, Bool.false_and, Bool.and_false, Bool.or_true, Bool.true_or, Bool.or_false, Bool.false_or, Bool.false_eq_true, if_true, if_false] at hO hM hF hX
          subst hO hM hF hX
          go_wp2
          have hK := Lib.hid (show Below w.heap.size w (((((w1.setCell ⟨w.heap.size + 1 + 1, 0, none⟩ (.int .i64 0)).setCell ⟨w.heap.size + 1 + 1, 1, none⟩ (.int .i64 0)).setCell ⟨w.heap.size + 1 + 1, 2, none⟩ (.int .i64 0)).setCell ⟨w.heap.size + 1 + 1, 3, none⟩ (.bool false)).setCell ⟨w.heap.size + 1 + 1, 4, none⟩ (.bool false)) from (bs1 (bs1 (bs1 (bs1 (bs1 HZ.out (by omega) 0 (.int .i64 0)) (by omega) 1 (.int .i64 0)) (by omega) 2 (.int .i64 0)) (by omega) 3 (.bool false)) (by omega) 4 (.bool false)))
          have R3 := (((((HR.out.set 0 (.int .i64 0)).set 1 (.int .i64 0)).set 2 (.int .i64 0)).set 3 (.bool false)).set 4 (.bool false))
          clear y0 u0 v0 f0 y1 u1 v1 f1 y2 u2 v2 f2 y3 u3 v3 f3 y4 u4 v4 f4
          have v0 := R3.cell 0
          have v1 := R3.cell 1
          have v2 := R3.cell 2
          have v3 := R3.cell 3
          have v4 := R3.cell 4
          simp only [List.getElem?_toArray, List.getElem?_cons_zero, List.getElem?_cons_succ, List.setIfInBounds_toArray, List.set_cons_zero, List.set_cons_succ] at v0 v1 v2 v3 v4
          clear R3 HR HB HZ
          generalize (((((w1.setCell ⟨w.heap.size + 1 + 1, 0, none⟩ (.int .i64 0)).setCell ⟨w.heap.size + 1 + 1, 1, none⟩ (.int .i64 0)).setCell ⟨w.heap.size + 1 + 1, 2, none⟩ (.int .i64 0)).setCell ⟨w.heap.size + 1 + 1, 3, none⟩ (.bool false)).setCell ⟨w.heap.size + 1 + 1, 4, none⟩ (.bool false)) = W3 at *
          exact bodyPost_ret (v := .tuple #[.agg #[.int .i64 0, .int .i64 0, .int .i64 0, .bool false, .bool false], .bool false]) (by simp [results, Tryz.results9, go_sem, v0, v1, v2, v3, v4]) rfl ⟨rfl, hK.out⟩
end Go.Proofs.YtjdpmdheapmanaaGreatDoor

namespace Go.Proofs.YtjdpmdheapmanaaGreatDoor
open Go.RowKit
set_option linter.unusedVariables false
set_option linter.unusedSimpArgs false
theorem set_law (p : OPT) (o : OP) (w : World) (hp : OkO p) (hz : p.it = true → p.nm.size + p.tx.size + 1 ≤ maxLen) :
    Calls Tryz.prog 9 #[.agg #[.int .i64 o.mi, .int .i64 o.mf, .int .i64 o.xf, .bool o.pl, .bool o.rk], .agg #[.string p.nm, .string p.tx, .bool p.n, .string p.s, .int .i64 p.k, .bool p.it]] w
      fun e w' => e = .returned (if okO p then .tuple #[.agg #[.int .i64 (turnO p o).mi, .int .i64 (turnO p o).mf, .int .i64 (turnO p o).xf, .bool (turnO p o).pl, .bool (turnO p o).rk], .bool true] else .tuple #[.agg #[.int .i64 0, .int .i64 0, .int .i64 0, .bool false, .bool false], .bool false]) ∧ Below w.heap.size w w' := by
  obtain ⟨kk, hk, hN⟩ := hp
  obtain ⟨nm, tx, n, s, k, it⟩ := p
  dsimp only at *
  subst hk
  cases it
  · have hlt := hN.lt
    have hle := hN.le
    rw [size_data] at hlt hle
    have := set_law_num o.mi o.mf o.xf (cntC n s.data.toList kk) (whV n (fixF s.data.toList kk)) o.pl o.rk (cntOk n s.data.toList kk) nm tx n s (kk : Int) w
      (fun W => lwhole_any n s kk W (by omega) (by omega) (by omega) hN.digs)
      (fun h => ⟨wh_yes hN h, (cntC_bd hN).1, (cntC_bd hN).2⟩)
      (fun h => wh_no hN h)
    simp only [okO, turnO, Int.toNat_natCast, Bool.false_eq_true, if_false]
    exact this
  · exact set_law_text o.mi o.mf o.xf o.pl o.rk nm tx n s (kk : Int) w (hz rfl)
end Go.Proofs.YtjdpmdheapmanaaGreatDoor

namespace Go.Proofs.YtjdpmdheapmanaaGreatDoor
open Go.RowKit
set_option linter.unusedVariables false
set_option linter.unusedSimpArgs false
def InvP (o : OP) : Prop := 1 ≤ o.mi ∧ o.mf ≤ o.xf
theorem set_inv {p : OPT} {o : OP} (hp : OkO p) (h : BdP o) (hi : InvP o) : InvP (setO p o) := by
  obtain ⟨kk, hk, hN⟩ := hp
  have hc := cntC_bd (n := p.n) hN
  obtain ⟨i1, i2⟩ := hi
  unfold setO
  split
  · rename_i hok
    unfold okO at hok
    unfold turnO
    split
    · exact ⟨i1, i2⟩
    · rename_i hit
      rw [if_neg hit] at hok
      rw [hk, Int.toNat_natCast] at hok ⊢
      generalize cntC p.n p.s.data.toList kk = c at *
      generalize cntOk p.n p.s.data.toList kk = q at *
      unfold InvP
      dsimp only
      unfold numOk at hok
      unfold numMi numMf numXf
      rw [Bool.and_eq_true] at hok
      obtain ⟨rfl, hok⟩ := hok
      simp only [Bool.true_and]
      constructor
      · split
        · rename_i ha
          rw [if_pos ha] at hok
          have : c ≠ 0 := by simpa using hok
          omega
        · exact i1
      · split
        · omega
        · split <;> omega
  · exact ⟨i1, i2⟩
end Go.Proofs.YtjdpmdheapmanaaGreatDoor

namespace Go.Proofs.YtjdpmdheapmanaaGreatDoor
open Go.RowKit
set_option linter.unusedVariables false
set_option linter.unusedSimpArgs false
def dflO : OP := ⟨1, 0, 3, false, false⟩
theorem opts_bd : ∀ (l : List OPT) (o : OP), (∀ p ∈ l, OkO p) → BdP o → BdP (optsF l o)
  | [], o, _, h => h
  | p :: l, o, hl, h => opts_bd l (setO p o) (fun q hq => hl q (List.mem_cons_of_mem _ hq)) (set_bd (hl p (List.mem_cons_self ..)) h)
theorem dfl_bd : BdP dflO := ⟨⟨by decide, by decide⟩, ⟨by decide, by decide⟩, ⟨by decide, by decide⟩⟩
set_option maxHeartbeats 8000000 in
set_option maxRecDepth 100000 in
theorem opts_any (l : List OPT) (A : Option Addr) (c : Nat) (w : World) (hl : ListO w l A c) (hOk : ∀ p ∈ l, OkO p) :
    Calls Tryz.prog 11 #[.slice A l.length c] w
      fun e w' => e = .returned (.agg #[.int .i64 (optsF l dflO).mi, .int .i64 (optsF l dflO).mf, .int .i64 (optsF l dflO).xf, .bool (optsF l dflO).pl, .bool (optsF l dflO).rk]) ∧ Below w.heap.size w w' := by
  obtain ⟨R, hR⟩ : ∃ R, optsF l dflO = R := ⟨_, rfl⟩
  rw [hR]
  have hbig := len_big hl
  have HL := Lib.hid hl
  have HOk := Lib.hid hOk
  have HR := Lib.hid hR
  clear hl hOk hR
  generalize hL : l.length = L at *
  have HLL := Lib.hid hL
  clear hL
  have Z0 := Lib.hid ((Below.refl w.heap.size w).alloc (Nat.le_refl _) (.cells #[.int .i64 0, .int .i64 0, .int .i64 0, .bool false, .bool false] 26))
  have X0 := Lib.hid (BoxAt.new w #[.int .i64 0, .int .i64 0, .int .i64 0, .bool false, .bool false] 26)
  go_enter Tryz.func11, Tryz.ntmps11
  go_wp2_with fail
  go_at_call 7
  refine (default_any _).mono ?_
  rintro e w1 ⟨rfl, hb1⟩
  have Z1 := Lib.hid (below_new (below_then Z0.out (Nat.le_refl _) hb1) (Nat.le_refl _) (.cells #[.int .i64 1, .int .i64 0, .int .i64 3, .bool false, .bool false] 26))
  have X1 := Lib.hid ((X0.out.later hb1).alloc (.cells #[.int .i64 1, .int .i64 0, .int .i64 3, .bool false, .bool false] 26))
  have Y1 := Lib.hid (BoxAt.new w1 #[.int .i64 1, .int .i64 0, .int .i64 3, .bool false, .bool false] 26)
  have zw1 : w.heap.size < w1.heap.size := (X0.out.later hb1).lt
  clear hb1
  go_wp2_with fail
  go_loopw [11] (fun t wr => ∃ (i : Nat) (mi mf xf : Int) (pl rk : Bool), t = .int .i64 (i : Int) ∧ i ≤ L ∧ Hid (optsF (l.drop i) ⟨mi, mf, xf, pl, rk⟩ = R) ∧ Hid (Below w.heap.size w wr) ∧ Hid (BoxAt wr w1.heap.size #[.int .i64 mi, .int .i64 mf, .int .i64 xf, .bool pl, .bool rk] 26) ∧ Hid (BoxAt wr w.heap.size #[.int .i64 0, .int .i64 0, .int .i64 0, .bool false, .bool false] 26)) (fun t _ => L - (intOf t).toNat)
  case atStart => exact ⟨0, 1, 0, 3, false, false, rfl, Nat.zero_le _, HR, Z1, Y1, X1⟩
  case round =>
    obtain ⟨i, mi, mf, xf, pl, rk, rfl, hi, hF, hB, hY, hX⟩ := hrel
    by_cases hlt : i < L
    · have f1 : decide ((i : Int) < (L : Int)) = true := decide_eq_true (by omega)
      have hil : i < l.length := by rw [HLL.out]; exact hlt
      obtain ⟨q1, q2, q3⟩ := HL.out.later hB.out
      obtain ⟨b, o, rfl, hbz, hp⟩ := q3 (by omega)
      obtain ⟨⟨c0, c1, c2, c3, c4, c5⟩, hd1, hd2, hd3⟩ := hp i l[i] (List.getElem?_eq_getElem hil)
      have hSt := fun W => set_any l[i] ⟨mi, mf, xf, pl, rk⟩ W (HOk.out _ (List.getElem_mem hil))
      have hdr : l.drop i = l[i] :: l.drop (i + 1) := List.drop_eq_getElem_cons hil
      have hF2 := hF.out
      rw [hdr] at hF2
      have hF3 : optsF (l.drop (i + 1)) (setO l[i] ⟨mi, mf, xf, pl, rk⟩) = R := hF2
      unfold setO at hF3
      generalize okO l[i] = ok at *
      generalize turnO l[i] ⟨mi, mf, xf, pl, rk⟩ = o2 at *
      obtain ⟨mi2, mf2, xf2, pl2, rk2⟩ := o2
      generalize l[i] = p at *
      obtain ⟨nm, tx, n, s, k, it⟩ := p
      dsimp only at *
      have HSt := Lib.hid hSt
      have HF3 := Lib.hid hF3
      have y := hY.out
      have zy := y.lt
      have y0 := y.cell 0
      have y1 := y.cell 1
      have y2 := y.cell 2
      have y3 := y.cell 3
      have y4 := y.cell 4
      simp only [List.getElem?_toArray, List.getElem?_cons_zero, List.getElem?_cons_succ] at y0 y1 y2 y3 y4
      have Hy := Lib.hid y
      clear hSt hF2 hF3 hF hdr hp q1 q2 q3 hd1 hd2 hd3 y
      go_wp2_with fail
      go_at_call 8
      refine (HSt.out _).mono ?_
      rintro e w2 ⟨rfl, hb2⟩
      have hB2 := Lib.hid (hB.out.trans ((below_box hb2).mono hB.out.size))
      have hX2 := Lib.hid (hX.out.later (below_box hb2))
      have y := hY.out.later (below_box hb2)
      clear hb2 c0 c1 c2 c3 c4 c5 zy y0 y1 y2 y3 y4 Hy
      have zy := y.lt
      have y0 := y.cell 0
      have y1 := y.cell 1
      have y2 := y.cell 2
      have y3 := y.cell 3
      have y4 := y.cell 4
      simp only [List.getElem?_toArray, List.getElem?_cons_zero, List.getElem?_cons_succ] at y0 y1 y2 y3 y4
      have f0 := y.z 0
      have f1 := y.z 1
      have f2 := y.z 2
      have f3 := y.z 3
      have f4 := y.z 4
      have hY2 := Lib.hid y
      clear y
      cases ok
      case false =>
        as_aux_lemma =>
          simp only [Bool.false_eq_true, if_false]
          go_wp2_with fail
          go_roundw
          case rel => exact ⟨i + 1, mi, mf, xf, pl, rk, by go_num, by omega, by have := HF3.out; simp only [Bool.false_eq_true, if_false] at this; exact Lib.hid this, Lib.hid (below_new hB2.out (Nat.le_refl _) _), Lib.hid (hY2.out.alloc _), Lib.hid (hX2.out.alloc _)⟩
          case measure => simp [intOf]; omega
      case true =>
        as_aux_lemma =>
          simp only [if_true]
          go_wp2_with fail
          go_roundw
          case rel => exact ⟨i + 1, mi2, mf2, xf2, pl2, rk2, by go_num, by omega, by have := HF3.out; simp only [if_true] at this; exact Lib.hid this, Lib.hid (below_new ((bs1 (bs1 (bs1 (bs1 (bs1 hB2.out (by omega : w.heap.size ≤ w1.heap.size) 0 (.int .i64 mi2)) (by omega : w.heap.size ≤ w1.heap.size) 1 (.int .i64 mf2)) (by omega : w.heap.size ≤ w1.heap.size) 2 (.int .i64 xf2)) (by omega : w.heap.size ≤ w1.heap.size) 3 (.bool pl2)) (by omega : w.heap.size ≤ w1.heap.size) 4 (.bool rk2))) (Nat.le_refl _) _), Lib.hid (((((((hY2.out.set 0 (.int .i64 mi2)).set 1 (.int .i64 mf2)).set 2 (.int .i64 xf2)).set 3 (.bool pl2)).set 4 (.bool rk2))).alloc _), Lib.hid (BoxAt.alloc ((BoxAt.setOther (BoxAt.setOther (BoxAt.setOther (BoxAt.setOther (BoxAt.setOther hX2.out ⟨w1.heap.size, 0, none⟩ (.int .i64 mi2) (Nat.ne_of_lt zw1)) ⟨w1.heap.size, 1, none⟩ (.int .i64 mf2) (Nat.ne_of_lt zw1)) ⟨w1.heap.size, 2, none⟩ (.int .i64 xf2) (Nat.ne_of_lt zw1)) ⟨w1.heap.size, 3, none⟩ (.bool pl2) (Nat.ne_of_lt zw1)) ⟨w1.heap.size, 4, none⟩ (.bool rk2) (Nat.ne_of_lt zw1))) _)⟩
          case measure => simp [intOf]; omega
    · obtain rfl : i = L := by omega
      have f1 : decide ((i : Int) < (i : Int)) = false := decide_eq_false (by omega)
      have hnil : l.drop i = [] := List.drop_eq_nil_of_le (by rw [HLL.out]; exact Nat.le_refl _)
      have hF2 := hF.out
      rw [hnil] at hF2
      have hF3 : (⟨mi, mf, xf, pl, rk⟩ : OP) = R := hF2
      subst hF3
      clear hnil hF2 hF
      have y := hY.out
      have x := hX.out
      have zy := y.lt
      have zx := x.lt
      have y0 := y.cell 0
      have y1 := y.cell 1
      have y2 := y.cell 2
      have y3 := y.cell 3
      have y4 := y.cell 4
      simp only [List.getElem?_toArray, List.getElem?_cons_zero, List.getElem?_cons_succ] at y0 y1 y2 y3 y4
      have v0 := x.cell 0
      have v1 := x.cell 1
      have v2 := x.cell 2
      have v3 := x.cell 3
      have v4 := x.cell 4
      simp only [List.getElem?_toArray, List.getElem?_cons_zero, List.getElem?_cons_succ] at v0 v1 v2 v3 v4
      have f0 := x.z 0
      have f1 := x.z 1
      have f2 := x.z 2
      have f3 := x.z 3
      have f4 := x.z 4
      clear y x
      go_wp2
      have hK := Lib.hid (show Below w.heap.size w (((((wr.setCell ⟨w.heap.size, 0, none⟩ (.int .i64 mi)).setCell ⟨w.heap.size, 1, none⟩ (.int .i64 mf)).setCell ⟨w.heap.size, 2, none⟩ (.int .i64 xf)).setCell ⟨w.heap.size, 3, none⟩ (.bool pl)).setCell ⟨w.heap.size, 4, none⟩ (.bool rk)) from (bs1 (bs1 (bs1 (bs1 (bs1 hB.out (Nat.le_refl _) 0 (.int .i64 mi)) (Nat.le_refl _) 1 (.int .i64 mf)) (Nat.le_refl _) 2 (.int .i64 xf)) (Nat.le_refl _) 3 (.bool pl)) (Nat.le_refl _) 4 (.bool rk)))
      have R3 := (((((hX.out.set 0 (.int .i64 mi)).set 1 (.int .i64 mf)).set 2 (.int .i64 xf)).set 3 (.bool pl)).set 4 (.bool rk))
      clear v0 y0 f0 v1 y1 f1 v2 y2 f2 v3 y3 f3 v4 y4 f4
      have v0 := R3.cell 0
      have v1 := R3.cell 1
      have v2 := R3.cell 2
      have v3 := R3.cell 3
      have v4 := R3.cell 4
      simp only [List.getElem?_toArray, List.getElem?_cons_zero, List.getElem?_cons_succ, List.setIfInBounds_toArray, List.set_cons_zero, List.set_cons_succ] at v0 v1 v2 v3 v4
      clear R3
      generalize (((((wr.setCell ⟨w.heap.size, 0, none⟩ (.int .i64 mi)).setCell ⟨w.heap.size, 1, none⟩ (.int .i64 mf)).setCell ⟨w.heap.size, 2, none⟩ (.int .i64 xf)).setCell ⟨w.heap.size, 3, none⟩ (.bool pl)).setCell ⟨w.heap.size, 4, none⟩ (.bool rk)) = W at *
      exact bodyPost_ret (v := .agg #[.int .i64 mi, .int .i64 mf, .int .i64 xf, .bool pl, .bool rk]) (by simp [results, Tryz.results11, go_sem, v0, v1, v2, v3, v4]) rfl ⟨rfl, hK.out⟩
end Go.Proofs.YtjdpmdheapmanaaGreatDoor
