/-
  Several texts put together (part 44): what the law and the program call, walked; their contracts.
-/
import Derived.Test.YtdoambpiafkmmaaGreatDoorQ43
import Derived.Test.YtdoambpiafkmmaaGreatDoorQ33
import Derived.Test.YtdoambpiafkmmaaGreatDoorQ17
import Derived.Test.YtdoambpiafkmmaaGreatDoorQ8
namespace Go.Proofs.YtdoambpiafkmmaaGreatDoor
open Go.RowKit
set_option linter.unusedVariables false
set_option linter.unusedSimpArgs false
def upsS (s : ByteArray) : List ByteArray × Nat → List EN → List ByteArray × Nat
  | st, [] => st
  | st, x :: r => upsS s (upT s (upT s st x.fr) x.tu) r
def textsS (s : ByteArray) (l : List EN) : List ByteArray := (upT s (upsS s ([], 0) l) s.size).1
theorem ups_take (s : ByteArray) : ∀ (l : List EN) (st : List ByteArray × Nat) (i : Nat) (x : EN), l[i]? = some x → upsS s st (l.take (i + 1)) = upT s (upT s (upsS s st (l.take i)) x.fr) x.tu
  | [], st, i, x, h => by simp at h
  | y :: r, st, 0, x, h => by
    simp at h
    subst h
    simp [upsS]
  | y :: r, st, i + 1, x, h => by
    have := ups_take s r (upT s (upT s st y.fr) y.tu) i x (by simpa using h)
    simpa [upsS] using this
theorem cell_below {W0 W : World} (hb : Below W0.heap.size W0 W) {b o : Nat} {v : Value} (h : W0.cell? ⟨b, o, none⟩ = some v) : W.cell? ⟨b, o, none⟩ = some v := (hb.cell (p := ⟨b, o, none⟩) (World.block_lt_of_cell? W0 _ h)).trans h
set_option maxHeartbeats 8000000 in
set_option maxRecDepth 100000 in
theorem texts_any {W0 : World} {F : Nat → Prop} (s : ByteArray) (l : List EN) (A : Option Addr) (c : Nat) (hl : ListF W0 F l (.slice A l.length c)) (hF : ∀ b, F b → b < W0.heap.size) (hs : s.size ≤ 1000000) (hn : l.length ≤ 4000000) (hle : ∀ x ∈ l, x.fr ≤ 4000000 ∧ x.tu ≤ 4000000) (w : World) (hb : Below W0.heap.size W0 w) :
    Calls Tryz.prog 22 #[.string s, .slice A l.length c] w fun e w' => Below w.heap.size w w' ∧ ∃ v, e = .returned v ∧ StrsAt w' (textsS s l) v := by
  have he := enters_texts
  unfold Enters at he
  have HL := Lib.hid (fun (i : Nat) (h : 0 < l.length) => list_at hl h)
  have HB := Lib.hid hb
  have Hle := Lib.hid hle
  have HF := Lib.hid hF
  have hss : (s.size : Int) ≤ 1000000 := by omega
  have hnn : (l.length : Int) ≤ 4000000 := by omega
  clear hl hb hle hF
  go_enter Tryz.func22, Tryz.ntmps22
  go_wp2
  go_loopw [13] (fun t13 wr => ∃ (i : Nat) (V : Value), t13 = .int .i64 i ∧ i ≤ l.length ∧ Hid (Below w.heap.size w wr) ∧ Hid (w.heap.size + 3 ≤ wr.heap.size) ∧ Hid (UpAt (w.heap.size + 3) wr w.heap.size (w.heap.size + 2) (w.heap.size + 1) s (upsS s ([], 0) (l.take i)) V)) (fun t13 _ => l.length - (intOf t13).toNat)
  case atStart =>
    refine ⟨0, .slice none 0 0, rfl, Nat.zero_le _, (((Below.refl _ _).alloc (Nat.le_refl _) _).alloc (by simp) _).alloc (by simp; omega) _, Lib.hid (by simp), ⟨?_, ?_, ?_, World.ownsRow_nil _ _ _ _, ⟨Nat.zero_le _, Nat.le_refl _⟩⟩⟩
    · exact ((BoxAt.new _ _ _).alloc _).alloc _
    · exact BoxAt.new' _ _ _ _ (by simp)
    · exact (BoxAt.new' _ _ _ _ (by simp)).alloc _
  case round =>
    obtain ⟨i, V, rfl, hi, HBel, HSz, HU⟩ := hrel
    have hi0 : (i : Int) ≤ 4000000 := by omega
    have hB3 := HSz.out
    by_cases hlt : i < l.length
    · have d1 : decide ((i : Int) < (l.length : Int)) = true := decide_eq_true (by omega)
      have d2 : (i : Int) < (l.length : Int) := by omega
      obtain ⟨b, o, rfl, hns⟩ := HL.out i (by omega)
      have hli : l[i]? = some l[i] := List.getElem?_eq_getElem hlt
      have hmem : l[i] ∈ l := List.getElem_mem hlt
      have hst := ups_take s l ([], 0) i _ hli
      obtain ⟨x, hx⟩ : ∃ x, l[i] = x := ⟨_, rfl⟩
      rw [hx] at hli hmem hst
      obtain ⟨hFb, A0, c0, B0, d0, p0, p1, p2, p3, p4, p5, p6, p7, _⟩ := hns.get i hli
      have hfe := Hle.out x hmem
      have hfr : ((x.fr : Nat) : Int) ≤ 4000000 := by omega
      have hto : ((x.tu : Nat) : Int) ≤ 4000000 := by omega
      have hbb := HB.out.trans (HBel.out.mono HB.out.size)
      have e0 := cell_below hbb p0
      have e1 := cell_below hbb p1
      have e2 := cell_below hbb p2
      have e3 := cell_below hbb p3
      have e4 := cell_below hbb p4
      have e5 := cell_below hbb p5
      have e6 := cell_below hbb p6
      have e7 := cell_below hbb p7
      have hbl : b < wr.heap.size := Nat.lt_of_lt_of_le (HF.out b hFb) (Nat.le_trans HB.out.size HBel.out.size)
      have HBb := Lib.hid hbb
      have Hst := Lib.hid hst
      obtain ⟨st, hst0⟩ : ∃ st, upsS s ([], 0) (l.take i) = st := ⟨_, rfl⟩
      have HU0 := HU.out
      rw [hst0] at HU0 Hst
      have HX0 := Lib.hid (fun g e => (HU0.row.lt g e).2)
      have hU1 := HU0.later ((Below.refl wr.heap.size wr).alloc (Nat.le_refl _) (.cells #[.int .i64 x.ty, .int .i64 x.lv, .string x.tx, .string x.nm, .slice A0 x.val.length c0, .slice B0 x.ats.length d0, .int .i64 x.fr, .int .i64 x.tu] 45))
      have hC1 := texts1_any hU1 hs (by rw [World.size_alloc]; omega) x.fr hfe.1 (by omega) (by omega) (by omega) (by omega) (by omega) (by omega) w.heap.size ⟨Nat.le_refl _, by omega, by omega⟩
      have hbox := BoxAt.new wr #[.int .i64 x.ty, .int .i64 x.lv, .string x.tx, .string x.nm, .slice A0 x.val.length c0, .slice B0 x.ats.length d0, .int .i64 x.fr, .int .i64 x.tu] 45
      have HC1 := Lib.hid hC1
      have Hbox := Lib.hid hbox
      clear p0 p1 p2 p3 p4 p5 p6 p7 hns hli hmem hst hx hst0 hbb hFb HU hC1 hbox hU1 HU0 HL
      go_wp2_with fail
      refine (HC1.out).mono ?_
      rintro e w2 ⟨rfl, hb2, hk2, V2, hU2⟩
      have hs2 := hb2.size
      rw [World.size_alloc] at hs2
      have hbox2 : BoxAt w2 wr.heap.size #[.int .i64 x.ty, .int .i64 x.lv, .string x.tx, .string x.nm, .slice A0 x.val.length c0, .slice B0 x.ats.length d0, .int .i64 x.fr, .int .i64 x.tu] 45 := (hk2 wr.heap.size (by rw [World.size_alloc]; omega) (by omega) (fun e => by have := HX0.out _ e; omega)).trans Hbox.out
      have q7 := hbox2.cell 7
      simp at q7
      have hlb := hbox2.lt
      have hB2 := (HBel.out.alloc (by omega) (.cells #[.int .i64 x.ty, .int .i64 x.lv, .string x.tx, .string x.nm, .slice A0 x.val.length c0, .slice B0 x.ats.length d0, .int .i64 x.fr, .int .i64 x.tu] 45)).trans hb2
      have hC2 := texts1_any hU2 hs (by omega) x.tu hfe.2 (by omega) (by omega) (by omega) (by omega) (by omega) (by omega) w.heap.size ⟨Nat.le_refl _, by omega, by omega⟩
      have HC2 := Lib.hid hC2
      have HB2 := Lib.hid hB2
      clear hb2 hk2 hU2 hC2 hB2 hbox2 e0 e1 e2 e3 e4 e5 e6 e7
      go_wp2_with fail
      refine (HC2.out).mono ?_
      rintro e w3 ⟨rfl, hb3, _, V3, hU3⟩
      have HB3 := Lib.hid (HB2.out.trans hb3)
      have hs3 := hb3.size
      rw [← Hst.out] at hU3
      have HU3 := Lib.hid hU3
      clear hb3 hU3 q7
      go_wp2
      go_roundw
      case rel => exact ⟨i + 1, V3, by go_num, hlt, HB3, Lib.hid (by omega), HU3⟩
      case measure => simp [intOf]; omega
    · have d1 : decide ((i : Int) < (l.length : Int)) = false := decide_eq_false (by omega)
      have d2 : ¬ (i : Int) < (l.length : Int) := by omega
      have hU := HU.out
      rw [List.take_of_length_le (by omega)] at hU
      have q0 := hU.bx.cell 0
      simp at q0
      have hlx := hU.bx.lt
      have hC1 := texts1_any hU hs (by omega) s.size (by omega) (by omega) (by omega) (by omega) (by omega) (by omega) (by omega) w.heap.size ⟨Nat.le_refl _, by omega, by omega⟩
      have HC1 := Lib.hid hC1
      clear hU hC1
      go_wp2_with fail
      refine (HC1.out).mono ?_
      rintro e w2 ⟨rfl, hb2, _, V2, hU2⟩
      have q1 := hU2.bz.cell 0
      simp at q1
      have hlz := hU2.bz.lt
      have HS := Lib.hid (strs_of (World.ownsRowF_of hU2.row))
      have HB2 := Lib.hid (HBel.out.trans hb2)
      clear hb2 hU2 q0
      go_wp2
      go_ret
      exact ⟨HB2.out, V2, rfl, HS.out⟩
end Go.Proofs.YtdoambpiafkmmaaGreatDoor

namespace Go.Proofs.YtdoambpiafkmmaaGreatDoor
open Go.RowKit
set_option linter.unusedVariables false
set_option linter.unusedSimpArgs false
def catL : List ByteArray → List UInt8
  | [] => []
  | x :: r => x.data.toList ++ catL r
theorem catL_append : ∀ a b : List ByteArray, catL (a ++ b) = catL a ++ catL b
  | [], b => rfl
  | x :: r, b => by rw [List.cons_append, catL, catL, catL_append r b, List.append_assoc]
theorem take_ext (s : ByteArray) (a p : Nat) (h : a ≤ p) : s.data.toList.take a ++ (s.extract a p).data.toList = s.data.toList.take p := by
  rw [extract_list, List.drop_take]
  have := List.take_append_drop a (s.data.toList.take p)
  rw [List.take_take, Nat.min_eq_left h, List.drop_take] at this
  exact this
def UpOk (s : ByteArray) (st : List ByteArray × Nat) : Prop := catL st.1 = s.data.toList.take st.2 ∧ st.2 ≤ s.size ∧ ∀ y ∈ st.1, 0 < y.size
theorem upT_ok {s : ByteArray} {st : List ByteArray × Nat} (h : UpOk s st) (p : Nat) (hp : p ≤ s.size) (h1 : st.2 ≤ p) : UpOk s (upT s st p) ∧ (upT s st p).2 = p := by
  obtain ⟨acc, a⟩ := st
  obtain ⟨e1, e2, e3⟩ := h
  dsimp only at e1 e2 e3 h1
  unfold upT
  dsimp only
  rw [Nat.min_eq_left hp]
  by_cases hl : a < p
  · rw [if_pos hl]
    refine ⟨⟨?_, hp, ?_⟩, rfl⟩
    · dsimp only
      rw [catL_append, e1, catL, catL, List.append_nil, take_ext s a p h1]
    · intro y hy
      rcases List.mem_append.1 hy with hy | hy
      · exact e3 y hy
      · simp at hy
        rw [hy, ByteArray.size_extract]
        omega
  · rw [if_neg hl]
    have : a = p := by omega
    subst this
    exact ⟨⟨e1, e2, e3⟩, rfl⟩
theorem ups_ok {s : ByteArray} : ∀ (l : List EN) (st : List ByteArray × Nat), Chain s st.2 l → UpOk s st → UpOk s (upsS s st l)
  | [], st, hc, h => h
  | x :: r, st, hc, h => by
    cases hc with
    | cons h1 h2 h3 h4 h5 h6 h7 =>
      obtain ⟨u1, u2⟩ := upT_ok h x.fr (by omega) h1
      obtain ⟨u3, u4⟩ := upT_ok u1 x.tu h6.2.1 (by omega)
      rw [upsS]
      exact ups_ok r _ (by rw [u4]; exact h7) u3
theorem texts_ok (s : ByteArray) : catL (textsS s (parseS s)) = s.data.toList ∧ ∀ y ∈ textsS s (parseS s), 0 < y.size := by
  have h := ups_ok (parseS s) ([], 0) (parse_chain s) ⟨rfl, Nat.zero_le _, fun y hy => by simp at hy⟩
  obtain ⟨u1, u2⟩ := upT_ok h s.size (Nat.le_refl _) h.2.1
  unfold textsS
  refine ⟨?_, u1.2.2⟩
  rw [u1.1, u2, List.take_of_length_le (by rw [size_data]; exact Nat.le_refl _)]
theorem ext_at (s : ByteArray) (a b m : Nat) (hb : b ≤ s.size) (hm : a + m < b) : (s.extract a b).data.toList[m]? = some (at0 s.data.toList (a + m)) := by
  rw [extract_list, List.getElem?_drop, List.getElem?_take_of_lt hm, at0_get _ _ (by rw [size_data]; omega)]
  exact List.getElem?_eq_getElem _
theorem bareB_of {s : ByteArray} {a b : Nat} (hb : b ≤ s.size) (h : bareN s a b) : bareB (s.extract a b) = true := by
  unfold bareB
  rw [List.all_eq_true]
  intro c hc
  obtain ⟨m, hm⟩ := List.mem_iff_getElem?.1 hc
  have hl : m < (s.extract a b).data.toList.length := (List.getElem?_eq_some_iff.1 hm).1
  rw [size_data, ByteArray.size_extract] at hl
  rw [ext_at s a b m hb (by omega)] at hm
  cases hm
  rcases h (a + m) (by omega) (by omega) with h | h <;> rw [h] <;> rfl
theorem split_lines (s : ByteArray) : ∀ (n : Nat) (acc : List ByteArray) (a i : Nat), s.size - i ≤ n → a ≤ i → i ≤ s.size → (a = 0 ∨ ∃ j, a = j + 1 ∧ isAt s j 10 = true) →
    ∃ l, splitN s acc a i = acc ++ l ∧ ∀ k x, l[k]? = some x → 0 < x.size ∧ ∃ p, p < s.size ∧ (k = 0 → p = a) ∧ (0 < k → ∃ j, p = j + 1 ∧ isAt s j 10 = true) ∧ x.data.toList[0]? = some (at0 s.data.toList p)
  | n, acc, a, i, hn, hai, hi, ha => by
    have first : ∀ b, a < b → b ≤ s.size → 0 < (s.extract a b).size ∧ (s.extract a b).data.toList[0]? = some (at0 s.data.toList a) := fun b h1 h2 =>
      ⟨by rw [ByteArray.size_extract]; omega, by have := ext_at s a b 0 h2 (by omega); simpa using this⟩
    rw [splitN]
    split
    · next hlt =>
      cases n with
      | zero => omega
      | succ n =>
        split
        · next h10 =>
          obtain ⟨l, e1, e2⟩ := split_lines s n (acc ++ [s.extract a (i + 1)]) (i + 1) (i + 1) (by omega) (Nat.le_refl _) (by omega) (Or.inr ⟨i, rfl, h10⟩)
          refine ⟨s.extract a (i + 1) :: l, by rw [e1, List.append_assoc]; rfl, fun k x hk => ?_⟩
          cases k with
          | zero =>
            simp at hk
            subst hk
            obtain ⟨f1, f2⟩ := first (i + 1) (by omega) (by omega)
            exact ⟨f1, a, by omega, fun _ => rfl, fun h => absurd h (by omega), f2⟩
          | succ k =>
            obtain ⟨g1, p, g2, g3, g4, g5⟩ := e2 k x (by simpa using hk)
            refine ⟨g1, p, g2, fun h => absurd h (by omega), fun _ => ?_, g5⟩
            by_cases h0 : k = 0
            · exact ⟨i, g3 h0, h10⟩
            · exact g4 (by omega)
        · exact split_lines s n acc a (i + 1) (by omega) (by omega) (by omega) ha
    · next hlt =>
      split
      · next hal =>
        refine ⟨[s.extract a s.size], rfl, fun k x hk => ?_⟩
        cases k with
        | zero =>
          simp at hk
          subst hk
          obtain ⟨f1, f2⟩ := first s.size hal (Nat.le_refl _)
          exact ⟨f1, a, hal, fun _ => rfl, fun h => absurd h (by omega), f2⟩
        | succ k => simp at hk
      · exact ⟨[], by rw [List.append_nil], fun k x hk => by simp at hk⟩
theorem mayB_first {s : ByteArray} {p : Nat} (hp : p < s.size) : mayB s p = (at0 s.data.toList p == 35 || at0 s.data.toList p == 45 || leB (at0 s.data.toList p)) := by
  unfold mayB isAt nm
  rw [decide_eq_true hp, Bool.true_and, Bool.true_and]
  congr 1
  by_cases h : leB (at0 s.data.toList p) = true
  · rw [if_pos ⟨hp, h⟩, h, decide_eq_true_iff]
    have hl : p < s.data.toList.length := by rw [size_data]; exact hp
    have h2 : behN naB s.data.toList (p + 1) = behN naB s.data.toList p := behN_yes naB _ _ hl (by
      rw [at0_get _ _ hl] at h
      unfold naB
      rw [h]; rfl)
    have := behN_ge naB s.data.toList (p + 1)
    omega
  · rw [if_neg (fun e => h e.2), decide_eq_false (by omega)]
    exact (Bool.eq_false_iff.2 h).symm
theorem junk_lines {s : ByteArray} {x : EN} (h4 : x.fr < s.size) (h5 : readS s x.fr = x) (h6 : x.fr < x.tu ∧ x.tu ≤ s.size) (h3 : x.ty = 3) :
    ∀ k y, (splitS x.tx)[k]? = some y → 0 < y.size ∧ (0 < k → ∃ c, y.data.toList[0]? = some c ∧ (c == 35 || c == 45 || leB c) = false) := by
  have hj := junk_facts h4 (by rw [h5]; exact h3)
  rw [h5] at hj
  obtain ⟨e1, e2, e3⟩ := hj
  have hz : x.tx.size = x.tu - x.fr := by rw [e1, ByteArray.size_extract]; omega
  intro k y hk
  obtain ⟨l, g1, g2⟩ := split_lines x.tx x.tx.size [] 0 0 (by omega) (Nat.le_refl _) (Nat.zero_le _) (Or.inl rfl)
  unfold splitS at hk
  rw [g1, List.nil_append] at hk
  obtain ⟨f1, p, f2, f3, f4, f5⟩ := g2 k y hk
  refine ⟨f1, fun h0 => ⟨_, f5, ?_⟩⟩
  obtain ⟨j, rfl, hj⟩ := f4 h0
  have hb : ∀ m, m < x.tx.size → at0 x.tx.data.toList m = at0 s.data.toList (x.fr + m) := fun m hm => by
    have h7 := ext_at s x.fr x.tu m h6.2 (by omega)
    rw [← e1] at h7
    rw [at0_get _ _ (by rw [size_data]; exact hm)]
    exact (Option.some.inj (h7.symm.trans (List.getElem?_eq_getElem _))).symm
  rw [hb _ f2]
  have hjs := isAt_lt hj
  have hp : x.fr + (j + 1) < s.size := by omega
  rw [← mayB_first hp]
  refine e3 (x.fr + (j + 1)) (by omega) (by omega) ⟨x.fr + j, by omega, ?_⟩
  unfold isAt at hj ⊢
  rw [decide_eq_true hjs, Bool.true_and, hb _ hjs] at hj
  rw [decide_eq_true (by omega), Bool.true_and]
  exact hj
end Go.Proofs.YtdoambpiafkmmaaGreatDoor

namespace Go.Proofs.YtdoambpiafkmmaaGreatDoor
open Go.RowKit
set_option linter.unusedVariables false
set_option linter.unusedSimpArgs false
set_option maxHeartbeats 4000000 in
set_option maxRecDepth 100000 in
theorem entry_same0 {W0 : World} (ty lv : Int) (tx nm : ByteArray) (l : List EL) {v1 v2 : Value} (A B : Option Addr) (d d' : Nat) (f1 t1 f2 t2 : Int) (h1 : PatAt W0 l v1) (h2 : PatAt W0 l v2) (hl : l.length ≤ 8000000)
    (hS : ∀ t e, EL.mk t (some e) ∉ l) (w : World) (hb : Below W0.heap.size W0 w) :
    Calls Tryz.prog 17 #[entV ty lv tx nm v1 (.slice A 0 d) f1 t1, entV ty lv tx nm v2 (.slice B 0 d') f2 t2] w fun e w' => e = .returned (.bool true) ∧ Below w.heap.size w w' := by
  have hP := fun W (h : Below W0.heap.size W0 W) => pats_text l h1 h2 hl hS W h
  obtain ⟨A1, c1, rfl, _⟩ := h1
  obtain ⟨A2, c2, rfl, _⟩ := h2
  have HP := Lib.hid hP
  have HB := Lib.hid hb
  have hs0 := hb.size
  have z1 : (tx.toList != tx.toList) = false := bne_self_eq_false _
  have z2 : (nm.toList != nm.toList) = false := bne_self_eq_false _
  have z3 : (ty != ty) = false := bne_self_eq_false _
  have z4 : (lv != lv) = false := bne_self_eq_false _
  clear hP hS hb
  unfold entV
  go_enter Tryz.func17, Tryz.ntmps17
  go_wp2
  go_loopw [44] (fun t44 wr => t44 = .int .i64 0 ∧ wr = (w.alloc (.cells #[.int .i64 ty, .int .i64 lv, .string tx, .string nm, .slice A1 l.length c1, .slice A 0 d, .int .i64 f1, .int .i64 t1] 45)).alloc (.cells #[.int .i64 ty, .int .i64 lv, .string tx, .string nm, .slice A2 l.length c2, .slice B 0 d', .int .i64 f2, .int .i64 t2] 45)) (fun _ _ => 0)
  case atStart => exact ⟨rfl, rfl⟩
  case round =>
  obtain ⟨rfl, rfl⟩ := hrel
  go_wp2_with fail
  go_at_call 34
  refine (HP.out _ ((HB.out.alloc hs0 _).alloc (by simp; omega) _)).mono ?_
  rintro e w1 ⟨rfl, hb1⟩
  have HB1 := Lib.hid ((((Below.refl w.heap.size w).alloc (Nat.le_refl _) _).alloc (by simp) _).trans (hb1.mono (by simp; omega)))
  clear hb1
  go_wp2
  go_ret
  exact ⟨rfl, HB1.out⟩
end Go.Proofs.YtdoambpiafkmmaaGreatDoor

namespace Go.Proofs.YtdoambpiafkmmaaGreatDoor
open Go.RowKit
set_option linter.unusedVariables false
set_option linter.unusedSimpArgs false
section
variable (A R : List UInt8) (c d : UInt8)
theorem mkB_list (L : List UInt8) : (mkB L).data.toList = L := by simp [mkB]
theorem at0_app : at0 (A ++ c :: R) A.length = c := by
  unfold at0
  simp
theorem isAt_app : isAt (mkB (A ++ c :: R)) A.length d = (c == d) := by
  unfold isAt
  rw [mkB_list, at0_app, mkB_size]
  have : A.length < (A ++ c :: R).length := by simp
  rw [decide_eq_true this, Bool.true_and]
theorem behN_app (p : UInt8 → Bool) : behN p (A ++ R) A.length = A.length + (R.takeWhile p).length := by
  unfold behN
  rw [List.drop_left]
theorem bl_app : bl (mkB (A ++ R)) A.length = A.length + (R.takeWhile blB).length := by
  unfold bl
  rw [mkB_list, behN_app]
theorem quo_none (h : c ≠ 34) : quoS (mkB (A ++ c :: R)) A.length = none := by
  unfold quoS unqAll
  rw [extract_drop, mkB_list, List.drop_left, if_neg]
  simp [Lib.hasPrefix, Ne.symm h]
theorem nm_none (h : leB c = false) : nm (mkB (A ++ c :: R)) A.length = A.length := by
  unfold nm
  rw [mkB_list, at0_app, h, if_neg (by simp)]
theorem nu_none (h : dgB c = false) (h2 : c ≠ 45) : nu (mkB (A ++ c :: R)) A.length = A.length := by
  unfold nu numN
  rw [mkB_list, at0_app]
  have e : behN dgB (A ++ c :: R) A.length = A.length := by rw [behN_app, List.takeWhile_cons, h]; rfl
  dsimp only
  simp only [h2, and_false, if_false, e, Nat.lt_irrefl]
end
def ub (b : Bool) : List UInt8 := if b then [123, 10, 32] else [123]
def nestX : Nat → EX
  | 0 => .mk 2 E0 ⟨#[120]⟩ E0 [] none []
  | k + 1 => .mk 6 E0 E0 E0 [] (some (nestX k)) []
def braces (b : Bool) (k : Nat) : List UInt8 := (List.replicate k (ub b)).flatten
theorem braces_succ (b : Bool) (k : Nat) : braces b (k + 1) = ub b ++ braces b k := by simp [braces, List.replicate_succ]
theorem braces_length (b : Bool) (k : Nat) : (braces b k).length = k * (ub b).length := by
  induction k with
  | zero => simp [braces]
  | succ k ih => rw [braces_succ, List.length_append, ih, Nat.succ_mul]; omega
theorem bl_ub (A : List UInt8) (b : Bool) (c : UInt8) (R : List UInt8) (h : blB c = false) : bl (mkB (A ++ (ub b ++ c :: R))) (A.length + 1) = A.length + (ub b).length := by
  cases b with
  | false =>
    have e : A ++ (ub false ++ c :: R) = (A ++ [123]) ++ c :: R := by simp [ub]
    have e2 : A.length + 1 = (A ++ [(123 : UInt8)]).length := by simp
    rw [e, e2, bl_app, List.takeWhile_cons, h]
    simp [ub]
  | true =>
    have e : A ++ (ub true ++ c :: R) = (A ++ [123]) ++ 10 :: 32 :: c :: R := by simp [ub]
    have e2 : A.length + 1 = (A ++ [(123 : UInt8)]).length := by simp
    rw [e, e2, bl_app, List.takeWhile_cons, List.takeWhile_cons, List.takeWhile_cons, h]
    simp [ub, show blB 10 = true by decide, show blB 32 = true by decide]
theorem var_x (A R : List UInt8) : varS (mkB (A ++ 36 :: 120 :: 125 :: R)) A.length = some (.mk 2 E0 ⟨#[120]⟩ E0 [] none [], A.length + 2) := by
  have e : A ++ 36 :: 120 :: 125 :: R = (A ++ [36]) ++ 120 :: 125 :: R := by simp
  have e2 : A.length + 1 = (A ++ [(36 : UInt8)]).length := by simp
  have hn : nm (mkB (A ++ 36 :: 120 :: 125 :: R)) (A.length + 1) = A.length + 2 := by
    rw [e, e2]
    unfold nm
    rw [mkB_list, at0_app, mkB_size, if_pos ⟨by simp, by decide⟩, behN_app, List.takeWhile_cons, List.takeWhile_cons]
    simp [show naB 120 = true by decide, show naB 125 = false by decide]
  unfold varS
  rw [isAt_app, hn]
  have hx : (mkB (A ++ 36 :: 120 :: 125 :: R)).extract (A.length + 1) (A.length + 2) = ⟨#[120]⟩ := by
    apply bytes_eq
    rw [e]
    simp [mkB, ByteArray.extract, ByteArray.copySlice]
  rw [hx]
  simp
def txt (b : Bool) (k : Nat) (C : List UInt8) : List UInt8 := braces b k ++ (36 :: 120 :: (List.replicate k 125 ++ C))
theorem txt_zero (b : Bool) (C : List UInt8) : txt b 0 C = 36 :: 120 :: C := rfl
theorem txt_succ (b : Bool) (k : Nat) (C : List UInt8) : txt b (k + 1) C = ub b ++ txt b k (125 :: C) := by
  unfold txt
  rw [braces_succ, List.replicate_succ', List.append_assoc, List.append_assoc]
  rfl
theorem ub_cons (b : Bool) : ∃ u, ub b = 123 :: u := by cases b <;> exact ⟨_, rfl⟩
theorem end_brace (A C : List UInt8) : bl (mkB (A ++ 125 :: C)) A.length = A.length ∧ isAt (mkB (A ++ 125 :: C)) A.length 125 = true := by
  refine ⟨?_, by rw [isAt_app]; rfl⟩
  rw [bl_app, List.takeWhile_cons, show blB 125 = false by decide]
  rfl
theorem head_none (P : Nat → Res) (A R : List UInt8) (h : P A.length = none) : headS P (mkB (A ++ 123 :: R)) A.length = none := by
  unfold headS
  rw [quo_none A R 123 (by decide)]
  have hv : varS (mkB (A ++ 123 :: R)) A.length = none := by unfold varS; rw [isAt_app]; rfl
  have ht : terS (mkB (A ++ 123 :: R)) A.length = none := by unfold terS; rw [isAt_app]; rfl
  have hr : refS 3 (mkB (A ++ 123 :: R)) A.length = none := by unfold refS; rw [nm_none A R 123 (by decide), if_pos rfl]
  have hn : nubS (mkB (A ++ 123 :: R)) A.length = none := by unfold nubS; rw [nu_none A R 123 (by decide) (by decide), if_pos rfl]
  rw [hv, ht, hr, hn]
  unfold nestS
  rw [h]
  rfl
theorem head_nest (P : Nat → Res) (A R : List UInt8) {e : EX} {j : Nat} (h : P A.length = some (e, j)) : headS P (mkB (A ++ 123 :: R)) A.length = some (.mk 6 E0 E0 E0 [] (some e) [], j) := by
  unfold headS
  rw [quo_none A R 123 (by decide)]
  have hv : varS (mkB (A ++ 123 :: R)) A.length = none := by unfold varS; rw [isAt_app]; rfl
  rw [hv]
  unfold nestS
  rw [h]
  rfl
theorem inl_flat (P : Nat → Res) (s : ByteArray) (i : Nat) {k : Int} {t n a : ByteArray} {al : List AR} {ie : Option EX} {vs : List VA} {j : Nat} (h : headS P s i = some (.mk k t n a al ie vs, j)) (h3 : k ≠ 3) (h4 : k ≠ 4) : inlS P s i = some (.mk k t n a al ie vs, j) := by
  have ho : opnS s (.mk k t n a al ie vs) j = (false, j) := by
    unfold opnS
    rw [if_neg]
    simp [isFuncS, isTermS, h3, h4]
  unfold inlS
  rw [h]
  dsimp only
  rw [ho]
  rfl
theorem deepS (b : Bool) : ∀ (k r : Nat) (A C : List UInt8), placeS (mkB (A ++ txt b (k + 1) C)) r A.length = if k + 1 ≤ r then some (nestX k, A.length + (k + 1) * (ub b).length + 2 + (k + 1)) else none
  | k, 0, A, C => by rw [placeS, if_neg (by omega)]
  | 0, r + 1, A, C => by
    obtain ⟨u, hu⟩ := ub_cons b
    have e1 : A ++ txt b 1 C = A ++ (ub b ++ 36 :: (120 :: 125 :: C)) := by rw [txt_succ, txt_zero]
    have e2 : A ++ txt b 1 C = A ++ 123 :: (u ++ 36 :: (120 :: 125 :: C)) := by rw [e1, hu]; rfl
    have e3 : A ++ txt b 1 C = (A ++ ub b) ++ 36 :: 120 :: 125 :: C := by rw [e1]; simp
    have e4 : A ++ txt b 1 C = (A ++ ub b ++ [36, 120]) ++ 125 :: C := by rw [e1]; simp
    have hb : bl (mkB (A ++ txt b 1 C)) (A.length + 1) = (A ++ ub b).length := by
      rw [e1, bl_ub A b 36 _ (by decide), List.length_append]
    have hi : inlS (placeS (mkB (A ++ txt b 1 C)) r) (mkB (A ++ txt b 1 C)) (A ++ ub b).length = some (.mk 2 E0 ⟨#[120]⟩ E0 [] none [], (A ++ ub b).length + 2) := by
      refine inl_flat _ _ _ ?_ (by decide) (by decide)
      rw [e3]
      unfold headS
      rw [quo_none _ _ 36 (by decide), var_x]
      rfl
    have he := end_brace (A ++ ub b ++ [36, 120]) C
    have hl : (A ++ ub b ++ [(36 : UInt8), 120]).length = (A ++ ub b).length + 2 := by simp only [List.length_append, List.length_cons, List.length_nil]
    rw [← e4, hl] at he
    rw [placeS, if_pos (by rw [e2, isAt_app]; rfl), hb, hi]
    dsimp only
    rw [he.1, if_pos he.2, if_neg (by simp [termAttr]), if_pos (by omega)]
    rw [List.length_append, nestX]
    congr 2
    omega
  | k + 1, r + 1, A, C => by
    obtain ⟨u, hu⟩ := ub_cons b
    have e1 : A ++ txt b (k + 2) C = A ++ (ub b ++ 123 :: (u ++ txt b k (125 :: 125 :: C))) := by rw [txt_succ, txt_succ, hu]; rfl
    have e2 : A ++ txt b (k + 2) C = A ++ 123 :: (u ++ 123 :: (u ++ txt b k (125 :: 125 :: C))) := by rw [e1, hu]; rfl
    have e3 : A ++ txt b (k + 2) C = (A ++ ub b) ++ txt b (k + 1) (125 :: C) := by rw [txt_succ]; simp
    have e5 : A ++ txt b (k + 2) C = (A ++ ub b) ++ 123 :: (u ++ txt b k (125 :: 125 :: C)) := by rw [e1]; simp
    have hb : bl (mkB (A ++ txt b (k + 2) C)) (A.length + 1) = (A ++ ub b).length := by
      rw [e1, bl_ub A b 123 _ (by decide), List.length_append]
    have ih := deepS b k r (A ++ ub b) (125 :: C)
    rw [← e3] at ih
    rw [placeS, if_pos (by rw [e2, isAt_app]; rfl), hb]
    by_cases hk : k + 1 ≤ r
    · rw [if_pos hk] at ih
      have hh := head_nest (placeS (mkB (A ++ txt b (k + 2) C)) r) (A ++ ub b) (u ++ txt b k (125 :: 125 :: C)) ih
      rw [← e5] at hh
      rw [inl_flat _ _ _ hh (by decide) (by decide)]
      dsimp only
      have e4 : A ++ txt b (k + 2) C = (A ++ ub b ++ (braces b (k + 1) ++ 36 :: 120 :: List.replicate (k + 1) 125)) ++ 125 :: C := by
        rw [e3]
        unfold txt
        simp
      have he := end_brace (A ++ ub b ++ (braces b (k + 1) ++ 36 :: 120 :: List.replicate (k + 1) 125)) C
      have hl : (A ++ ub b ++ (braces b (k + 1) ++ 36 :: 120 :: List.replicate (k + 1) 125)).length = (A ++ ub b).length + (k + 1) * (ub b).length + 2 + (k + 1) := by
        simp only [List.length_append, braces_length, List.length_cons, List.length_replicate]
        omega
      rw [← e4, hl] at he
      rw [he.1, if_pos he.2, if_neg (by simp [termAttr]), if_pos (by omega)]
      rw [List.length_append, nestX]
      congr 2
      rw [Nat.succ_mul (k + 1)]
      omega
    · rw [if_neg hk] at ih
      have hh := head_none (placeS (mkB (A ++ txt b (k + 2) C)) r) (A ++ ub b) (u ++ txt b k (125 :: 125 :: C)) ih
      rw [← e5] at hh
      rw [inl_none hh, if_neg (by omega)]
end Go.Proofs.YtdoambpiafkmmaaGreatDoor
