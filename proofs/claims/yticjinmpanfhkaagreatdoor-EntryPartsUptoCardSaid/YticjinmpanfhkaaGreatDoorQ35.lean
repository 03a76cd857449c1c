/-
  Several texts put together (part 35): what the law and the program call, walked; their contracts.
-/
import Derived.Test.YticjinmpanfhkaaGreatDoorQ20
import Derived.Test.YticjinmpanfhkaaGreatDoorQ18
import Derived.Test.YticjinmpanfhkaaGreatDoorQ34
import Derived.Test.YticjinmpanfhkaaGreatDoorQ28
import Derived.Test.YticjinmpanfhkaaGreatDoorQ19
/-
  entry.Texts: what the closure does.
-/
namespace Go.Proofs.YticjinmpanfhkaaGreatDoor
open Go.RowKit
set_option linter.unusedVariables false
set_option linter.unusedSimpArgs false

theorem enters_texts : Enters 45 := fun args w => by go_simp
/-- One step: what is put to the texts, and the place. -/
def upT (s : ByteArray) (st : List ByteArray × Nat) (p : Nat) : List ByteArray × Nat :=
  if st.2 < min p s.size then (st.1 ++ [s.extract st.2 (min p s.size)], min p s.size) else st
/-- The closure's three boxes, and what they hold. -/
structure UpAt (B : Nat) (wr : World) (x y z : Nat) (s : ByteArray) (st : List ByteArray × Nat) (V : Value) : Prop where
  bx : BoxAt wr x #[.string s] 9
  by_ : BoxAt wr y #[.int .i64 st.2] 3
  bz : BoxAt wr z #[V] 49
  row : wr.ownsRow B 9 1 V st.1.length (st.1.map strV9)
  hp : st.2 ≤ s.size ∧ st.1.length ≤ st.2
theorem UpAt.later {B x y z : Nat} {w w' : World} {s : ByteArray} {st : List ByteArray × Nat} {V : Value} (h : UpAt B w x y z s st V) (hb : Below w.heap.size w w') : UpAt B w' x y z s st V :=
  ⟨h.bx.later hb, h.by_.later hb, h.bz.later hb, h.row.kept (⟨hb.os, hb.tape, hb.output, hb.size, fun k hk _ => hb.block k hk⟩ : w.grownBy w' none) (by by_cases h : V.ownBlock = none; exact .inl h; exact .inr h), h.hp⟩
theorem new1 (w : World) (t : TypeId) {x0 : Value} : ∀ j u, ([x0] : List Value)[j]? = some u → (w.alloc (.cells #[x0] t)).cell? ((⟨w.heap.size, 0, none⟩ : Addr).add j) = some u := by
  intro j u hj
  rw [Addr.add_mid, Nat.zero_add]
  have := BoxAt.cell (BoxAt.new w #[x0] t) j
  rw [this]
  simpa using hj
theorem one_s (x : ByteArray) : ∀ u ∈ ([.string x] : List Value), u.oneCell' = true := by
  intro u hu; simp at hu; subst hu; rfl
theorem box_set1 {w : World} {E : Nat} {x0 : Value} {t : TypeId} (h : BoxAt w E #[x0] t) (y0 : Value) : BoxAt (w.setCell ⟨E, 0, none⟩ y0) E #[y0] t := by
  unfold BoxAt at h ⊢
  simp [World.setCell, Array.getElem?_modify, h]
theorem row_set {w : World} {B : Nat} {e : TypeId} {v : Value} {n : Nat} {xs : List Value} (h : w.ownsRow B e 1 v n xs) {nb : Nat} (hb : nb < B) (o : Nat) (x : Value) : (w.setCell ⟨nb, o, none⟩ x).ownsRow B e 1 v n xs :=
  h.kept (row := some nb) ⟨rfl, rfl, rfl, by simp, fun k _ hk => Below.heap_setCell _ _ _ _ (fun e => hk (by simp [e]))⟩ (.inr (fun e => by have := (h.lt nb e).1; omega))
set_option maxHeartbeats 4000000 in
set_option maxRecDepth 100000 in
theorem texts1_any {B x y z : Nat} {wr : World} {s : ByteArray} {st : List ByteArray × Nat} {V : Value} (h : UpAt B wr x y z s st V) (hs : s.size ≤ 1000000) (hB : B ≤ wr.heap.size) (p : Nat) (hp : p ≤ 4000000) (hxB : x < B) (hyB : y < B) (hzB : z < B) (hxy : x ≠ y) (hxz : x ≠ z) (hyz : y ≠ z) (b0 : Nat) (hb0 : b0 ≤ x ∧ b0 ≤ y ∧ b0 ≤ z) :
    Calls Tryz.prog 45 #[.int .i64 p, .pointer (some ⟨x, 0, none⟩), .pointer (some ⟨y, 0, none⟩), .pointer (some ⟨z, 0, none⟩)] wr fun e w' => e = .returned (.tuple #[]) ∧ Below b0 wr w' ∧ (∀ k, k < wr.heap.size → B ≤ k → V.ownBlock ≠ some k → w'.heap[k]? = wr.heap[k]?) ∧ ∃ V', UpAt B w' x y z s (upT s st p) V' := by
  obtain ⟨i0, hi, hz0, hz1, hz2⟩ := info_parts infoStr
  obtain ⟨acc, a⟩ := st
  obtain ⟨q, hq⟩ : ∃ q, min p s.size = q := ⟨_, rfl⟩
  have hqs : q ≤ s.size := by omega
  have hmin : min (p : Int) (s.size : Int) = (q : Int) := by omega
  unfold upT
  dsimp only
  rw [hq]
  have c1 := h.bx.cell 0
  have c2 := h.by_.cell 0
  have c3 := h.bz.cell 0
  simp at c1 c2 c3
  have f2 := Lib.frozen_of_heap h.by_ 0
  have f3 := Lib.frozen_of_heap h.bz 0
  have l1 := h.bx.lt
  have l2 := h.by_.lt
  have l3 := h.bz.lt
  have hp2 : a ≤ s.size ∧ acc.length ≤ a := h.hp
  have ha0 : (a : Int) ≤ 1000000 := by omega
  have hq0 : (q : Int) ≤ 1000000 := by omega
  have hss : (s.size : Int) ≤ 1000000 := by omega
  have hpp : (p : Int) ≤ 4000000 := by omega
  have H := Lib.hid h
  clear h hq
  by_cases hlt : a < q
  · have d1 : decide ((a : Int) < (q : Int)) = true := decide_eq_true (by omega)
    have d2 : (a : Int) < (q : Int) := by omega
    have d3 : (q : Int) ≤ (s.size : Int) := by omega
    have d4 : (a : Int) ≤ (q : Int) := by omega
    have d5 : (0 : Int) ≤ (a : Int) := by omega
    have d6 : (0 : Int) ≤ (q : Int) := by omega
    rw [if_pos hlt]
    have hrow := H.out.row
    have HRow := Lib.hid hrow
    have Hv := Lib.hid (fun g e => hrow.lt g e)
    have hNz : some z ≠ V.ownBlock := fun e => by have := (Hv.out z e.symm).1; omega
    have hNy : some y ≠ V.ownBlock := fun e => by have := (Hv.out y e.symm).1; omega
    have hNx : some x ≠ V.ownBlock := fun e => by have := (Hv.out x e.symm).1; omega
    have HNz := Lib.hid hNz
    have HNy := Lib.hid hNy
    have HNx := Lib.hid hNx
    have B1 := Lib.hid (show acc.length + 1 ≤ maxLen by unfold maxLen; omega)
    have B2 := Lib.hid (show (acc.length + 1) * 16 ≤ 140737488355328 by omega)
    have B3 := Lib.hid hB
    have E3 := Lib.hid (fun o => show (wr.drew.alloc o).cell? ⟨z, 0, none⟩ = some V from BoxAt.cell (BoxAt.alloc (w := wr.drew) H.out.bz o) 0)
    have E2 := Lib.hid (fun o => show (wr.drew.alloc o).cell? ⟨y, 0, none⟩ = some (.int .i64 a) from BoxAt.cell (BoxAt.alloc (w := wr.drew) H.out.by_ o) 0)
    have F3 := Lib.hid (fun o => Lib.frozen_of_heap (BoxAt.alloc (w := wr.drew) H.out.bz o) 0)
    have F2 := Lib.hid (fun o => Lib.frozen_of_heap (BoxAt.alloc (w := wr.drew) H.out.by_ o) 0)
    have G3 := Lib.hid (fun o => BoxAt.lt (BoxAt.alloc (w := wr.drew) H.out.bz o))
    have G2 := Lib.hid (fun o => BoxAt.lt (BoxAt.alloc (w := wr.drew) H.out.by_ o))
    clear hrow hNz hNy hNx
    go_enter Tryz.func45, Tryz.ntmps45
    go_wp2_with fail
    go_region_law (refine step_append_own rfl (.tmp 13) (.tmp 18) 49 rfl B 9 i0 (.string ⟨#[]⟩) 1 16 Tryz.underlying49 hi hz0 hz1 hz2 rfl (by decide) V acc.length (acc.map strV9) (by simp [Act.eval, Act.put]) (HRow.out.drew.alloc _) ⟨wr.heap.size, 0, none⟩ 1 1 [.string (s.extract a q)] (by simp [Act.eval, Act.put]) rfl (new1 _ _) (one_s _) B1.out B2.out (by show B ≤ (wr.alloc _).heap.size; rw [World.size_alloc]; exact Nat.le_succ_of_le B3.out) (by decide) ?_; intro v' w' hown hgrow hwh; obtain ⟨gA, cA, rfl⟩ := own_some hown; have s3 := hgrow.cell (a := ⟨z, 0, none⟩) (E3.out _) HNz.out; have s2 := hgrow.cell (a := ⟨y, 0, none⟩) (E2.out _) HNy.out; have r3 := (World.frozen?_of_block (a := ⟨z, 0, none⟩) (hgrow.block z (G3.out _) HNz.out)).trans (F3.out _); have r2 := (World.frozen?_of_block (a := ⟨y, 0, none⟩) (hgrow.block y (G2.out _) HNy.out)).trans (F2.out _); have hOwn := Lib.hid hown; have hGrow := Lib.hid hgrow; clear hown hgrow hwh)
    all_goals
      go_wp2_with fail
      go_end0
      have hlx := BoxAt.lt (BoxAt.alloc (w := wr.drew) H.out.bx (.cells #[.string (s.extract a q)] 9))
      have hx1 : BoxAt w' x #[.string s] 9 := (hGrow.out.block x hlx HNx.out).trans (BoxAt.alloc (w := wr.drew) H.out.bx _)
      have hy1 : BoxAt w' y #[.int .i64 a] 3 := (hGrow.out.block y (G2.out _) HNy.out).trans (BoxAt.alloc (w := wr.drew) H.out.by_ _)
      have hz1 : BoxAt w' z #[V] 49 := (hGrow.out.block z (G3.out _) HNz.out).trans (BoxAt.alloc (w := wr.drew) H.out.bz _)
      have hbel : Below b0 wr w' := (((Below.refl b0 wr).drew.alloc (by show b0 ≤ wr.heap.size; omega) _).grown hGrow.out (by rw [World.size_alloc]; show b0 ≤ wr.heap.size + 1; omega) (fun k e => by have := (Hv.out k e).1; omega))
      refine ⟨rfl, (hbel.setCell (p := ⟨z, 0, none⟩) hb0.2.2 _).setCell (p := ⟨y, 0, none⟩) hb0.2.1 _, fun k hk hBk hV => ?_, _, ⟨(hx1.setOther ⟨z, 0, none⟩ _ hxz).setOther ⟨y, 0, none⟩ _ hxy, box_set1 (hy1.setOther ⟨z, 0, none⟩ _ hyz) _, (box_set1 hz1 _).setOther ⟨y, 0, none⟩ _ (fun e => hyz e.symm), ?_, ?_⟩⟩
      · rw [Below.heap_setCell _ _ _ k (by show k ≠ y; omega), Below.heap_setCell _ _ _ k (by show k ≠ z; omega)]
        exact (hGrow.out.block k (by show k < (World.alloc _ _).heap.size; rw [World.size_alloc]; omega) (fun e => hV e.symm)).trans (Lib.alloc_old _ _ k hk)
      · have := row_set (row_set hOwn.out hzB 0 (.slice (some ⟨gA, 0, none⟩) (acc.length + 1) cA)) hyB 0 (.int .i64 q)
        rw [List.length_append, List.length_singleton, List.map_append]
        exact this
      · exact ⟨hqs, by rw [List.length_append, List.length_singleton]; omega⟩
  · have d1 : decide ((a : Int) < (q : Int)) = false := decide_eq_false (by omega)
    have d2 : ¬ (a : Int) < (q : Int) := by omega
    rw [if_neg hlt]
    go_enter Tryz.func45, Tryz.ntmps45
    go_wp2
    go_end0
    exact ⟨rfl, Below.refl _ _, fun _ _ _ _ => rfl, V, H.out⟩
end Go.Proofs.YticjinmpanfhkaaGreatDoor

/-
  entry.Texts of a list of entries: the pieces of a text.
-/
namespace Go.Proofs.YticjinmpanfhkaaGreatDoor
open Go.RowKit
set_option linter.unusedVariables false
set_option linter.unusedSimpArgs false

def upsS (s : ByteArray) : List ByteArray × Nat → List EN → List ByteArray × Nat
  | st, [] => st
  | st, x :: r => upsS s (upT s (upT s st x.fr) x.tu) r
def textsS (s : ByteArray) (l : List EN) : List ByteArray := (upT s (upsS s ([], 0) l) s.size).1
theorem ups_take (s : ByteArray) : ∀ (l : List EN) (st : List ByteArray × Nat) (i : Nat) (x : EN), l[i]? = some x → upsS s st (l.take (i + 1)) = upT s (upT s (upsS s st (l.take i)) x.fr) x.tu
  | [], st, i, x, h => by simp at h
  | y :: r, st, 0, x, h => by
    simp at h
    subst h
    simp [upsS]
  | y :: r, st, i + 1, x, h => by
    have := ups_take s r (upT s (upT s st y.fr) y.tu) i x (by simpa using h)
    simpa [upsS] using this
theorem cell_below {W0 W : World} (hb : Below W0.heap.size W0 W) {b o : Nat} {v : Value} (h : W0.cell? ⟨b, o, none⟩ = some v) : W.cell? ⟨b, o, none⟩ = some v := (hb.cell (p := ⟨b, o, none⟩) (World.block_lt_of_cell? W0 _ h)).trans h
set_option maxHeartbeats 8000000 in
set_option maxRecDepth 100000 in
theorem texts_any {W0 : World} {F : Nat → Prop} (s : ByteArray) (l : List EN) (A : Option Addr) (c : Nat) (hl : ListF W0 F l (.slice A l.length c)) (hF : ∀ b, F b → b < W0.heap.size) (hs : s.size ≤ 1000000) (hn : l.length ≤ 4000000) (hle : ∀ x ∈ l, x.fr ≤ 4000000 ∧ x.tu ≤ 4000000) (w : World) (hb : Below W0.heap.size W0 w) :
    Calls Tryz.prog 22 #[.string s, .slice A l.length c] w fun e w' => Below w.heap.size w w' ∧ ∃ v, e = .returned v ∧ StrsAt w' (textsS s l) v := by
  have he := enters_texts
  unfold Enters at he
  have HL := Lib.hid (fun (i : Nat) (h : 0 < l.length) => list_at hl h)
  have HB := Lib.hid hb
  have Hle := Lib.hid hle
  have HF := Lib.hid hF
  have hss : (s.size : Int) ≤ 1000000 := by omega
  have hnn : (l.length : Int) ≤ 4000000 := by omega
  clear hl hb hle hF
  go_enter Tryz.func22, Tryz.ntmps22
  go_wp2
  go_loopw [13] (fun t13 wr => ∃ (i : Nat) (V : Value), t13 = .int .i64 i ∧ i ≤ l.length ∧ Hid (Below w.heap.size w wr) ∧ Hid (w.heap.size + 3 ≤ wr.heap.size) ∧ Hid (UpAt (w.heap.size + 3) wr w.heap.size (w.heap.size + 2) (w.heap.size + 1) s (upsS s ([], 0) (l.take i)) V)) (fun t13 _ => l.length - (intOf t13).toNat)
  case atStart =>
    refine ⟨0, .slice none 0 0, rfl, Nat.zero_le _, (((Below.refl _ _).alloc (Nat.le_refl _) _).alloc (by simp) _).alloc (by simp; omega) _, Lib.hid (by simp), ⟨?_, ?_, ?_, World.ownsRow_nil _ _ _ _, ⟨Nat.zero_le _, Nat.le_refl _⟩⟩⟩
    · exact ((BoxAt.new _ _ _).alloc _).alloc _
    · exact BoxAt.new' _ _ _ _ (by simp)
    · exact (BoxAt.new' _ _ _ _ (by simp)).alloc _
  case round =>
    obtain ⟨i, V, rfl, hi, HBel, HSz, HU⟩ := hrel
    have hi0 : (i : Int) ≤ 4000000 := by omega
    have hB3 := HSz.out
    by_cases hlt : i < l.length
    · have d1 : decide ((i : Int) < (l.length : Int)) = true := decide_eq_true (by omega)
      have d2 : (i : Int) < (l.length : Int) := by omega
      obtain ⟨b, o, rfl, hns⟩ := HL.out i (by omega)
      have hli : l[i]? = some l[i] := List.getElem?_eq_getElem hlt
      have hmem : l[i] ∈ l := List.getElem_mem hlt
      have hst := ups_take s l ([], 0) i _ hli
      obtain ⟨x, hx⟩ : ∃ x, l[i] = x := ⟨_, rfl⟩
      rw [hx] at hli hmem hst
      obtain ⟨hFb, A0, c0, B0, d0, p0, p1, p2, p3, p4, p5, p6, p7, _⟩ := hns.get i hli
      have hfe := Hle.out x hmem
      have hfr : ((x.fr : Nat) : Int) ≤ 4000000 := by omega
      have hto : ((x.tu : Nat) : Int) ≤ 4000000 := by omega
      have hbb := HB.out.trans (HBel.out.mono HB.out.size)
      have e0 := cell_below hbb p0
      have e1 := cell_below hbb p1
      have e2 := cell_below hbb p2
      have e3 := cell_below hbb p3
      have e4 := cell_below hbb p4
      have e5 := cell_below hbb p5
      have e6 := cell_below hbb p6
      have e7 := cell_below hbb p7
      have hbl : b < wr.heap.size := Nat.lt_of_lt_of_le (HF.out b hFb) (Nat.le_trans HB.out.size HBel.out.size)
      have HBb := Lib.hid hbb
      have Hst := Lib.hid hst
      obtain ⟨st, hst0⟩ : ∃ st, upsS s ([], 0) (l.take i) = st := ⟨_, rfl⟩
      have HU0 := HU.out
      rw [hst0] at HU0 Hst
      have HX0 := Lib.hid (fun g e => (HU0.row.lt g e).2)
      have hU1 := HU0.later ((Below.refl wr.heap.size wr).alloc (Nat.le_refl _) (.cells #[.int .i64 x.ty, .int .i64 x.lv, .string x.tx, .string x.nm, .slice A0 x.val.length c0, .slice B0 x.ats.length d0, .int .i64 x.fr, .int .i64 x.tu] 45))
      have hC1 := texts1_any hU1 hs (by rw [World.size_alloc]; omega) x.fr hfe.1 (by omega) (by omega) (by omega) (by omega) (by omega) (by omega) w.heap.size ⟨Nat.le_refl _, by omega, by omega⟩
      have hbox := BoxAt.new wr #[.int .i64 x.ty, .int .i64 x.lv, .string x.tx, .string x.nm, .slice A0 x.val.length c0, .slice B0 x.ats.length d0, .int .i64 x.fr, .int .i64 x.tu] 45
      have HC1 := Lib.hid hC1
      have Hbox := Lib.hid hbox
      clear p0 p1 p2 p3 p4 p5 p6 p7 hns hli hmem hst hx hst0 hbb hFb HU hC1 hbox hU1 HU0 HL
      go_wp2_with fail
      refine (HC1.out).mono ?_
      rintro e w2 ⟨rfl, hb2, hk2, V2, hU2⟩
      have hs2 := hb2.size
      rw [World.size_alloc] at hs2
      have hbox2 : BoxAt w2 wr.heap.size #[.int .i64 x.ty, .int .i64 x.lv, .string x.tx, .string x.nm, .slice A0 x.val.length c0, .slice B0 x.ats.length d0, .int .i64 x.fr, .int .i64 x.tu] 45 := (hk2 wr.heap.size (by rw [World.size_alloc]; omega) (by omega) (fun e => by have := HX0.out _ e; omega)).trans Hbox.out
      have q7 := hbox2.cell 7
      simp at q7
      have hlb := hbox2.lt
      have hB2 := (HBel.out.alloc (by omega) (.cells #[.int .i64 x.ty, .int .i64 x.lv, .string x.tx, .string x.nm, .slice A0 x.val.length c0, .slice B0 x.ats.length d0, .int .i64 x.fr, .int .i64 x.tu] 45)).trans hb2
      have hC2 := texts1_any hU2 hs (by omega) x.tu hfe.2 (by omega) (by omega) (by omega) (by omega) (by omega) (by omega) w.heap.size ⟨Nat.le_refl _, by omega, by omega⟩
      have HC2 := Lib.hid hC2
      have HB2 := Lib.hid hB2
      clear hb2 hk2 hU2 hC2 hB2 hbox2 e0 e1 e2 e3 e4 e5 e6 e7
      go_wp2_with fail
      refine (HC2.out).mono ?_
      rintro e w3 ⟨rfl, hb3, _, V3, hU3⟩
      have HB3 := Lib.hid (HB2.out.trans hb3)
      have hs3 := hb3.size
      rw [← Hst.out] at hU3
      have HU3 := Lib.hid hU3
      clear hb3 hU3 q7
      go_wp2
      go_roundw
      case rel => exact ⟨i + 1, V3, by go_num, hlt, HB3, Lib.hid (by omega), HU3⟩
      case measure => simp [intOf]; omega
    · have d1 : decide ((i : Int) < (l.length : Int)) = false := decide_eq_false (by omega)
      have d2 : ¬ (i : Int) < (l.length : Int) := by omega
      have hU := HU.out
      rw [List.take_of_length_le (by omega)] at hU
      have q0 := hU.bx.cell 0
      simp at q0
      have hlx := hU.bx.lt
      have hC1 := texts1_any hU hs (by omega) s.size (by omega) (by omega) (by omega) (by omega) (by omega) (by omega) (by omega) w.heap.size ⟨Nat.le_refl _, by omega, by omega⟩
      have HC1 := Lib.hid hC1
      clear hU hC1
      go_wp2_with fail
      refine (HC1.out).mono ?_
      rintro e w2 ⟨rfl, hb2, _, V2, hU2⟩
      have q1 := hU2.bz.cell 0
      simp at q1
      have hlz := hU2.bz.lt
      have HS := Lib.hid (strs_of (World.ownsRowF_of hU2.row))
      have HB2 := Lib.hid (HBel.out.trans hb2)
      clear hb2 hU2 q0
      go_wp2
      go_ret
      exact ⟨HB2.out, V2, rfl, HS.out⟩
end Go.Proofs.YticjinmpanfhkaaGreatDoor

/-
  The pieces of a text, put together, are the text; what is bare; the lines of junk.
-/
namespace Go.Proofs.YticjinmpanfhkaaGreatDoor
open Go.RowKit
set_option linter.unusedVariables false
set_option linter.unusedSimpArgs false

def catL : List ByteArray → List UInt8
  | [] => []
  | x :: r => x.data.toList ++ catL r
theorem catL_append : ∀ a b : List ByteArray, catL (a ++ b) = catL a ++ catL b
  | [], b => rfl
  | x :: r, b => by rw [List.cons_append, catL, catL, catL_append r b, List.append_assoc]
theorem take_ext (s : ByteArray) (a p : Nat) (h : a ≤ p) : s.data.toList.take a ++ (s.extract a p).data.toList = s.data.toList.take p := by
  rw [extract_list, List.drop_take]
  have := List.take_append_drop a (s.data.toList.take p)
  rw [List.take_take, Nat.min_eq_left h, List.drop_take] at this
  exact this
/-- So far the pieces are the text up to there; none is empty. -/
def UpOk (s : ByteArray) (st : List ByteArray × Nat) : Prop := catL st.1 = s.data.toList.take st.2 ∧ st.2 ≤ s.size ∧ ∀ y ∈ st.1, 0 < y.size
theorem upT_ok {s : ByteArray} {st : List ByteArray × Nat} (h : UpOk s st) (p : Nat) (hp : p ≤ s.size) (h1 : st.2 ≤ p) : UpOk s (upT s st p) ∧ (upT s st p).2 = p := by
  obtain ⟨acc, a⟩ := st
  obtain ⟨e1, e2, e3⟩ := h
  dsimp only at e1 e2 e3 h1
  unfold upT
  dsimp only
  rw [Nat.min_eq_left hp]
  by_cases hl : a < p
  · rw [if_pos hl]
    refine ⟨⟨?_, hp, ?_⟩, rfl⟩
    · dsimp only
      rw [catL_append, e1, catL, catL, List.append_nil, take_ext s a p h1]
    · intro y hy
      rcases List.mem_append.1 hy with hy | hy
      · exact e3 y hy
      · simp at hy
        rw [hy, ByteArray.size_extract]
        omega
  · rw [if_neg hl]
    have : a = p := by omega
    subst this
    exact ⟨⟨e1, e2, e3⟩, rfl⟩
theorem ups_ok {s : ByteArray} : ∀ (l : List EN) (st : List ByteArray × Nat), Chain s st.2 l → UpOk s st → UpOk s (upsS s st l)
  | [], st, hc, h => h
  | x :: r, st, hc, h => by
    cases hc with
    | cons h1 h2 h3 h4 h5 h6 h7 =>
      obtain ⟨u1, u2⟩ := upT_ok h x.fr (by omega) h1
      obtain ⟨u3, u4⟩ := upT_ok u1 x.tu h6.2.1 (by omega)
      rw [upsS]
      exact ups_ok r _ (by rw [u4]; exact h7) u3
theorem texts_ok (s : ByteArray) : catL (textsS s (parseS s)) = s.data.toList ∧ ∀ y ∈ textsS s (parseS s), 0 < y.size := by
  have h := ups_ok (parseS s) ([], 0) (parse_chain s) ⟨rfl, Nat.zero_le _, fun y hy => by simp at hy⟩
  obtain ⟨u1, u2⟩ := upT_ok h s.size (Nat.le_refl _) h.2.1
  unfold textsS
  refine ⟨?_, u1.2.2⟩
  rw [u1.1, u2, List.take_of_length_le (by rw [size_data]; exact Nat.le_refl _)]
theorem ext_at (s : ByteArray) (a b m : Nat) (hb : b ≤ s.size) (hm : a + m < b) : (s.extract a b).data.toList[m]? = some (at0 s.data.toList (a + m)) := by
  rw [extract_list, List.getElem?_drop, List.getElem?_take_of_lt hm, at0_get _ _ (by rw [size_data]; omega)]
  exact List.getElem?_eq_getElem _
theorem bareB_of {s : ByteArray} {a b : Nat} (hb : b ≤ s.size) (h : bareN s a b) : bareB (s.extract a b) = true := by
  unfold bareB
  rw [List.all_eq_true]
  intro c hc
  obtain ⟨m, hm⟩ := List.mem_iff_getElem?.1 hc
  have hl : m < (s.extract a b).data.toList.length := (List.getElem?_eq_some_iff.1 hm).1
  rw [size_data, ByteArray.size_extract] at hl
  rw [ext_at s a b m hb (by omega)] at hm
  cases hm
  rcases h (a + m) (by omega) (by omega) with h | h <;> rw [h] <;> rfl
/-- What splitting tells: each line behind the first one begins behind a line feed. -/
theorem split_lines (s : ByteArray) : ∀ (n : Nat) (acc : List ByteArray) (a i : Nat), s.size - i ≤ n → a ≤ i → i ≤ s.size → (a = 0 ∨ ∃ j, a = j + 1 ∧ isAt s j 10 = true) →
    ∃ l, splitN s acc a i = acc ++ l ∧ ∀ k x, l[k]? = some x → 0 < x.size ∧ ∃ p, p < s.size ∧ (k = 0 → p = a) ∧ (0 < k → ∃ j, p = j + 1 ∧ isAt s j 10 = true) ∧ x.data.toList[0]? = some (at0 s.data.toList p)
  | n, acc, a, i, hn, hai, hi, ha => by
    have first : ∀ b, a < b → b ≤ s.size → 0 < (s.extract a b).size ∧ (s.extract a b).data.toList[0]? = some (at0 s.data.toList a) := fun b h1 h2 =>
      ⟨by rw [ByteArray.size_extract]; omega, by have := ext_at s a b 0 h2 (by omega); simpa using this⟩
    rw [splitN]
    split
    · next hlt =>
      cases n with
      | zero => omega
      | succ n =>
        split
        · next h10 =>
          obtain ⟨l, e1, e2⟩ := split_lines s n (acc ++ [s.extract a (i + 1)]) (i + 1) (i + 1) (by omega) (Nat.le_refl _) (by omega) (Or.inr ⟨i, rfl, h10⟩)
          refine ⟨s.extract a (i + 1) :: l, by rw [e1, List.append_assoc]; rfl, fun k x hk => ?_⟩
          cases k with
          | zero =>
            simp at hk
            subst hk
            obtain ⟨f1, f2⟩ := first (i + 1) (by omega) (by omega)
            exact ⟨f1, a, by omega, fun _ => rfl, fun h => absurd h (by omega), f2⟩
          | succ k =>
            obtain ⟨g1, p, g2, g3, g4, g5⟩ := e2 k x (by simpa using hk)
            refine ⟨g1, p, g2, fun h => absurd h (by omega), fun _ => ?_, g5⟩
            by_cases h0 : k = 0
            · exact ⟨i, g3 h0, h10⟩
            · exact g4 (by omega)
        · exact split_lines s n acc a (i + 1) (by omega) (by omega) (by omega) ha
    · next hlt =>
      split
      · next hal =>
        refine ⟨[s.extract a s.size], rfl, fun k x hk => ?_⟩
        cases k with
        | zero =>
          simp at hk
          subst hk
          obtain ⟨f1, f2⟩ := first s.size hal (Nat.le_refl _)
          exact ⟨f1, a, hal, fun _ => rfl, fun h => absurd h (by omega), f2⟩
        | succ k => simp at hk
      · exact ⟨[], by rw [List.append_nil], fun k x hk => by simp at hk⟩
theorem mayB_first {s : ByteArray} {p : Nat} (hp : p < s.size) : mayB s p = (at0 s.data.toList p == 35 || at0 s.data.toList p == 45 || leB (at0 s.data.toList p)) := by
  unfold mayB isAt nm
  rw [decide_eq_true hp, Bool.true_and, Bool.true_and]
  congr 1
  by_cases h : leB (at0 s.data.toList p) = true
  · rw [if_pos ⟨hp, h⟩, h, decide_eq_true_iff]
    have hl : p < s.data.toList.length := by rw [size_data]; exact hp
    have h2 : behN naB s.data.toList (p + 1) = behN naB s.data.toList p := behN_yes naB _ _ hl (by
      rw [at0_get _ _ hl] at h
      unfold naB
      rw [h]; rfl)
    have := behN_ge naB s.data.toList (p + 1)
    omega
  · rw [if_neg (fun e => h e.2), decide_eq_false (by omega)]
    exact (Bool.eq_false_iff.2 h).symm
/-- The lines of junk: none behind the first one begins as an entry does. -/
theorem junk_lines {s : ByteArray} {x : EN} (h4 : x.fr < s.size) (h5 : readS s x.fr = x) (h6 : x.fr < x.tu ∧ x.tu ≤ s.size) (h3 : x.ty = 3) :
    ∀ k y, (splitS x.tx)[k]? = some y → 0 < y.size ∧ (0 < k → ∃ c, y.data.toList[0]? = some c ∧ (c == 35 || c == 45 || leB c) = false) := by
  have hj := junk_facts h4 (by rw [h5]; exact h3)
  rw [h5] at hj
  obtain ⟨e1, e2, e3⟩ := hj
  have hz : x.tx.size = x.tu - x.fr := by rw [e1, ByteArray.size_extract]; omega
  intro k y hk
  obtain ⟨l, g1, g2⟩ := split_lines x.tx x.tx.size [] 0 0 (by omega) (Nat.le_refl _) (Nat.zero_le _) (Or.inl rfl)
  unfold splitS at hk
  rw [g1, List.nil_append] at hk
  obtain ⟨f1, p, f2, f3, f4, f5⟩ := g2 k y hk
  refine ⟨f1, fun h0 => ⟨_, f5, ?_⟩⟩
  obtain ⟨j, rfl, hj⟩ := f4 h0
  have hb : ∀ m, m < x.tx.size → at0 x.tx.data.toList m = at0 s.data.toList (x.fr + m) := fun m hm => by
    have h7 := ext_at s x.fr x.tu m h6.2 (by omega)
    rw [← e1] at h7
    rw [at0_get _ _ (by rw [size_data]; exact hm)]
    exact (Option.some.inj (h7.symm.trans (List.getElem?_eq_getElem _))).symm
  rw [hb _ f2]
  have hjs := isAt_lt hj
  have hp : x.fr + (j + 1) < s.size := by omega
  rw [← mayB_first hp]
  refine e3 (x.fr + (j + 1)) (by omega) (by omega) ⟨x.fr + j, by omega, ?_⟩
  unfold isAt at hj ⊢
  rw [decide_eq_true hjs, Bool.true_and, hb _ hjs] at hj
  rw [decide_eq_true (by omega), Bool.true_and]
  exact hj
end Go.Proofs.YticjinmpanfhkaaGreatDoor

/-
  law08.Text: is a text one such as is read?
-/
namespace Go.Proofs.YticjinmpanfhkaaGreatDoor
open Go.RowKit
set_option linter.unusedVariables false
set_option linter.unusedSimpArgs false

/-- Signs alone, no carriage return, 400 bytes at the most. -/
def textOk (s : ByteArray) : Bool := (sigAll s.data.toList).isSome && !(s.data.toList.any (· == 13)) && decide (s.size ≤ 400)
theorem any_take (l : List UInt8) (i : Nat) (hi : i < l.length) : (l.take (i + 1)).any (· == 13) = ((l.take i).any (· == 13) || (l[i] == 13)) := by
  rw [List.take_succ_eq_append_getElem hi, List.any_append]
  simp
set_option maxHeartbeats 4000000 in
set_option maxRecDepth 1000000 in
theorem text_any (s : ByteArray) (w : World) (hT : TabU w) (hs : s.size ≤ 4000000) : Calls Tryz.prog 9 #[.string s] w fun e w' => e = .returned (.bool (textOk s)) ∧ Below w.heap.size w w' := by
  have H := Lib.hid (signs_any s w hT hs)
  unfold textOk
  obtain ⟨g, hg⟩ : ∃ g, (sigAll s.data.toList).isSome = g := ⟨_, rfl⟩
  rw [hg]
  have HG := Lib.hid hg
  have hss : (s.size : Int) ≤ 4000000 := by omega
  obtain ⟨R, hR⟩ : ∃ R, (g && !(s.data.toList.any (· == 13)) && decide (s.size ≤ 400)) = R := ⟨_, rfl⟩
  rw [hR]
  have HR := Lib.hid hR
  clear hT hg hR
  go_enter Tryz.func9, Tryz.ntmps9
  go_wp2_with fail
  go_at_call 24
  refine H.out.mono ?_
  rintro e w1 ⟨h, hb⟩
  have HB := Lib.hid hb
  clear hb
  have hv : ∃ v, e = .returned (.tuple #[v, .bool g]) := by
    rcases h with ⟨hn, rfl⟩ | ⟨xs, v, hn, _, rfl, _⟩
    · have := HG.out; rw [hn] at this; exact ⟨_, by rw [← this]; rfl⟩
    · have := HG.out; rw [hn] at this; exact ⟨_, by rw [← this]; rfl⟩
  clear h H
  obtain ⟨v, rfl⟩ := hv
  go_wp2
  go_loopw [4, 5] (fun t4 t5 wr => ∃ (i : Nat) (b : Bool), t4 = .bool b ∧ t5 = .int .i64 i ∧ i ≤ s.size ∧ Hid (b = (g && !((s.data.toList.take i).any (· == 13)))) ∧ wr = w1) (fun _ t5 _ => s.size - (intOf t5).toNat)
  case atStart => exact ⟨0, g, rfl, rfl, Nat.zero_le _, Lib.hid (by simp), rfl⟩
  case round =>
    obtain ⟨i, b, rfl, rfl, hi, Hb, rfl⟩ := hrel
    have hi0 : (i : Int) ≤ 4000000 := by omega
    by_cases hlt : i < s.size
    · have d1 : decide ((i : Int) < (s.size : Int)) = true := decide_eq_true (by omega)
      have d2 : (i : Int) < (s.size : Int) := by omega
      have hs1 := any_take s.data.toList i (by rw [size_data]; exact hlt)
      obtain ⟨c, hc⟩ : ∃ c, (s[i]'hlt).toNat = c := ⟨_, rfl⟩
      have hcc : ((s.data.toList[i]'(by rw [size_data]; exact hlt)) == 13) = decide (c = 13) := by
        rw [← hc, Bool.eq_iff_iff, beq_iff_eq, decide_eq_true_iff]
        exact ⟨fun h => by rw [show (s[i]'hlt) = (s.data.toList[i]'(by rw [size_data]; exact hlt)) from rfl, h]; rfl, fun h => UInt8.toNat_inj.1 h⟩
      rw [hcc] at hs1
      have Hs1 := Lib.hid hs1
      clear hs1 hcc
      cases b
      case false =>
        go_wp2
        go_roundw
        case rel =>
          refine ⟨i + 1, false, rfl, by go_num, hlt, ?_, trivial⟩
          refine Lib.hid ?_
          have := Hb.out
          rw [Hs1.out, Bool.not_or, ← Bool.and_assoc, ← this]
          rfl
        case measure => simp [intOf]; omega
      case true =>
        by_cases h13 : c = 13
        · have d3 : ((c : Int) != 13) = false := by rw [bne_eq_false_iff_eq]; omega
          go_wp2
          go_roundw
          case rel =>
            refine ⟨i + 1, false, rfl, by go_num, hlt, ?_, trivial⟩
            refine Lib.hid ?_
            rw [Hs1.out, decide_eq_true h13, Bool.or_true]
            simp
          case measure => simp [intOf]; omega
        · have d3 : ((c : Int) != 13) = true := by rw [bne_iff_ne]; omega
          go_wp2
          go_roundw
          case rel =>
            refine ⟨i + 1, true, rfl, by go_num, hlt, ?_, trivial⟩
            refine Lib.hid ?_
            have := Hb.out
            rw [Hs1.out, decide_eq_false h13, Bool.or_false, ← this]
          case measure => simp [intOf]; omega
    · have d1 : decide ((i : Int) < (s.size : Int)) = false := decide_eq_false (by omega)
      have d2 : ¬ (i : Int) < (s.size : Int) := by omega
      have hfin : b = (g && !(s.data.toList.any (· == 13))) := by
        rw [Hb.out, List.take_of_length_le (by rw [size_data]; omega)]
      have Hf := Lib.hid hfin
      clear hfin
      cases b
      case false =>
        have hRe : false = R := by rw [← HR.out, ← Hf.out]; rfl
        have HRe := Lib.hid hRe
        clear hRe
        go_wp2
        go_ret
        exact ⟨ret_bool HRe.out, HB.out⟩
      case true =>
        by_cases h4 : s.size ≤ 400
        · have d3 : decide ((s.size : Int) ≤ 400) = true := decide_eq_true (by omega)
          have d4 : (s.size : Int) ≤ 400 := by omega
          have hRe : true = R := by rw [← HR.out, ← Hf.out, decide_eq_true h4]; rfl
          have HRe := Lib.hid hRe
          clear hRe
          go_wp2
          go_ret
          exact ⟨ret_bool HRe.out, HB.out⟩
        · have d3 : decide ((s.size : Int) ≤ 400) = false := decide_eq_false (by omega)
          have d4 : ¬ (s.size : Int) ≤ 400 := by omega
          have hRe : false = R := by rw [← HR.out, ← Hf.out, decide_eq_false h4]; rfl
          have HRe := Lib.hid hRe
          clear hRe
          go_wp2
          go_ret
          exact ⟨ret_bool HRe.out, HB.out⟩
end Go.Proofs.YticjinmpanfhkaaGreatDoor
