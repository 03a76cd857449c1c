/-
  Package tag: what Parse's walk stands on.
-/
import Derived.Test.YtldmldgkjkgkcaaDoorTgLess
import Derived.Test.YtldmldgkjkgkcaaDoorTgM
namespace Go.Proofs.YtldmldgkjkgkcaaDoor
open Go.RowKit Go.Shelf
set_option linter.unusedVariables false
set_option linter.unusedSimpArgs false

/-- A list of bytes as a string. -/
def mk (l : List UInt8) : ByteArray := ⟨l.toArray⟩
theorem mk_data (l : List UInt8) : (mk l).data.toList = l := rfl
theorem mk_size (l : List UInt8) : (mk l).size = l.length := by show l.toArray.size = _; simp
theorem mk_of (s : ByteArray) : mk s.data.toList = s := by cases s; rfl
theorem mk_inj {a b : List UInt8} (h : mk a = mk b) : a = b := by have := congrArg (fun x : ByteArray => x.data.toList) h; exact this
theorem mk_extract (l : List UInt8) (a b : Nat) : (mk l).extract a b = mk ((l.take b).drop a) := by
  apply bytes_eq
  rw [Lib.extract_data, mk_data, mk_data, List.drop_take]
theorem mk_append (a b : List UInt8) : mk a ++ mk b = mk (a ++ b) := by
  apply bytes_eq
  rw [mk_data]
  show (mk a ++ mk b).data.toList = _
  rw [ByteArray.data_append]
  simp [mk]
theorem mk_nil : mk [] = ⟨#[]⟩ := rfl

theorem splitK_len : ∀ (n : Nat) (l : List UInt8), l.length ≤ n → (splitH l).length = Lib.count l [45] + 1
  | n, l, hn => by
    rcases index_hy l with ⟨h1, h2⟩ | ⟨i, h1, h2, h3, h4⟩
    · rw [Lib.count_miss h1, splitH_one l h2]; rfl
    · obtain ⟨m, rfl⟩ : ∃ m, n = m + 1 := ⟨n - 1, by omega⟩
      have ih := splitK_len m (l.drop (i + 1)) (by simp; omega)
      rw [Lib.count_hit (by simp) h1]
      have e : splitH l = l.take i :: splitH (l.drop (i + 1)) := by
        have e2 := splitH_hy (l.take i) (l.drop (i + 1)) h3
        rwa [← h4] at e2
      rw [e, List.length_cons, ih]
      simp; omega
/-- What the library's cutting gives, as strings. -/
theorem splitB_mk (s : ByteArray) : Lib.splitB ⟨#[45]⟩ 0 (Lib.countB s ⟨#[45]⟩) s = (splitH s.data.toList).map mk := by
  have h := Lib.splitB_data ⟨#[45]⟩ 0 (Lib.countB s ⟨#[45]⟩) s
  have h2 : Lib.splitK [45] 0 (Lib.countB s ⟨#[45]⟩) s.data.toList = splitH s.data.toList := splitK_hy s.data.toList.length s.data.toList (Nat.le_refl _)
  have h3 : (Lib.splitB ⟨#[45]⟩ 0 (Lib.countB s ⟨#[45]⟩) s).map (·.data.toList) = splitH s.data.toList := h.trans h2
  rw [← h3, List.map_map]
  conv => lhs; rw [← List.map_id (Lib.splitB ⟨#[45]⟩ 0 (Lib.countB s ⟨#[45]⟩) s)]
  exact List.map_congr_left fun x _ => (mk_of x).symm

/-- The library's own limit lies where it is laid. -/
def MaxAt (W : World) : Prop := 1 < W.heap.size ∧ ∃ m : Int, W.cell? ⟨1, 0, none⟩ = some (.int .i64 m)
theorem MaxAt.below {A B : World} {n : Nat} (h : MaxAt A) (hb : Below n A B) (hn : A.heap.size ≤ n) : MaxAt B := by
  obtain ⟨h1, m, hm⟩ := h
  exact ⟨Nat.lt_of_lt_of_le h1 hb.size, m, (hb.cell (p := ⟨1, 0, none⟩) (Nat.lt_of_lt_of_le h1 hn)).trans hm⟩

theorem splitS_any (s : ByteArray) (w : World) (hs : s.size ≤ 100000) (hM : MaxAt w) :
    Calls Tryd.prog 16 #[.string s, .string ⟨#[45]⟩] w fun e w' => e = .returned (.slice (some ⟨w.heap.size, 0, none⟩) (splitH s.data.toList).length (splitH s.data.toList).length) ∧
      (∀ (j : Nat) p, (splitH s.data.toList)[j]? = some p → w'.cell? ⟨w.heap.size, 0 + j, none⟩ = some (.string (mk p))) ∧ w.heap.size < w'.heap.size ∧ Below w.heap.size w w' := by
  obtain ⟨_, m, hm⟩ := hM
  refine (Tryd.strings_Split s ⟨#[45]⟩ m w (by omega) hm (by decide)).mono ?_
  rintro e w' ⟨rfl, rfl⟩
  have hl : Lib.countB s ⟨#[45]⟩ + 1 = (splitH s.data.toList).length := (splitK_len s.data.toList.length s.data.toList (Nat.le_refl _)).symm
  refine ⟨by rw [hl], ?_, by simp, (Below.refl _ w).alloc (Nat.le_refl _) _⟩
  intro j p hp
  rw [splitB_mk]
  unfold World.cell?
  rw [World.alloc_heap_new]
  simp [hp]

theorem isLang_mk (p : List UInt8) (w : World) (h : p.length ≤ 100000) : Calls Tryd.prog 17 #[.string (mk p)] w fun e w' => e = .returned (.bool (langB p)) ∧ w' = w :=
  isLang_any (mk p) w (by rw [mk_size]; unfold maxLen; omega)
theorem isScript_mk (p : List UInt8) (w : World) (h : p.length ≤ 100000) : Calls Tryd.prog 19 #[.string (mk p)] w fun e w' => e = .returned (.bool (scriptB p)) ∧ w' = w :=
  isScript_any (mk p) w (by rw [mk_size]; unfold maxLen; omega)
theorem isRegion_mk (p : List UInt8) (w : World) (h : p.length ≤ 100000) : Calls Tryd.prog 21 #[.string (mk p)] w fun e w' => e = .returned (.bool (regionB p)) ∧ w' = w :=
  isRegion_any (mk p) w (by rw [mk_size]; unfold maxLen; omega)
theorem isVariant_mk (p : List UInt8) (w : World) (h : p.length ≤ 100000) : Calls Tryd.prog 22 #[.string (mk p)] w fun e w' => e = .returned (.bool (variantB p)) ∧ w' = w :=
  isVariant_any (mk p) w (by rw [mk_size]; unfold maxLen; omega)

theorem ascii_of {p : List UInt8} (h : p.all letDigB = true) : ∀ (j : Nat) (b : UInt8), p[j]? = some b → b.toNat < 128 := by
  intro j b hb
  exact ld_128 b (List.all_eq_true.1 h b (List.mem_of_getElem? hb))
theorem low_mk (p : List UInt8) (hp : p.all letDigB = true) (hl : p.length ≤ 100000) (w : World) :
    Calls Tryd.prog 18 #[.string (mk p)] w fun e w' => e = .returned (.string (mk (low p))) ∧ Below w.heap.size w w' :=
  Tryd.strings_ToLower_ascii (mk p) w (by rw [mk_size]; omega) (ascii_of hp)
theorem upp_mk (p : List UInt8) (hp : p.all letDigB = true) (hl : p.length ≤ 100000) (w : World) :
    Calls Tryd.prog 20 #[.string (mk p)] w fun e w' => e = .returned (.string (mk (upp p))) ∧ Below w.heap.size w w' :=
  Tryd.strings_ToUpper_ascii (mk p) w (by rw [mk_size]; omega) (ascii_of hp)
theorem all_imp {p q : UInt8 → Bool} (h : ∀ c, p c = true → q c = true) {l : List UInt8} (hl : l.all p = true) : l.all q = true :=
  List.all_eq_true.2 fun c hc => h c (List.all_eq_true.1 hl c hc)
theorem lang_ld {p : List UInt8} (h : langB p = true) : p.all letDigB = true := by
  unfold langB at h; simp only [Bool.and_eq_true] at h; exact all_imp let_ld h.2
theorem script_ld {p : List UInt8} (h : scriptB p = true) : p.all letDigB = true := by
  unfold scriptB at h; simp only [Bool.and_eq_true] at h; exact all_imp let_ld h.2
theorem region_ld {p : List UInt8} (h : regionB p = true) : p.all letDigB = true := by
  unfold regionB at h; simp only [Bool.or_eq_true, Bool.and_eq_true] at h
  rcases h with h | h
  · exact all_imp let_ld h.2
  · exact all_imp dig_ld h.2
theorem variant_ld {p : List UInt8} (h : variantB p = true) : p.all letDigB = true := by
  unfold variantB at h; simp only [Bool.and_eq_true] at h; exact h.2.2

theorem all_part {q : UInt8 → Bool} {p : List UInt8} (h : p.all q = true) (a b : Nat) : ((p.take b).drop a).all q = true :=
  List.all_eq_true.2 fun c hc => List.all_eq_true.1 h c (List.mem_of_mem_take (List.mem_of_mem_drop hc))
theorem lowE (p : List UInt8) (hp : p.all letDigB = true) (hl : p.length ≤ 100000) (a b : Nat) (w : World) :
    Calls Tryd.prog 18 #[.string ((mk p).extract a b)] w fun e w' => e = .returned (.string (mk (low ((p.take b).drop a)))) ∧ Below w.heap.size w w' := by
  rw [mk_extract]
  exact low_mk _ (all_part hp a b) (by simp; omega) w
theorem uppE (p : List UInt8) (hp : p.all letDigB = true) (hl : p.length ≤ 100000) (a b : Nat) (w : World) :
    Calls Tryd.prog 20 #[.string ((mk p).extract a b)] w fun e w' => e = .returned (.string (mk (upp ((p.take b).drop a)))) ∧ Below w.heap.size w w' := by
  rw [mk_extract]
  exact upp_mk _ (all_part hp a b) (by simp; omega) w
theorem script_len {p : List UInt8} (h : scriptB p = true) : p.length = 4 := by
  unfold scriptB at h; simp only [Bool.and_eq_true, beq_iff_eq] at h; exact h.1

/-- A block of four cells that may be written. -/
def Box4 (W : World) (b : Nat) (v0 v1 v2 v3 : Value) : Prop :=
  W.cell? ⟨b, 0, none⟩ = some v0 ∧ W.cell? ⟨b, 1, none⟩ = some v1 ∧ W.cell? ⟨b, 2, none⟩ = some v2 ∧ W.cell? ⟨b, 3, none⟩ = some v3 ∧
  W.frozen? ⟨b, 0, none⟩ = false ∧ W.frozen? ⟨b, 1, none⟩ = false ∧ W.frozen? ⟨b, 2, none⟩ = false ∧ W.frozen? ⟨b, 3, none⟩ = false ∧ b < W.heap.size
theorem Box4.new (w : World) (v0 v1 v2 v3 : Value) (t : TypeId) : Box4 (w.alloc (.cells #[v0, v1, v2, v3] t)) w.heap.size v0 v1 v2 v3 := by
  have h := World.alloc_heap_new w (.cells #[v0, v1, v2, v3] t)
  refine ⟨?_, ?_, ?_, ?_, ?_, ?_, ?_, ?_, by simp⟩
  all_goals first | (unfold World.cell?; rw [h]; rfl) | (unfold World.frozen?; rw [h]; rfl)
theorem Box4.later {A B : World} {b : Nat} {v0 v1 v2 v3 : Value} (h : Box4 A b v0 v1 v2 v3) {n : Nat} (hb : Below n A B) (hn : b < n) : Box4 B b v0 v1 v2 v3 := by
  obtain ⟨c0, c1, c2, c3, f0, f1, f2, f3, z⟩ := h
  exact ⟨(hb.cell (p := ⟨b, 0, none⟩) hn).trans c0, (hb.cell (p := ⟨b, 1, none⟩) hn).trans c1, (hb.cell (p := ⟨b, 2, none⟩) hn).trans c2, (hb.cell (p := ⟨b, 3, none⟩) hn).trans c3,
    (hb.frozen (p := ⟨b, 0, none⟩) hn).trans f0, (hb.frozen (p := ⟨b, 1, none⟩) hn).trans f1, (hb.frozen (p := ⟨b, 2, none⟩) hn).trans f2, (hb.frozen (p := ⟨b, 3, none⟩) hn).trans f3, Nat.lt_of_lt_of_le z hb.size⟩
theorem Box4.other {W : World} {b b' o : Nat} {x v0 v1 v2 v3 : Value} (h : Box4 W b v0 v1 v2 v3) (hne : b' ≠ b) : Box4 (W.setCell ⟨b', o, none⟩ x) b v0 v1 v2 v3 := by
  obtain ⟨c0, c1, c2, c3, f0, f1, f2, f3, z⟩ := h
  refine ⟨?_, ?_, ?_, ?_, by simpa using f0, by simpa using f1, by simpa using f2, by simpa using f3, by simpa using z⟩
  all_goals rw [World.cell?_setCell_other _ _ _ _ (by simp [hne])]; assumption
theorem Box4.set1 {W : World} {b : Nat} {x v0 v1 v2 v3 : Value} (h : Box4 W b v0 v1 v2 v3) : Box4 (W.setCell ⟨b, 1, none⟩ x) b v0 x v2 v3 := by
  obtain ⟨c0, c1, c2, c3, f0, f1, f2, f3, z⟩ := h
  refine ⟨?_, World.cell?_setCell_same _ _ _ c1, ?_, ?_, by simpa using f0, by simpa using f1, by simpa using f2, by simpa using f3, by simpa using z⟩
  all_goals rw [World.cell?_setCell_other _ _ _ _ (by simp)]; assumption
theorem Box4.set2 {W : World} {b : Nat} {x v0 v1 v2 v3 : Value} (h : Box4 W b v0 v1 v2 v3) : Box4 (W.setCell ⟨b, 2, none⟩ x) b v0 v1 x v3 := by
  obtain ⟨c0, c1, c2, c3, f0, f1, f2, f3, z⟩ := h
  refine ⟨?_, ?_, World.cell?_setCell_same _ _ _ c2, ?_, by simpa using f0, by simpa using f1, by simpa using f2, by simpa using f3, by simpa using z⟩
  all_goals rw [World.cell?_setCell_other _ _ _ _ (by simp)]; assumption
theorem Box4.set3 {W : World} {b : Nat} {x v0 v1 v2 v3 : Value} (h : Box4 W b v0 v1 v2 v3) : Box4 (W.setCell ⟨b, 3, none⟩ x) b v0 v1 v2 x := by
  obtain ⟨c0, c1, c2, c3, f0, f1, f2, f3, z⟩ := h
  refine ⟨?_, ?_, ?_, World.cell?_setCell_same _ _ _ c3, by simpa using f0, by simpa using f1, by simpa using f2, by simpa using f3, by simpa using z⟩
  all_goals rw [World.cell?_setCell_other _ _ _ _ (by simp)]; assumption

/-- What stands in the world while Parse goes on: what is left of the parts, the zero tag, the tag. -/
structure TgS (w W : World) (r : List (List UInt8)) (bp o b2 b5 : Nat) (L S R : ByteArray) (vv : Value) : Prop where
  below : Below w.heap.size w W
  rest : ∀ (j : Nat) p, r[j]? = some p → W.cell? ⟨bp, o + j, none⟩ = some (.string (mk p))
  bpl : bp < W.heap.size
  x2 : Box4 W b2 (.string ⟨#[]⟩) (.string ⟨#[]⟩) (.string ⟨#[]⟩) (.slice none 0 0)
  x5 : Box4 W b5 (.string L) (.string S) (.string R) vv
  n2 : w.heap.size ≤ b2
  n5 : w.heap.size ≤ b5
  d25 : b2 ≠ b5
  dp5 : bp ≠ b5
theorem TgS.later {w W W1 : World} {r : List (List UInt8)} {bp o b2 b5 : Nat} {L S R : ByteArray} {vv : Value} (h : TgS w W r bp o b2 b5 L S R vv) (hb : Below W.heap.size W W1) : TgS w W1 r bp o b2 b5 L S R vv :=
  ⟨below_then h.below (Nat.le_refl _) hb, fun j p hp => (hb.cell (p := ⟨bp, o + j, none⟩) h.bpl).trans (h.rest j p hp), Nat.lt_of_lt_of_le h.bpl hb.size, h.x2.later hb h.x2.2.2.2.2.2.2.2.2, h.x5.later hb h.x5.2.2.2.2.2.2.2.2, h.n2, h.n5, h.d25, h.dp5⟩
theorem TgS.drew {w W : World} {r : List (List UInt8)} {bp o b2 b5 : Nat} {L S R : ByteArray} {vv : Value} (h : TgS w W r bp o b2 b5 L S R vv) : TgS w W.drew r bp o b2 b5 L S R vv := h.later (Below.refl _ _).drew
theorem TgS.set {w W : World} {r : List (List UInt8)} {bp o b2 b5 : Nat} {L S R : ByteArray} {vv : Value} (h : TgS w W r bp o b2 b5 L S R vv) {k : Nat} {x : Value} {L' S' R' : ByteArray} {vv' : Value} (h5 : Box4 (W.setCell ⟨b5, k, none⟩ x) b5 (.string L') (.string S') (.string R') vv') :
    TgS w (W.setCell ⟨b5, k, none⟩ x) r bp o b2 b5 L' S' R' vv' :=
  ⟨h.below.setCell h.n5 _, fun j p hp => by rw [World.cell?_setCell_other _ _ _ _ (by simp [h.dp5.symm])]; exact h.rest j p hp, by simpa using h.bpl, h.x2.other h.d25.symm, h5, h.n2, h.n5, h.d25, h.dp5⟩
theorem TgS.next {w W : World} {p : List UInt8} {r : List (List UInt8)} {bp o b2 b5 : Nat} {L S R : ByteArray} {vv : Value} (h : TgS w W (p :: r) bp o b2 b5 L S R vv) : TgS w W r bp (o + 1) b2 b5 L S R vv :=
  { h with rest := fun j q hq => by rw [show o + 1 + j = o + (j + 1) by omega]; exact h.rest (j + 1) q (by simpa using hq) }
theorem TgS.gone {w W : World} {p : List UInt8} {bp o b2 b5 : Nat} {L S R : ByteArray} {vv : Value} (h : TgS w W [p] bp o b2 b5 L S R vv) : TgS w W [] bp o b2 b5 L S R vv :=
  { h with rest := fun j q hq => by simp at hq }
theorem TgS.laterB {w W W1 : World} {r : List (List UInt8)} {bp o b2 b5 : Nat} {L S R : ByteArray} {vv : Value} (h : TgS w W r bp o b2 b5 L S R vv) {n : Nat} (hb : Below n W W1) (hp : bp < n) (h2 : b2 < n) (h5 : b5 < n) : TgS w W1 r bp o b2 b5 L S R vv :=
  ⟨h.below.trans (hb.mono (by have := h.n2; omega)), fun j p hq => (hb.cell (p := ⟨bp, o + j, none⟩) hp).trans (h.rest j p hq), Nat.lt_of_lt_of_le h.bpl hb.size, h.x2.later hb h2, h.x5.later hb h5, h.n2, h.n5, h.d25, h.dp5⟩
theorem ownsRow_later {W W1 : World} {base : Nat} {e : TypeId} {size : Nat} {v : Value} {k : Nat} {xs : List Value} (h : W.ownsRow base e size v k xs) (hb : Below W.heap.size W W1) : W1.ownsRow base e size v k xs := by
  refine ⟨h.1, ?_⟩
  rcases h.2 with hn | ⟨g, cap, cur, hv, hbg, hg, rest⟩
  · exact .inl hn
  · exact .inr ⟨g, cap, cur, hv, hbg, (hb.block g (Array.getElem?_eq_some_iff.1 hg).1).trans hg, rest⟩
theorem ownsRow_set {W : World} {base : Nat} {e : TypeId} {size : Nat} {v : Value} {k : Nat} {xs : List Value} (h : W.ownsRow base e size v k xs) {b o : Nat} (hb : b < base) (x : Value) : (W.setCell ⟨b, o, none⟩ x).ownsRow base e size v k xs := by
  refine ⟨h.1, ?_⟩
  rcases h.2 with hn | ⟨g, cap, cur, hv, hbg, hg, rest⟩
  · exact .inl hn
  · exact .inr ⟨g, cap, cur, hv, hbg, (Below.heap_setCell W ⟨b, o, none⟩ x g (by simp; omega)).trans hg, rest⟩
/-- Between two rounds over the variants. -/
def VarAt (w : World) (q : List (List UInt8)) (bp o b2 b5 : Nat) (L S R : ByteArray) (B : Nat) (k : Nat) (W : World) : Prop :=
  ∃ A c, k ≤ c ∧ TgS w W q bp o b2 b5 L S R (.slice A k c) ∧ W.ownsRow B 9 1 (.slice A k c) k (((q.take k).map low).map fun l => Value.string (mk l)) ∧ B ≤ W.heap.size ∧ bp < B ∧ b2 < B ∧ b5 < B
theorem VarAt.start {w W : World} {q : List (List UInt8)} {bp o b2 b5 : Nat} {L S R : ByteArray} (h : TgS w W q bp o b2 b5 L S R (.slice none 0 0)) : VarAt w q bp o b2 b5 L S R W.heap.size 0 W :=
  ⟨none, 0, Nat.le_refl _, h, World.ownsRow_nil _ _ _ _, Nat.le_refl _, h.bpl, h.x2.2.2.2.2.2.2.2.2, h.x5.2.2.2.2.2.2.2.2⟩
/-- One variant more. -/
theorem VarAt.more {w W W1 w' : World} {q : List (List UInt8)} {bp o b2 b5 : Nat} {L S R : ByteArray} {B k : Nat} {ob : Obj} {A A' : Option Addr} {c c' : Nat} {p : List UInt8} {xs : List Value}
    (hT : TgS w W q bp o b2 b5 L S R (.slice A k c)) (hB : B ≤ W.heap.size) (hp : bp < B) (h2 : b2 < B) (h5 : b5 < B) (hr : W.ownsRow B 9 1 (.slice A k c) k xs)
    (hb : Below W.drew.heap.size W.drew W1) (hg : (W1.alloc ob).grownBy w' (Value.slice A k c).ownBlock) (hown : w'.ownsRow B 9 1 (.slice A' (k + 1) c') (k + 1) (xs ++ [.string (mk (low p))])) (hk : k + 1 ≤ c') (hx : xs = ((q.take k).map low).map fun l => Value.string (mk l)) (hq : q[k]? = some p) :
    VarAt w q bp o b2 b5 L S R B (k + 1) (w'.setCell ⟨b5, 3, none⟩ (.slice A' (k + 1) c')) := by
  have z1 : W.heap.size ≤ W1.heap.size := hb.size
  have hBl : Below B W w' := by
    refine Below.grown (((Below.refl B W).drew.trans (hb.mono hB)).alloc (by omega) ob) hg (by simp; omega) (fun j e => (ownsRow_later hr (below_drew hb)).lt j e |>.1)
  have hT2 := hT.laterB hBl hp h2 h5
  refine ⟨A', c', hk, hT2.set hT2.x5.set3, ?_, by simpa using Nat.le_trans hB hBl.size, hp, h2, h5⟩
  have e : ((q.take (k + 1)).map low).map (fun l => Value.string (mk l)) = xs ++ [.string (mk (low p))] := by
    rw [hx]
    obtain ⟨hlt, hq'⟩ := List.getElem?_eq_some_iff.1 hq
    rw [List.take_succ_eq_append_getElem hlt, hq']
    simp
  rw [e]
  exact ownsRow_set hown h5 _
end Go.Proofs.YtldmldgkjkgkcaaDoor
