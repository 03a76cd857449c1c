/-
  Several texts put together (part 2): what the law and the program call, walked; their contracts.
-/
import Derived.Test.YtminidoiaplhjaaDoorZv
import Derived.Test.YtminidoiaplhjaaDoorZw
import Derived.Test.YtminidoiaplhjaaDoorU1
namespace Go.Proofs.YtminidoiaplhjaaDoor
open Go.RowKit
set_option linter.unusedVariables false
set_option linter.unusedSimpArgs false
theorem head_len (m : Nat) (l : List EL) : (headG m l).length ≤ m + 1 := by
  unfold headG
  split <;> simp [sps]
theorem refG_len (k : Int) (n a : ByteArray) : (refG k n a).length ≤ n.size + a.size + 2 := by
  unfold refG
  simp only [List.length_append, size_data]
  split <;> split <;> simp [size_data] <;> omega
theorem nameG_len (f : Bool) (n : ByteArray) : (nameG f n).length ≤ n.size + 4 := by
  unfold nameG
  simp only [List.length_append]
  split <;> split <;> simp [size_data] <;> omega
theorem inlG_len (k : Int) (t n a : ByteArray) (b : Bool) (args inner : List UInt8) : (inlG k t n a b args inner).length ≤ 6 * t.size + n.size + a.size + 6 + args.length + inner.length := by
  have h1 := quoteAll_len t
  have h2 := refG_len k n a
  unfold inlG
  split
  · omega
  split
  · rw [size_data]; omega
  split
  · rw [List.length_cons, size_data]; omega
  split
  · omega
  rw [List.length_append]
  split
  · simp; omega
  · simp; omega
mutual
theorem exT_len (M : Nat) : ∀ (e : EX) (m : Nat), m + 8 * e.size ≤ M → (exT m e).length + (M + 10) ≤ (2 * M + 20) * e.size ∧ (plT m e).length ≤ (2 * M + 20) * e.size
  | .mk k t n a al i vs, m, h => by
    rw [EX.size] at h ⊢
    have hA := asT_len M al m true (by omega)
    have hO := plO_len M i m (by omega)
    have hX := exO_len M i m (by omega)
    have hV := vsT_len M vs m (by omega)
    have hI := inlG_len k t n a al.isEmpty (asT m true al) (plO m i)
    have p1 := Nat.mul_le_mul_right t.size (show 6 ≤ 2 * M + 20 by omega)
    have p2 := Nat.mul_le_mul_right n.size (show 1 ≤ 2 * M + 20 by omega)
    have p3 := Nat.mul_le_mul_right a.size (show 1 ≤ 2 * M + 20 by omega)
    simp only [Nat.mul_add, Nat.mul_one]
    rw [exT, plT]
    refine ⟨by omega, ?_⟩
    split
    · simp [sps]; omega
    · simp; omega
theorem plO_len (M : Nat) : ∀ (i : Option EX) (m : Nat), m + 8 * sizeO i ≤ M → (plO m i).length ≤ (2 * M + 20) * sizeO i
  | none, m, h => by rw [plO]; simp
  | some e, m, h => by
    rw [sizeO] at h ⊢
    rw [plO]
    exact (exT_len M e m h).2
theorem exO_len (M : Nat) : ∀ (i : Option EX) (m : Nat), m + 8 * sizeO i ≤ M → (exO m i).length ≤ (2 * M + 20) * sizeO i
  | none, m, h => by rw [exO]; simp
  | some e, m, h => by
    rw [sizeO] at h ⊢
    rw [exO]
    have := (exT_len M e m h).1
    omega
theorem asT_len (M : Nat) : ∀ (al : List AR) (m : Nat) (f : Bool), m + 8 * sizeAs al ≤ M → (asT m f al).length ≤ (2 * M + 20) * sizeAs al
  | [], m, f, h => by rw [asT]; simp
  | .mk n e :: r, m, f, h => by
    rw [sizeAs] at h ⊢
    have h1 := (exT_len M e m (by omega)).1
    have h2 := asT_len M r m false (by omega)
    have h3 := nameG_len f n
    have p2 := Nat.mul_le_mul_right n.size (show 1 ≤ 2 * M + 20 by omega)
    rw [asT]
    simp only [Nat.mul_add, Nat.mul_one, List.length_append]
    omega
theorem vsT_len (M : Nat) : ∀ (vs : List VA) (m : Nat), m + 8 * sizeVs vs ≤ M → (vsT m vs).length ≤ (2 * M + 20) * sizeVs vs
  | [], m, h => by rw [vsT]; simp
  | .mk k d v :: r, m, h => by
    rw [sizeVs] at h ⊢
    have h1 := esT_len M v (m + 8) (by omega)
    have h2 := vsT_len M r m (by omega)
    have h3 := head_len (m + 8) v
    have p2 := Nat.mul_le_mul_right k.size (show 1 ≤ 2 * M + 20 by omega)
    rw [vsT]
    simp only [Nat.mul_add, Nat.mul_one, List.length_append, List.length_cons, size_data]
    simp only [sps, List.length_replicate]
    omega
theorem esT_len (M : Nat) : ∀ (l : List EL) (m : Nat), m + 8 * sizeEs l ≤ M → (esT m l).length ≤ (2 * M + 20) * sizeEs l
  | [], m, h => by rw [esT]; simp
  | .mk t none :: r, m, h => by
    rw [sizeEs] at h ⊢
    have h2 := esT_len M r m (by omega)
    have h3 := lineG_len (sps m) t.data.toList
    rw [size_data] at h3
    have h4 := Nat.mul_le_mul_right t.size (show 1 + (sps m).length ≤ 2 * M + 20 by simp [sps]; omega)
    rw [esT]
    simp only [Nat.mul_add, Nat.mul_one, List.length_append]
    omega
  | .mk t (some e) :: r, m, h => by
    rw [sizeEs, sizeO] at h ⊢
    have h1 := (exT_len M e m (by omega)).2
    have h2 := esT_len M r m (by omega)
    rw [esT]
    simp only [Nat.mul_add, Nat.mul_one, List.length_append]
    omega
end
theorem paT_len (M m : Nat) (l : List EL) (h : m + 8 * sizeEs l ≤ M) : (paT m l).length ≤ (2 * M + 20) * sizeEs l + (m + 1) := by
  have h1 := esT_len M l m h
  have h2 := head_len m l
  unfold paT
  rw [List.length_append]; omega
theorem atsT_len (M : Nat) : ∀ l : List AT, 8 + 8 * sizeTs l ≤ M → (atsT l).length ≤ (2 * M + 20) * sizeTs l
  | [], h => by rw [atsT]; simp
  | .mk n v :: r, h => by
    rw [sizeTs] at h ⊢
    have h1 := paT_len M 8 v (by omega)
    have h2 := atsT_len M r (by omega)
    have p2 := Nat.mul_le_mul_right n.size (show 1 ≤ 2 * M + 20 by omega)
    rw [atsT]
    simp only [Nat.mul_add, Nat.mul_one, List.length_append, List.length_cons, size_data]
    omega
def EV.sz (x : EV) : Nat := x.tx.size + x.nm.size + sizeEs x.val + sizeTs x.ats
theorem ent_len (M : Nat) (x : EV) (hf : x.fit) (h3 : x.ty ≠ 3) (h : 8 + 8 * x.sz ≤ M) : x.text.length ≤ (2 * M + 20) * x.sz + (2 * M + 20) := by
  obtain ⟨ty, lv, tx, nm, val, ats, A, c, A2, c2, fr, tu⟩ := x
  unfold EV.text EV.sz EV.fit entT at *
  dsimp only at *
  rw [if_neg h3]
  have p1 := Nat.mul_le_mul_right tx.size (show 5 ≤ 2 * M + 20 by omega)
  have p2 := Nat.mul_le_mul_right nm.size (show 1 ≤ 2 * M + 20 by omega)
  have q1 := paT_len M 4 val (by omega)
  have q2 := atsT_len M ats (by omega)
  simp only [Nat.mul_add]
  rcases hf with ⟨rfl, h1, h4⟩ | ⟨hty, hg, hgt⟩ | h5
  · rw [if_pos rfl]
    have hc := comT_len (List.replicate lv.toNat 35) tx.data.toList []
    rw [List.length_nil, List.length_replicate, size_data] at hc
    have hc2 := Nat.mul_le_mul_right (tx.size + 1) (show lv.toNat + 2 ≤ 5 by omega)
    omega
  · rw [if_neg (by omega)]
    simp only [List.length_append, List.length_cons, size_data]
    split <;> split <;> simp <;> omega
  · exact absurd h5 h3
theorem ent_ne (x : EV) (hf : x.fit) (h3 : x.ty ≠ 3) : x.text ≠ [] := by
  obtain ⟨ty, lv, tx, nm, val, ats, A, c, A2, c2, fr, tu⟩ := x
  unfold EV.text EV.fit entT at *
  dsimp only at *
  rw [if_neg h3]
  rcases hf with ⟨rfl, h1, h4⟩ | ⟨hty, hg, hgt⟩ | h5
  · rw [if_pos rfl]
    obtain ⟨n, hn⟩ : ∃ n, lv.toNat = n + 1 := ⟨lv.toNat - 1, by omega⟩
    rcases com_of (List.replicate lv.toNat 35) tx.data.toList with ⟨A', R, m, _, h, _⟩
    rw [h]
    unfold comL
    simp
  · rw [if_neg (by omega)]
    simp
  · exact absurd h5 h3
def wtsE : List EV → Nat
  | [] => 0
  | x :: r => x.sz + wtsE r
theorem wtsE_app : ∀ a b : List EV, wtsE (a ++ b) = wtsE a + wtsE b
  | [], b => by rw [List.nil_append, wtsE]; omega
  | x :: r, b => by rw [List.cons_append, wtsE, wtsE, wtsE_app r b]; omega
theorem wtsE_get : ∀ (l : List EV) (x : EV), x ∈ l → x.sz ≤ wtsE l
  | y :: r, x, h => by
    rw [wtsE]
    rcases List.mem_cons.1 h with rfl | h
    · omega
    · have := wtsE_get r x h; omega
theorem resN_len (C : Nat) (l : List EV) (h : ∀ x ∈ l, x.text.length ≤ C * x.sz + C) : ∀ j, j ≤ l.length → (resN l j).length ≤ C * wtsE (l.take j) + j * (C + 1)
  | 0, _ => by show 0 ≤ _; omega
  | j + 1, hj => by
    have ih := resN_len C l h j (by omega)
    obtain ⟨y, hy⟩ : ∃ y, l[j]? = some y := ⟨_, List.getElem?_eq_getElem hj⟩
    rw [resN_succ, piece_some l j y hy, take_snoc l j y hy, wtsE_app, wtsE, wtsE]
    have h1 := h y (List.mem_of_getElem? hy)
    have h2 : (sepT l j y).length ≤ 1 := by
      unfold sepT
      split
      · simp
      · split
        · simp
        · split <;> simp
    simp only [List.length_append, Nat.mul_add, Nat.add_mul, Nat.one_mul, Nat.mul_one, Nat.mul_zero] at ih ⊢
    omega
theorem resT_len (C : Nat) (l : List EV) (h : ∀ x ∈ l, x.text.length ≤ C * x.sz + C) : (resT l).length ≤ C * wtsE l + l.length * (C + 1) := by
  have := resN_len C l h l.length (Nat.le_refl _)
  rw [List.take_of_length_le (Nat.le_refl _)] at this
  exact this
end Go.Proofs.YtminidoiaplhjaaDoor

namespace Go.Proofs.YtminidoiaplhjaaDoor
open Go.RowKit
set_option linter.unusedVariables false
set_option linter.unusedSimpArgs false
def eh : EX := .mk 1 ⟨#[49]⟩ ⟨#[]⟩ ⟨#[]⟩ [] none []
def lh : List EL := [.mk ⟨#[]⟩ (some eh), .mk ⟨#[120, 10, 121]⟩ none]
def xh (b : Nat) : EV := ⟨1, 0, ⟨#[]⟩, ⟨#[97]⟩, lh, [], some ⟨b, 0, none⟩, 2, none, 0, 0, 0⟩
theorem xh_text (b : Nat) : (xh b).text = [97, 32, 61, 10, 32, 32, 32, 32, 123, 32, 49, 32, 125, 120, 10, 32, 32, 32, 32, 121, 10] := by
  show entT 1 0 ⟨#[]⟩ ⟨#[97]⟩ lh [] = _
  decide +kernel
theorem xh_fit (b : Nat) : (xh b).fit := by
  refine Or.inr (Or.inl ⟨Or.inl rfl, ?_, fun n v h => ?_⟩)
  · show gdEs lh = true
    decide +kernel
  · exact absurd h (by simp [xh])
theorem lie_nil {P : Nat → Nat → Prop} : LieAt P (.slice none 0 0) 0 := ⟨none, 0, rfl, Nat.le_refl _, Nat.zero_le _, fun h => absurd h (by simp)⟩
theorem xh_at {W : World} {k : Nat} (B1 : BoxAt W k #[.int .i64 1, .string ⟨#[49]⟩, .string ⟨#[]⟩, .string ⟨#[]⟩, .slice none 0 0, .pointer none, .slice none 0 0] 37)
    (B2 : BoxAt W (k + 1) #[.string ⟨#[]⟩, .pointer (some ⟨k, 0, none⟩), .string ⟨#[120, 10, 121]⟩, .pointer none] 39) : (xh (k + 1)).At W := by
  refine ⟨⟨some ⟨k + 1, 0, none⟩, 2, rfl, Nat.le_refl _, by decide, fun _ => ⟨k + 1, 0, rfl, ?_⟩⟩, lie_nil, Nat.zero_le _, by show 8 + 2 * (sizeEs lh + sizeTs []) ≤ 4000000; decide +kernel⟩
  show EsAt W lh (k + 1) 0
  unfold lh
  rw [EsAt]
  refine ⟨B2.lt, B2.cell 0, ⟨_, B2.cell 1, ?_⟩, ?_⟩
  · simp only [OAt]
    refine ⟨k, 0, ⟨.int .i64 1, .string ⟨#[49]⟩, .string ⟨#[]⟩, .string ⟨#[]⟩, .slice none 0 0, .pointer none, .slice none 0 0⟩, rfl, B1.lt, ⟨B1.cell 0, B1.cell 1, B1.cell 2, B1.cell 3, B1.cell 4, B1.cell 5, B1.cell 6⟩, ?_⟩
    unfold eh
    rw [ExAt]
    exact ⟨rfl, rfl, rfl, rfl, lie_nil, by simp only [OAt], lie_nil⟩
  · rw [EsAt]
    exact ⟨B2.lt, B2.cell 2, ⟨.pointer none, B2.cell 3, by simp only [OAt]⟩, by rw [EsAt]; trivial⟩
set_option maxHeartbeats 2000000 in
set_option maxRecDepth 100000 in
theorem head10_any (w : World) (hM : MxW w) : Calls Tryd.prog 4 #[] w fun e w' => e = .returned (.bool true) ∧ Below w.heap.size w w' := by
  obtain ⟨O1, hO1⟩ : ∃ o : Obj, o = .cells #[.int .i64 1, .string ⟨#[49]⟩, .string ⟨#[]⟩, .string ⟨#[]⟩, .slice none 0 0, .pointer none, .slice none 0 0] 37 := ⟨_, rfl⟩
  obtain ⟨O2, hO2⟩ : ∃ o : Obj, o = .cells #[.string ⟨#[]⟩, .pointer (some ⟨w.heap.size, 0, none⟩), .string ⟨#[120, 10, 121]⟩, .pointer none] 39 := ⟨_, rfl⟩
  obtain ⟨O3, hO3⟩ : ∃ o : Obj, o = .cells #[.int .i64 1, .int .i64 0, .string ⟨#[]⟩, .string ⟨#[97]⟩, .slice (some ⟨w.heap.size + 1, 0, none⟩) 2 2, .slice none 0 0, .int .i64 0, .int .i64 0] 29 := ⟨_, rfl⟩
  obtain ⟨W1, hW1⟩ : ∃ W, W = ((w.alloc O1).alloc O2).alloc O3 := ⟨_, rfl⟩
  have hB : Below w.heap.size w W1 := by
    rw [hW1]
    exact (((Below.refl _ _).alloc (Nat.le_refl _) _).alloc (by simp) _).alloc (by simp; omega) _
  have B1 : BoxAt W1 w.heap.size #[.int .i64 1, .string ⟨#[49]⟩, .string ⟨#[]⟩, .string ⟨#[]⟩, .slice none 0 0, .pointer none, .slice none 0 0] 37 := by
    rw [hW1, hO1]
    exact ((BoxAt.new w _ _).alloc _).alloc _
  have B2 : BoxAt W1 (w.heap.size + 1) #[.string ⟨#[]⟩, .pointer (some ⟨w.heap.size, 0, none⟩), .string ⟨#[120, 10, 121]⟩, .pointer none] 39 := by
    rw [hW1, hO2]
    exact (BoxAt.new' _ _ _ _ (by simp)).alloc _
  have hc := sentry_any (W0 := W1) (hM.below hB (Nat.le_refl _)) (xh (w.heap.size + 1)) (xh_at B1 B2) (xh_fit _) (by rw [xh_text]; simp) (by rw [xh_text]; decide) W1 (Below.refl _ _)
  rw [xh_text] at hc
  have HC : Hid (Calls Tryd.prog 6 #[.agg #[.int .i64 1, .int .i64 0, .string ⟨#[]⟩, .string ⟨#[97]⟩, .slice (some ⟨w.heap.size + 1, 0, none⟩) 2 2, .slice none 0 0, .int .i64 0, .int .i64 0]] W1 fun e w' => e = .returned (.string ⟨#[97, 32, 61, 10, 32, 32, 32, 32, 123, 32, 49, 32, 125, 120, 10, 32, 32, 32, 32, 121, 10]⟩) ∧ Below W1.heap.size W1 w') := hc
  have HB := Lib.hid hB
  have HW1 := Lib.hid hW1
  have H1 := Lib.hid hO1
  have H2 := Lib.hid hO2
  have H3 := Lib.hid hO3
  clear hc B1 B2 hB hM hW1 hO1 hO2 hO3
  go_enter Tryd.func4, Tryd.ntmps4
  go_wp2_with fail
  rw [← H1.out, ← H2.out, ← H3.out, ← HW1.out]
  go_at_call 6
  refine HC.out.mono ?_
  rintro e w2 ⟨rfl, h2⟩
  have HB2 := Lib.hid (HB.out.trans (h2.mono HB.out.size))
  clear h2
  go_wp2
  go_ret
  exact ⟨rfl, HB2.out⟩
end Go.Proofs.YtminidoiaplhjaaDoor

namespace Go.Proofs.YtminidoiaplhjaaDoor
open Go.RowKit
set_option linter.unusedVariables false
set_option linter.unusedSimpArgs false
set_option maxHeartbeats 8000000 in
set_option maxRecDepth 100000 in
theorem ltexts_any {W0 : World} (hM : MxW W0) (hT : TabU W0) (l : List EV) (hl : l.length ≤ 1048576) (hz : wtsE l ≤ 1048576) (hall : ∀ x ∈ l, x.At W0) (lb lo n : Nat) (A : Option Addr) (hA : 0 < l.length → A = some ⟨lb, lo, none⟩) (hcs : 0 < l.length → CellsN W0 lb lo l) :
    Calls Tryd.prog 3 #[.slice A l.length n] W0 fun e w' => e = .returned (.bool true) ∧ Below W0.heap.size W0 w' := by
  have hl0 : (l.length : Int) ≤ 4000000 := by omega
  have HH := Lib.hid (head10_any W0 hM)
  have HFw := Lib.hid (fun W (g : Below W0.heap.size W0 W) => few_any hT l (by omega) (fun x hx => ⟨hall x hx, by have := wtsE_get l x hx; unfold EV.sz at this; omega⟩) lb lo n A hA hcs W g)
  have HTx : Hid (∀ x, x ∈ l → x.fit ∧ x.ty ≠ 3 → x.text.length ≤ 16777252 * x.sz + 16777252) := fun x hx hf => by
    have h1 := wtsE_get l x hx
    exact ent_len 8388616 x hf.1 hf.2 (by omega)
  have HE1 := Lib.hid (fun (x : EV) (hx : x ∈ l) (hf : x.fit ∧ x.ty ≠ 3) W (g : Below W0.heap.size W0 W) => sentry_any hM x (hall x hx) hf.1 (ent_ne x hf.1 hf.2) (by have := HTx.out x hx hf; have := wtsE_get l x hx; omega) W g)
  have HE2 := Lib.hid (fun (x : EV) (hx : x ∈ l) (hf : x.fit ∧ x.ty ≠ 3) W (g : Below W0.heap.size W0 W) => lent_any x (hall x hx) hf.1 hf.2 (by have := HTx.out x hx hf; have := wtsE_get l x hx; omega) W g)
  have HRl : Hid ((∀ x ∈ l, x.fit ∧ x.ty ≠ 3) → (resT l).length ≤ 140737488355328) := fun hf => by
    have := resT_len 16777252 l (fun x hx => HTx.out x hx (hf x hx))
    have h2 : l.length * (16777252 + 1) ≤ 1048576 * (16777252 + 1) := Nat.mul_le_mul_right _ hl
    omega
  have HR1 := Lib.hid (fun (hf : ∀ x ∈ l, x.fit ∧ x.ty ≠ 3) W (g : Below W0.heap.size W0 W) => sres_any hM l (by omega) (fun x hx => ⟨hall x hx, (hf x hx).1⟩) (fun x hx => ent_ne x (hf x hx).1 (hf x hx).2) lb lo n A hA hcs (HRl.out hf) W g)
  have HR2 := Lib.hid (fun (hf : ∀ x ∈ l, x.fit ∧ x.ty ≠ 3) W (g : Below W0.heap.size W0 W) => lres_any l (by omega) (fun x hx => ⟨hall x hx, hf x hx⟩) lb lo n A hA hcs (HRl.out hf) W g)
  have HAd := Lib.hid hA
  have HCs := Lib.hid hcs
  clear hM hT hall hA hcs HRl HTx hz hl
  obtain ⟨RT, hRT⟩ : ∃ t, resT l = t := ⟨_, rfl⟩
  rw [hRT] at HR1 HR2
  clear hRT
  go_enter Tryd.func3, Tryd.ntmps3
  go_wp2_with fail
  go_at_call 4
  refine HH.out.mono ?_
  rintro e w1 ⟨rfl, h1⟩
  have HB1 := Lib.hid h1
  have HF1 := Lib.hid (HFw.out w1 h1)
  clear h1 HH HFw
  go_wp2_with fail
  go_at_call 5
  refine HF1.out.mono ?_
  rintro e w2 ⟨⟨b, rfl, hb⟩, h2⟩
  have HB2 := Lib.hid (HB1.out.trans (h2.mono HB1.out.size))
  have Hb := Lib.hid hb
  clear h2 hb HF1
  cases b
  · go_wp2
    go_ret
    exact ⟨rfl, HB2.out⟩
  have HFt := Lib.hid (Hb.out (by first | rfl | trivial | simp))
  clear Hb
  go_wp2
  go_loopw [12] (fun t12 wr => ∃ j : Nat, t12 = .int .i64 j ∧ j ≤ l.length ∧ Hid (Below W0.heap.size W0 wr)) (fun t12 _ => l.length - (intOf t12).toNat)
  case atStart => exact ⟨0, rfl, Nat.zero_le _, HB2⟩
  case round =>
    clear HB1 HB2
    obtain ⟨j, rfl, hj, HB⟩ := hrel
    have hj0 : (j : Int) ≤ 4000000 := by omega
    by_cases hlt : j < l.length
    · have d1 : decide ((j : Int) < (l.length : Int)) = true := decide_eq_true (by omega)
      have d2 : (j : Int) < (l.length : Int) := by omega
      obtain ⟨y, hy⟩ : ∃ y, l[j]? = some y := ⟨_, List.getElem?_eq_getElem hlt⟩
      have hym := List.mem_of_getElem? hy
      have ha := HAd.out (by omega)
      subst ha
      have hcw := (HCs.out (by omega)).below HB.out
      obtain ⟨c0, c1, c2, c3, c4, c5, c6, c7⟩ := cells8 hcw hy
      have hlb := hcw.1
      have hc1 := HE1.out y hym (HFt.out y hym)
      have hc2 := HE2.out y hym (HFt.out y hym)
      obtain ⟨YT, hYT⟩ : ∃ t, y.text = t := ⟨_, rfl⟩
      rw [hYT] at hc1 hc2
      have HC1 := Lib.hid hc1
      have HC2 := Lib.hid hc2
      clear hym hcw hc1 hc2 hYT hy
      obtain ⟨yt, yl, yx, yn, yv, ya, yA, yc, yA2, yc2, yf, yu⟩ := y
      unfold EV.v entV at *
      dsimp only at *
      have CB := Lib.hid (BoxAt.new wr #[.int .i64 yt, .int .i64 yl, .string yx, .string yn, .slice yA yv.length yc, .slice yA2 ya.length yc2, .int .i64 yf, .int .i64 yu] 29)
      have HBel := Lib.hid (HB.out.alloc HB.out.size (.cells #[.int .i64 yt, .int .i64 yl, .string yx, .string yn, .slice yA yv.length yc, .slice yA2 ya.length yc2, .int .i64 yf, .int .i64 yu] 29))
      have HKp : Hid (∀ W W', (W.cell? ⟨wr.heap.size, 0, none⟩ = some (.int .i64 yt) ∧ W.cell? ⟨wr.heap.size, 1, none⟩ = some (.int .i64 yl) ∧ W.cell? ⟨wr.heap.size, 2, none⟩ = some (.string yx) ∧ W.cell? ⟨wr.heap.size, 3, none⟩ = some (.string yn) ∧ W.cell? ⟨wr.heap.size, 4, none⟩ = some (.slice yA yv.length yc) ∧ W.cell? ⟨wr.heap.size, 5, none⟩ = some (.slice yA2 ya.length yc2) ∧ W.cell? ⟨wr.heap.size, 6, none⟩ = some (.int .i64 yf) ∧ W.cell? ⟨wr.heap.size, 7, none⟩ = some (.int .i64 yu) ∧ wr.heap.size + 1 ≤ W.heap.size ∧ Below (wr.heap.size + 1) (wr.alloc (.cells #[.int .i64 yt, .int .i64 yl, .string yx, .string yn, .slice yA yv.length yc, .slice yA2 ya.length yc2, .int .i64 yf, .int .i64 yu] 29)) W) → Below W.heap.size W W' → (W'.cell? ⟨wr.heap.size, 0, none⟩ = some (.int .i64 yt) ∧ W'.cell? ⟨wr.heap.size, 1, none⟩ = some (.int .i64 yl) ∧ W'.cell? ⟨wr.heap.size, 2, none⟩ = some (.string yx) ∧ W'.cell? ⟨wr.heap.size, 3, none⟩ = some (.string yn) ∧ W'.cell? ⟨wr.heap.size, 4, none⟩ = some (.slice yA yv.length yc) ∧ W'.cell? ⟨wr.heap.size, 5, none⟩ = some (.slice yA2 ya.length yc2) ∧ W'.cell? ⟨wr.heap.size, 6, none⟩ = some (.int .i64 yf) ∧ W'.cell? ⟨wr.heap.size, 7, none⟩ = some (.int .i64 yu) ∧ wr.heap.size + 1 ≤ W'.heap.size ∧ Below (wr.heap.size + 1) (wr.alloc (.cells #[.int .i64 yt, .int .i64 yl, .string yx, .string yn, .slice yA yv.length yc, .slice yA2 ya.length yc2, .int .i64 yf, .int .i64 yu] 29)) W')) := fun W W' ⟨h0, h1, h2, h3, h4, h5, h6, h7, h8, h9⟩ g =>
        ⟨(g.cell (p := ⟨wr.heap.size, 0, none⟩) h8).trans h0, (g.cell (p := ⟨wr.heap.size, 1, none⟩) h8).trans h1, (g.cell (p := ⟨wr.heap.size, 2, none⟩) h8).trans h2, (g.cell (p := ⟨wr.heap.size, 3, none⟩) h8).trans h3, (g.cell (p := ⟨wr.heap.size, 4, none⟩) h8).trans h4, (g.cell (p := ⟨wr.heap.size, 5, none⟩) h8).trans h5, (g.cell (p := ⟨wr.heap.size, 6, none⟩) h8).trans h6, (g.cell (p := ⟨wr.heap.size, 7, none⟩) h8).trans h7, Nat.le_trans h8 g.size, h9.trans (g.mono h8)⟩
      have HS0 := Lib.hid (show (wr.alloc (.cells #[.int .i64 yt, .int .i64 yl, .string yx, .string yn, .slice yA yv.length yc, .slice yA2 ya.length yc2, .int .i64 yf, .int .i64 yu] 29)).drew.cell? ⟨wr.heap.size, 0, none⟩ = some (.int .i64 yt) ∧ (wr.alloc (.cells #[.int .i64 yt, .int .i64 yl, .string yx, .string yn, .slice yA yv.length yc, .slice yA2 ya.length yc2, .int .i64 yf, .int .i64 yu] 29)).drew.cell? ⟨wr.heap.size, 1, none⟩ = some (.int .i64 yl) ∧ (wr.alloc (.cells #[.int .i64 yt, .int .i64 yl, .string yx, .string yn, .slice yA yv.length yc, .slice yA2 ya.length yc2, .int .i64 yf, .int .i64 yu] 29)).drew.cell? ⟨wr.heap.size, 2, none⟩ = some (.string yx) ∧ (wr.alloc (.cells #[.int .i64 yt, .int .i64 yl, .string yx, .string yn, .slice yA yv.length yc, .slice yA2 ya.length yc2, .int .i64 yf, .int .i64 yu] 29)).drew.cell? ⟨wr.heap.size, 3, none⟩ = some (.string yn) ∧ (wr.alloc (.cells #[.int .i64 yt, .int .i64 yl, .string yx, .string yn, .slice yA yv.length yc, .slice yA2 ya.length yc2, .int .i64 yf, .int .i64 yu] 29)).drew.cell? ⟨wr.heap.size, 4, none⟩ = some (.slice yA yv.length yc) ∧ (wr.alloc (.cells #[.int .i64 yt, .int .i64 yl, .string yx, .string yn, .slice yA yv.length yc, .slice yA2 ya.length yc2, .int .i64 yf, .int .i64 yu] 29)).drew.cell? ⟨wr.heap.size, 5, none⟩ = some (.slice yA2 ya.length yc2) ∧ (wr.alloc (.cells #[.int .i64 yt, .int .i64 yl, .string yx, .string yn, .slice yA yv.length yc, .slice yA2 ya.length yc2, .int .i64 yf, .int .i64 yu] 29)).drew.cell? ⟨wr.heap.size, 6, none⟩ = some (.int .i64 yf) ∧ (wr.alloc (.cells #[.int .i64 yt, .int .i64 yl, .string yx, .string yn, .slice yA yv.length yc, .slice yA2 ya.length yc2, .int .i64 yf, .int .i64 yu] 29)).drew.cell? ⟨wr.heap.size, 7, none⟩ = some (.int .i64 yu) ∧ wr.heap.size + 1 ≤ (wr.alloc (.cells #[.int .i64 yt, .int .i64 yl, .string yx, .string yn, .slice yA yv.length yc, .slice yA2 ya.length yc2, .int .i64 yf, .int .i64 yu] 29)).drew.heap.size ∧ Below (wr.heap.size + 1) (wr.alloc (.cells #[.int .i64 yt, .int .i64 yl, .string yx, .string yn, .slice yA yv.length yc, .slice yA2 ya.length yc2, .int .i64 yf, .int .i64 yu] 29)) (wr.alloc (.cells #[.int .i64 yt, .int .i64 yl, .string yx, .string yn, .slice yA yv.length yc, .slice yA2 ya.length yc2, .int .i64 yf, .int .i64 yu] 29)).drew from
        ⟨CB.out.cell 0, CB.out.cell 1, CB.out.cell 2, CB.out.cell 3, CB.out.cell 4, CB.out.cell 5, CB.out.cell 6, CB.out.cell 7, CB.out.lt, (Below.refl _ _).drew⟩)
      have HL1 := Lib.hid (fun W (h : W.cell? ⟨wr.heap.size, 0, none⟩ = some (.int .i64 yt) ∧ W.cell? ⟨wr.heap.size, 1, none⟩ = some (.int .i64 yl) ∧ W.cell? ⟨wr.heap.size, 2, none⟩ = some (.string yx) ∧ W.cell? ⟨wr.heap.size, 3, none⟩ = some (.string yn) ∧ W.cell? ⟨wr.heap.size, 4, none⟩ = some (.slice yA yv.length yc) ∧ W.cell? ⟨wr.heap.size, 5, none⟩ = some (.slice yA2 ya.length yc2) ∧ W.cell? ⟨wr.heap.size, 6, none⟩ = some (.int .i64 yf) ∧ W.cell? ⟨wr.heap.size, 7, none⟩ = some (.int .i64 yu) ∧ wr.heap.size + 1 ≤ W.heap.size ∧ Below (wr.heap.size + 1) (wr.alloc (.cells #[.int .i64 yt, .int .i64 yl, .string yx, .string yn, .slice yA yv.length yc, .slice yA2 ya.length yc2, .int .i64 yf, .int .i64 yu] 29)) W) => HC1.out W (HBel.out.trans (h.2.2.2.2.2.2.2.2.2.mono (Nat.le_trans HB.out.size (Nat.le_succ _)))))
      have HL2 := Lib.hid (fun W (h : W.cell? ⟨wr.heap.size, 0, none⟩ = some (.int .i64 yt) ∧ W.cell? ⟨wr.heap.size, 1, none⟩ = some (.int .i64 yl) ∧ W.cell? ⟨wr.heap.size, 2, none⟩ = some (.string yx) ∧ W.cell? ⟨wr.heap.size, 3, none⟩ = some (.string yn) ∧ W.cell? ⟨wr.heap.size, 4, none⟩ = some (.slice yA yv.length yc) ∧ W.cell? ⟨wr.heap.size, 5, none⟩ = some (.slice yA2 ya.length yc2) ∧ W.cell? ⟨wr.heap.size, 6, none⟩ = some (.int .i64 yf) ∧ W.cell? ⟨wr.heap.size, 7, none⟩ = some (.int .i64 yu) ∧ wr.heap.size + 1 ≤ W.heap.size ∧ Below (wr.heap.size + 1) (wr.alloc (.cells #[.int .i64 yt, .int .i64 yl, .string yx, .string yn, .slice yA yv.length yc, .slice yA2 ya.length yc2, .int .i64 yf, .int .i64 yu] 29)) W) => HC2.out W (HBel.out.trans (h.2.2.2.2.2.2.2.2.2.mono (Nat.le_trans HB.out.size (Nat.le_succ _)))))
      clear HC1 HC2
      go_wp2
      go_region_held3 (fun w' => w'.cell? ⟨wr.heap.size, 0, none⟩ = some (.int .i64 yt) ∧ w'.cell? ⟨wr.heap.size, 1, none⟩ = some (.int .i64 yl) ∧ w'.cell? ⟨wr.heap.size, 2, none⟩ = some (.string yx) ∧ w'.cell? ⟨wr.heap.size, 3, none⟩ = some (.string yn) ∧ w'.cell? ⟨wr.heap.size, 4, none⟩ = some (.slice yA yv.length yc) ∧ w'.cell? ⟨wr.heap.size, 5, none⟩ = some (.slice yA2 ya.length yc2) ∧ w'.cell? ⟨wr.heap.size, 6, none⟩ = some (.int .i64 yf) ∧ w'.cell? ⟨wr.heap.size, 7, none⟩ = some (.int .i64 yu) ∧ wr.heap.size + 1 ≤ w'.heap.size ∧ Below (wr.heap.size + 1) (wr.alloc (.cells #[.int .i64 yt, .int .i64 yl, .string yx, .string yn, .slice yA yv.length yc, .slice yA2 ya.length yc2, .int .i64 yf, .int .i64 yu] 29)) w')
        (first | (exact HKp.out _ _ (by assumption) (by assumption)) | (exact HS0.out) | assumption | go_keep)
        (first | (go_at_call 6; (with_reducible refine (HL1.out _ (by assumption)).mono ?_); rintro e wa ⟨rfl, hba⟩) | (go_at_call 7; (with_reducible refine (HL2.out _ (by assumption)).mono ?_); rintro e wb ⟨rfl, hbb⟩))
      rename_i hmE
      have HmB := Lib.hid (HBel.out.trans (hmE.2.2.2.2.2.2.2.2.2.mono (Nat.le_trans HB.out.size (Nat.le_succ _))))
      clear hmE
      go_wp2
      go_roundw
      case rel => exact ⟨j + 1, by go_num, hlt, HmB⟩
      case measure => simp [intOf]; omega
    · obtain rfl : j = l.length := by omega
      have d1 : decide ((l.length : Int) < (l.length : Int)) = false := decide_eq_false (by omega)
      have HC1 := Lib.hid (HR1.out HFt.out wr HB.out)
      have HC2 := Lib.hid (HR2.out HFt.out)
      clear HR1 HR2 HE1 HE2
      go_wp2_with fail
      go_at_call 8
      refine HC1.out.mono ?_
      rintro e w4 ⟨rfl, h4⟩
      have HB4 := Lib.hid (HB.out.trans (h4.mono HB.out.size))
      have HC4 := Lib.hid (HC2.out w4 HB4.out)
      clear h4
      go_wp2_with fail
      go_at_call 9
      refine HC4.out.mono ?_
      rintro e w5 ⟨rfl, h5⟩
      have HB5 := Lib.hid (HB4.out.trans (h5.mono HB4.out.size))
      clear h5
      go_wp2
      go_ret
      exact ⟨rfl, HB5.out⟩
end Go.Proofs.YtminidoiaplhjaaDoor
