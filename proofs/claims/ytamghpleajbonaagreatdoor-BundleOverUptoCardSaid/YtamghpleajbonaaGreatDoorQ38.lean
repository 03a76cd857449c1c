/-
  Several texts put together (part 38): what the law and the program call, walked; their contracts.
-/
import Derived.Test.YtamghpleajbonaaGreatDoorQ37
import Derived.Test.YtamghpleajbonaaGreatDoorQ14
namespace Go.Proofs.YtamghpleajbonaaGreatDoor
open Go.RowKit
set_option linter.unusedVariables false
set_option linter.unusedSimpArgs false
theorem AsAt.at2 {W : World} : ∀ {l : List AR} {b o : Nat} (j : Nat) {n : ByteArray} {e : EX}, AsAt W l b o → l[j]? = some (.mk n e) →
    b < W.heap.size ∧ W.cell? ⟨b, o + j * 8, none⟩ = some (.string n) ∧ ∃ c, CellsAt W b (o + j * 8 + 1) c ∧ ExAt W e c
  | [], b, o, j, n, e, h, hj => by simp at hj
  | .mk n' e' :: r, b, o, 0, n, e, h, hj => by
    rw [AsAt] at h
    simp at hj
    obtain ⟨rfl, rfl⟩ := hj
    obtain ⟨h0, h1, h2, _⟩ := h
    exact ⟨h0, by simpa using h1, by simpa using h2⟩
  | .mk n' e' :: r, b, o, j + 1, n, e, h, hj => by
    rw [AsAt] at h
    have := AsAt.at2 j h.2.2.2 (by simpa using hj)
    rw [show o + (j + 1) * 8 = o + 8 + j * 8 by omega]
    exact this
theorem VsAt.at2 {W : World} : ∀ {l : List VA} {b o : Nat} (j : Nat) {n : ByteArray} {d : Bool} {v : List EL}, VsAt W l b o → l[j]? = some (.mk n d v) →
    b < W.heap.size ∧ W.cell? ⟨b, o + j * 3, none⟩ = some (.string n) ∧ W.cell? ⟨b, o + j * 3 + 1, none⟩ = some (.bool d) ∧ ∃ u, W.cell? ⟨b, o + j * 3 + 2, none⟩ = some u ∧ PatAt W v u
  | [], b, o, j, n, d, v, h, hj => by simp at hj
  | .mk n' d' v' :: r, b, o, 0, n, d, v, h, hj => by
    rw [VsAt] at h
    simp at hj
    obtain ⟨rfl, rfl, rfl⟩ := hj
    obtain ⟨h0, h1, h2, h3, _⟩ := h
    exact ⟨h0, by simpa using h1, by simpa using h2, by obtain ⟨u, h3, h4⟩ := h3; exact ⟨u, by simpa using h3, h4⟩⟩
  | .mk n' d' v' :: r, b, o, j + 1, n, d, v, h, hj => by
    rw [VsAt] at h
    have := VsAt.at2 j h.2.2.2.2 (by simpa using hj)
    rw [show o + (j + 1) * 3 = o + 3 + j * 3 by omega]
    exact this
theorem arg_at2 {W : World} {l : List AR} {A : Option Addr} {q : Nat} (h : LieAt (AsAt W l) (.slice A l.length q) l.length) {i : Nat} (hi : i < l.length) : ∃ b o, A = some ⟨b, o, none⟩ ∧ b < W.heap.size ∧
    ∀ j n e, l[j]? = some (.mk n e) → W.cell? ⟨b, o + j * 8, none⟩ = some (.string n) ∧ ∃ c, CellsAt W b (o + j * 8 + 1) c ∧ ExAt W e c := by
  obtain ⟨A', c, e, _, _, h2⟩ := h
  simp only [Value.slice.injEq] at e
  obtain ⟨rfl, _, rfl⟩ := e
  obtain ⟨b, o, rfl, h3⟩ := h2 (by omega)
  have h0 : l[0]? = some l[0] := List.getElem?_eq_getElem (by omega)
  refine ⟨b, o, rfl, ?_, fun j n e hj => ⟨(h3.at2 j hj).2.1, (h3.at2 j hj).2.2⟩⟩
  cases e : l[0]'(by omega) with
  | mk n e' => rw [e] at h0; exact (h3.at2 0 h0).1
theorem var_at2 {W : World} {l : List VA} {A : Option Addr} {q : Nat} (h : LieAt (VsAt W l) (.slice A l.length q) l.length) {i : Nat} (hi : i < l.length) : ∃ b o, A = some ⟨b, o, none⟩ ∧ b < W.heap.size ∧
    ∀ j n d v, l[j]? = some (.mk n d v) → W.cell? ⟨b, o + j * 3, none⟩ = some (.string n) ∧ W.cell? ⟨b, o + j * 3 + 1, none⟩ = some (.bool d) ∧ ∃ u, W.cell? ⟨b, o + j * 3 + 2, none⟩ = some u ∧ PatAt W v u := by
  obtain ⟨A', c, e, _, _, h2⟩ := h
  simp only [Value.slice.injEq] at e
  obtain ⟨rfl, _, rfl⟩ := e
  obtain ⟨b, o, rfl, h3⟩ := h2 (by omega)
  have h0 : l[0]? = some l[0] := List.getElem?_eq_getElem (by omega)
  refine ⟨b, o, rfl, ?_, fun j n d v hj => ⟨(h3.at2 j hj).2.1, (h3.at2 j hj).2.2.1, (h3.at2 j hj).2.2.2⟩⟩
  cases e : l[0]'(by omega) with
  | mk n d v => rw [e] at h0; exact (h3.at2 0 h0).1
theorem ex_open {W : World} {k : Int} {t n a : ByteArray} {al : List AR} {i : Option EX} {vs : List VA} {c : C7} (h : ExAt W (.mk k t n a al i vs) c) : ∃ (A : Option Addr) (q : Nat) (p : Option Addr) (B : Option Addr) (r : Nat),
    c = ⟨.int .i64 k, .string t, .string n, .string a, .slice A al.length q, .pointer p, .slice B vs.length r⟩ ∧ LieAt (AsAt W al) (.slice A al.length q) al.length ∧ OAt W i (.pointer p) ∧ LieAt (VsAt W vs) (.slice B vs.length r) vs.length := by
  obtain ⟨ck, ct, cn, ca, cal, ci, cvs⟩ := c
  rw [ExAt] at h
  obtain ⟨e1, e2, e3, e4, h5, h6, h7⟩ := h
  dsimp only at e1 e2 e3 e4 h5 h6 h7
  subst e1 e2 e3 e4
  obtain ⟨A, q, rfl, r5⟩ := h5
  obtain ⟨B, r, rfl, r7⟩ := h7
  obtain ⟨p, rfl⟩ : ∃ p, ci = .pointer p := by
    cases i with
    | none => simp only [OAt] at h6; exact ⟨_, h6⟩
    | some e => simp only [OAt] at h6; obtain ⟨b, o, c, h, _⟩ := h6; exact ⟨_, h⟩
  exact ⟨A, q, p, B, r, rfl, ⟨A, q, rfl, r5⟩, h6, ⟨B, r, rfl, r7⟩⟩
theorem len_As : ∀ l : List AR, l.length ≤ sizeAs l
  | [] => Nat.zero_le _
  | .mk n (.mk k t m a al i vs) :: r => by have := len_As r; rw [sizeAs, EX.size, List.length_cons]; omega
theorem len_Vs : ∀ l : List VA, l.length ≤ sizeVs l
  | [] => Nat.zero_le _
  | .mk n d v :: r => by have := len_Vs r; rw [sizeVs, List.length_cons]; omega
theorem len_Es : ∀ l : List EL, l.length ≤ sizeEs l
  | [] => Nat.zero_le _
  | .mk t p :: r => by have := len_Es r; rw [sizeEs, List.length_cons]; omega
theorem mem_As : ∀ {l : List AR} {n : ByteArray} {e : EX}, AR.mk n e ∈ l → e.size ≤ sizeAs l
  | .mk n' e' :: r, n, e, h => by
    rw [sizeAs]
    rcases List.mem_cons.1 h with h | h
    · cases h; omega
    · have := mem_As h; omega
theorem mem_Es : ∀ {l : List EL} {t : ByteArray} {e : EX}, EL.mk t (some e) ∈ l → e.size ≤ sizeEs l
  | .mk t' p' :: r, t, e, h => by
    rw [sizeEs]
    rcases List.mem_cons.1 h with h | h
    · cases h; rw [sizeO]; omega
    · have := mem_Es h; omega
theorem mem_Vs : ∀ {l : List VA} {n : ByteArray} {d : Bool} {v : List EL}, VA.mk n d v ∈ l → sizeEs v ≤ sizeVs l
  | .mk n' d' v' :: r, n, d, v, h => by
    rw [sizeVs]
    rcases List.mem_cons.1 h with h | h
    · cases h; omega
    · have := mem_Vs h; omega
set_option maxHeartbeats 16000000 in
set_option maxRecDepth 1000000 in
theorem same_no {W0 : World} (k : Int) (t n a : ByteArray) (al : List AR) (vs : List VA) (hal : al.length ≤ 8000000) (hvs : vs.length ≤ 8000000) (hS : ∀ n e, AR.mk n e ∈ al → SameTo W0 e) (hP : ∀ n d v, VA.mk n d v ∈ vs → v.length ≤ 8000000 ∧ ∀ t e, EL.mk t (some e) ∈ v → SameTo W0 e) 
    (A1 : Option Addr) (q1 : Nat) (B1 : Option Addr) (r1 : Nat) (A2 : Option Addr) (q2 : Nat) (B2 : Option Addr) (r2 : Nat) 
    (h1 : LieAt (AsAt W0 al) (.slice A1 al.length q1) al.length) (h2 : LieAt (AsAt W0 al) (.slice A2 al.length q2) al.length) (g1 : LieAt (VsAt W0 vs) (.slice B1 vs.length r1) vs.length) (g2 : LieAt (VsAt W0 vs) (.slice B2 vs.length r2) vs.length) (w : World) (hb : Below W0.heap.size W0 w) :
    Calls Tryz.prog 35 #[.agg #[.int .i64 k, .string t, .string n, .string a, .slice A1 al.length q1, .pointer none, .slice B1 vs.length r1], .agg #[.int .i64 k, .string t, .string n, .string a, .slice A2 al.length q2, .pointer none, .slice B2 vs.length r2]] w fun e w' => e = .returned (.bool true) ∧ Below w.heap.size w w' := by
  have hA1 := fun i (hi : i < al.length) => arg_at2 h1 hi
  have hA2 := fun i (hi : i < al.length) => arg_at2 h2 hi
  have hV1 := fun i (hi : i < vs.length) => var_at2 g1 hi
  have hV2 := fun i (hi : i < vs.length) => var_at2 g2 hi
  have HA1 := Lib.hid hA1
  have HA2 := Lib.hid hA2
  have HV1 := Lib.hid hV1
  have HV2 := Lib.hid hV2
  have HS := Lib.hid hS
  have HP := Lib.hid hP
  have HB := Lib.hid hb
  have hal0 : (al.length : Int) ≤ 8000000 := by omega
  have hvs0 : (vs.length : Int) ≤ 8000000 := by omega
  have z1 : (t.toList != t.toList) = false := bne_self_eq_false _
  have z2 : (n.toList != n.toList) = false := bne_self_eq_false _
  have z3 : (a.toList != a.toList) = false := bne_self_eq_false _
  have z4 : (k != k) = false := bne_self_eq_false _
  have hbox1 : BoxAt ((w.alloc (.cells #[.int .i64 k, .string t, .string n, .string a, .slice A1 al.length q1, .pointer none, .slice B1 vs.length r1] 88)).alloc (.cells #[.int .i64 k, .string t, .string n, .string a, .slice A2 al.length q2, .pointer none, .slice B2 vs.length r2] 88)) w.heap.size #[.int .i64 k, .string t, .string n, .string a, .slice A1 al.length q1, .pointer none, .slice B1 vs.length r1] 88 := (BoxAt.new _ _ _).alloc _
  have hbox2 : BoxAt ((w.alloc (.cells #[.int .i64 k, .string t, .string n, .string a, .slice A1 al.length q1, .pointer none, .slice B1 vs.length r1] 88)).alloc (.cells #[.int .i64 k, .string t, .string n, .string a, .slice A2 al.length q2, .pointer none, .slice B2 vs.length r2] 88)) (w.heap.size + 1) #[.int .i64 k, .string t, .string n, .string a, .slice A2 al.length q2, .pointer none, .slice B2 vs.length r2] 88 := BoxAt.new' _ _ _ _ (by simp)
  have Hbox1 := Lib.hid hbox1
  have Hbox2 := Lib.hid hbox2
  clear hA1 hA2 hV1 hV2 hS hP hb h1 h2 g1 g2 hbox1 hbox2
  go_enter Tryz.func35, Tryz.ntmps35
  go_wp2
  go_loopw [65] (fun t65 wr => ∃ i : Nat, t65 = .int .i64 i ∧ i ≤ al.length ∧ Hid (Below w.heap.size w wr) ∧ Hid (BoxAt wr w.heap.size #[.int .i64 k, .string t, .string n, .string a, .slice A1 al.length q1, .pointer none, .slice B1 vs.length r1] 88) ∧ Hid (BoxAt wr (w.heap.size + 1) #[.int .i64 k, .string t, .string n, .string a, .slice A2 al.length q2, .pointer none, .slice B2 vs.length r2] 88)) (fun t65 _ => al.length - (intOf t65).toNat)
  case atStart => exact ⟨0, rfl, Nat.zero_le _, ((Below.refl _ _).alloc (Nat.le_refl _) _).alloc (by simp) _, Hbox1, Hbox2⟩
  case round =>
    obtain ⟨i, rfl, hi, HBel, HX1, HX2⟩ := hrel
    have hi0 : (i : Int) ≤ 8000000 := by omega
    have hxl1 := HX1.out.lt
    have hxl2 := HX2.out.lt
    have b14 := HX1.out.cell 4
    have b24 := HX2.out.cell 4
    simp at b14 b24
    by_cases hlt : i < al.length
    · have d1 : decide ((i : Int) < (al.length : Int)) = true := decide_eq_true (by omega)
      have d2 : (i : Int) < (al.length : Int) := by omega
      obtain ⟨b1, o1, rfl, hb1, g1⟩ := HA1.out i hlt
      obtain ⟨b2, o2, rfl, hb2, g2⟩ := HA2.out i hlt
      have hli : al[i]? = some al[i] := List.getElem?_eq_getElem hlt
      have hmem : al[i] ∈ al := List.getElem_mem hlt
      obtain ⟨m, e, hx⟩ : ∃ m e, al[i] = AR.mk m e := by cases h : al[i]; exact ⟨_, _, rfl⟩
      rw [hx] at hli hmem
      obtain ⟨s1, k1, hk1, hE1⟩ := g1 i m e hli
      obtain ⟨s2, k2, hk2, hE2⟩ := g2 i m e hli
      have hSm := HS.out m e hmem
      have hcell : ∀ (b o : Nat) v, b < W0.heap.size → W0.cell? ⟨b, o, none⟩ = some v → wr.cell? ⟨b, o, none⟩ = some v := fun b o v hb h =>
        (HBel.out.cell (p := ⟨b, o, none⟩) (Nat.lt_of_lt_of_le hb HB.out.size)).trans ((HB.out.cell (p := ⟨b, o, none⟩) hb).trans h)
      have e1 := hcell _ _ _ hb1 s1
      have e2 := hcell _ _ _ hb2 s2
      have hbw1 : b1 < wr.heap.size := Nat.lt_of_lt_of_le hb1 (Nat.le_trans HB.out.size HBel.out.size)
      have hbw2 : b2 < wr.heap.size := Nat.lt_of_lt_of_le hb2 (Nat.le_trans HB.out.size HBel.out.size)
      have zm : (m.toList != m.toList) = false := bne_self_eq_false _
      obtain ⟨k1k, k1t, k1n, k1a, k1A, k1m, k1q, k1p, k1B, k1r, k1s, rfl⟩ := ex_shape hE1
      obtain ⟨k2k, k2t, k2n, k2a, k2A, k2m, k2q, k2p, k2B, k2r, k2s, rfl⟩ := ex_shape hE2
      obtain ⟨f0, f1, f2, f3, f4, f5, f6⟩ := hk1
      obtain ⟨g0, g1, g2, g3, g4, g5, g6⟩ := hk2
      dsimp only at f0 f1 f2 f3 f4 f5 f6 g0 g1 g2 g3 g4 g5 g6
      have F0 : wr.cell? ⟨b1, o1 + i * 8 + 1, none⟩ = some (.int .i64 k1k) := hcell _ _ _ hb1 f0
      have F1 : wr.cell? ⟨b1, o1 + i * 8 + 2, none⟩ = some (.string k1t) := hcell _ _ _ hb1 f1
      have F2 : wr.cell? ⟨b1, o1 + i * 8 + 3, none⟩ = some (.string k1n) := hcell _ _ _ hb1 f2
      have F3 : wr.cell? ⟨b1, o1 + i * 8 + 4, none⟩ = some (.string k1a) := hcell _ _ _ hb1 f3
      have F4 : wr.cell? ⟨b1, o1 + i * 8 + 5, none⟩ = some (.slice k1A k1m k1q) := hcell _ _ _ hb1 f4
      have F5 : wr.cell? ⟨b1, o1 + i * 8 + 6, none⟩ = some (.pointer k1p) := hcell _ _ _ hb1 f5
      have F6 : wr.cell? ⟨b1, o1 + i * 8 + 7, none⟩ = some (.slice k1B k1r k1s) := hcell _ _ _ hb1 f6
      have G0 : wr.cell? ⟨b2, o2 + i * 8 + 1, none⟩ = some (.int .i64 k2k) := hcell _ _ _ hb2 g0
      have G1 : wr.cell? ⟨b2, o2 + i * 8 + 2, none⟩ = some (.string k2t) := hcell _ _ _ hb2 g1
      have G2 : wr.cell? ⟨b2, o2 + i * 8 + 3, none⟩ = some (.string k2n) := hcell _ _ _ hb2 g2
      have G3 : wr.cell? ⟨b2, o2 + i * 8 + 4, none⟩ = some (.string k2a) := hcell _ _ _ hb2 g3
      have G4 : wr.cell? ⟨b2, o2 + i * 8 + 5, none⟩ = some (.slice k2A k2m k2q) := hcell _ _ _ hb2 g4
      have G5 : wr.cell? ⟨b2, o2 + i * 8 + 6, none⟩ = some (.pointer k2p) := hcell _ _ _ hb2 g5
      have G6 : wr.cell? ⟨b2, o2 + i * 8 + 7, none⟩ = some (.slice k2B k2r k2s) := hcell _ _ _ hb2 g6
      have hC0 := fun W hB => hSm W _ _ hB hE1 hE2
      dsimp only [C7.arr] at hC0
      have hC : ∀ W : World, W.cell? ⟨w.heap.size, 4, none⟩ = some (.slice (some ⟨b1, o1, none⟩) al.length q1) ∧ W.cell? ⟨w.heap.size + 1, 4, none⟩ = some (.slice (some ⟨b2, o2, none⟩) al.length q2) ∧ W.cell? ⟨b1, o1 + i * 8, none⟩ = some (.string m) ∧ W.cell? ⟨b2, o2 + i * 8, none⟩ = some (.string m) ∧ W.cell? ⟨b1, o1 + i * 8 + 1, none⟩ = some (.int .i64 k1k) ∧ W.cell? ⟨b1, o1 + i * 8 + 2, none⟩ = some (.string k1t) ∧ W.cell? ⟨b1, o1 + i * 8 + 3, none⟩ = some (.string k1n) ∧ W.cell? ⟨b1, o1 + i * 8 + 4, none⟩ = some (.string k1a) ∧ W.cell? ⟨b1, o1 + i * 8 + 5, none⟩ = some (.slice k1A k1m k1q) ∧ W.cell? ⟨b1, o1 + i * 8 + 6, none⟩ = some (.pointer k1p) ∧ W.cell? ⟨b1, o1 + i * 8 + 7, none⟩ = some (.slice k1B k1r k1s) ∧ W.cell? ⟨b2, o2 + i * 8 + 1, none⟩ = some (.int .i64 k2k) ∧ W.cell? ⟨b2, o2 + i * 8 + 2, none⟩ = some (.string k2t) ∧ W.cell? ⟨b2, o2 + i * 8 + 3, none⟩ = some (.string k2n) ∧ W.cell? ⟨b2, o2 + i * 8 + 4, none⟩ = some (.string k2a) ∧ W.cell? ⟨b2, o2 + i * 8 + 5, none⟩ = some (.slice k2A k2m k2q) ∧ W.cell? ⟨b2, o2 + i * 8 + 6, none⟩ = some (.pointer k2p) ∧ W.cell? ⟨b2, o2 + i * 8 + 7, none⟩ = some (.slice k2B k2r k2s) ∧ Below wr.heap.size wr W → Calls Tryz.prog 35 #[.agg #[.int .i64 k1k, .string k1t, .string k1n, .string k1a, .slice k1A k1m k1q, .pointer k1p, .slice k1B k1r k1s], .agg #[.int .i64 k2k, .string k2t, .string k2n, .string k2a, .slice k2A k2m k2q, .pointer k2p, .slice k2B k2r k2s]] W fun e w' => e = .returned (.bool true) ∧ Below W.heap.size W w' := fun W h => hC0 W ((HB.out.trans (HBel.out.mono HB.out.size)).trans (h.2.2.2.2.2.2.2.2.2.2.2.2.2.2.2.2.2.2.mono (Nat.le_trans HB.out.size HBel.out.size)))
      have hK : ∀ W W' : World, (W.cell? ⟨w.heap.size, 4, none⟩ = some (.slice (some ⟨b1, o1, none⟩) al.length q1) ∧ W.cell? ⟨w.heap.size + 1, 4, none⟩ = some (.slice (some ⟨b2, o2, none⟩) al.length q2) ∧ W.cell? ⟨b1, o1 + i * 8, none⟩ = some (.string m) ∧ W.cell? ⟨b2, o2 + i * 8, none⟩ = some (.string m) ∧ W.cell? ⟨b1, o1 + i * 8 + 1, none⟩ = some (.int .i64 k1k) ∧ W.cell? ⟨b1, o1 + i * 8 + 2, none⟩ = some (.string k1t) ∧ W.cell? ⟨b1, o1 + i * 8 + 3, none⟩ = some (.string k1n) ∧ W.cell? ⟨b1, o1 + i * 8 + 4, none⟩ = some (.string k1a) ∧ W.cell? ⟨b1, o1 + i * 8 + 5, none⟩ = some (.slice k1A k1m k1q) ∧ W.cell? ⟨b1, o1 + i * 8 + 6, none⟩ = some (.pointer k1p) ∧ W.cell? ⟨b1, o1 + i * 8 + 7, none⟩ = some (.slice k1B k1r k1s) ∧ W.cell? ⟨b2, o2 + i * 8 + 1, none⟩ = some (.int .i64 k2k) ∧ W.cell? ⟨b2, o2 + i * 8 + 2, none⟩ = some (.string k2t) ∧ W.cell? ⟨b2, o2 + i * 8 + 3, none⟩ = some (.string k2n) ∧ W.cell? ⟨b2, o2 + i * 8 + 4, none⟩ = some (.string k2a) ∧ W.cell? ⟨b2, o2 + i * 8 + 5, none⟩ = some (.slice k2A k2m k2q) ∧ W.cell? ⟨b2, o2 + i * 8 + 6, none⟩ = some (.pointer k2p) ∧ W.cell? ⟨b2, o2 + i * 8 + 7, none⟩ = some (.slice k2B k2r k2s) ∧ Below wr.heap.size wr W) → Below W.heap.size W W' → W'.cell? ⟨w.heap.size, 4, none⟩ = some (.slice (some ⟨b1, o1, none⟩) al.length q1) ∧ W'.cell? ⟨w.heap.size + 1, 4, none⟩ = some (.slice (some ⟨b2, o2, none⟩) al.length q2) ∧ W'.cell? ⟨b1, o1 + i * 8, none⟩ = some (.string m) ∧ W'.cell? ⟨b2, o2 + i * 8, none⟩ = some (.string m) ∧ W'.cell? ⟨b1, o1 + i * 8 + 1, none⟩ = some (.int .i64 k1k) ∧ W'.cell? ⟨b1, o1 + i * 8 + 2, none⟩ = some (.string k1t) ∧ W'.cell? ⟨b1, o1 + i * 8 + 3, none⟩ = some (.string k1n) ∧ W'.cell? ⟨b1, o1 + i * 8 + 4, none⟩ = some (.string k1a) ∧ W'.cell? ⟨b1, o1 + i * 8 + 5, none⟩ = some (.slice k1A k1m k1q) ∧ W'.cell? ⟨b1, o1 + i * 8 + 6, none⟩ = some (.pointer k1p) ∧ W'.cell? ⟨b1, o1 + i * 8 + 7, none⟩ = some (.slice k1B k1r k1s) ∧ W'.cell? ⟨b2, o2 + i * 8 + 1, none⟩ = some (.int .i64 k2k) ∧ W'.cell? ⟨b2, o2 + i * 8 + 2, none⟩ = some (.string k2t) ∧ W'.cell? ⟨b2, o2 + i * 8 + 3, none⟩ = some (.string k2n) ∧ W'.cell? ⟨b2, o2 + i * 8 + 4, none⟩ = some (.string k2a) ∧ W'.cell? ⟨b2, o2 + i * 8 + 5, none⟩ = some (.slice k2A k2m k2q) ∧ W'.cell? ⟨b2, o2 + i * 8 + 6, none⟩ = some (.pointer k2p) ∧ W'.cell? ⟨b2, o2 + i * 8 + 7, none⟩ = some (.slice k2B k2r k2s) ∧ Below wr.heap.size wr W' := fun W W' ⟨a0, a1, a2, a3, a4, a5, a6, a7, a8, a9, a10, a11, a12, a13, a14, a15, a16, a17, hB⟩ hb =>
        ⟨cell_under hb a0, cell_under hb a1, cell_under hb a2, cell_under hb a3, cell_under hb a4, cell_under hb a5, cell_under hb a6, cell_under hb a7, cell_under hb a8, cell_under hb a9, cell_under hb a10, cell_under hb a11, cell_under hb a12, cell_under hb a13, cell_under hb a14, cell_under hb a15, cell_under hb a16, cell_under hb a17, hB.trans (hb.mono hB.size)⟩
      have hS0 : wr.drew.cell? ⟨w.heap.size, 4, none⟩ = some (.slice (some ⟨b1, o1, none⟩) al.length q1) ∧ wr.drew.cell? ⟨w.heap.size + 1, 4, none⟩ = some (.slice (some ⟨b2, o2, none⟩) al.length q2) ∧ wr.drew.cell? ⟨b1, o1 + i * 8, none⟩ = some (.string m) ∧ wr.drew.cell? ⟨b2, o2 + i * 8, none⟩ = some (.string m) ∧ wr.drew.cell? ⟨b1, o1 + i * 8 + 1, none⟩ = some (.int .i64 k1k) ∧ wr.drew.cell? ⟨b1, o1 + i * 8 + 2, none⟩ = some (.string k1t) ∧ wr.drew.cell? ⟨b1, o1 + i * 8 + 3, none⟩ = some (.string k1n) ∧ wr.drew.cell? ⟨b1, o1 + i * 8 + 4, none⟩ = some (.string k1a) ∧ wr.drew.cell? ⟨b1, o1 + i * 8 + 5, none⟩ = some (.slice k1A k1m k1q) ∧ wr.drew.cell? ⟨b1, o1 + i * 8 + 6, none⟩ = some (.pointer k1p) ∧ wr.drew.cell? ⟨b1, o1 + i * 8 + 7, none⟩ = some (.slice k1B k1r k1s) ∧ wr.drew.cell? ⟨b2, o2 + i * 8 + 1, none⟩ = some (.int .i64 k2k) ∧ wr.drew.cell? ⟨b2, o2 + i * 8 + 2, none⟩ = some (.string k2t) ∧ wr.drew.cell? ⟨b2, o2 + i * 8 + 3, none⟩ = some (.string k2n) ∧ wr.drew.cell? ⟨b2, o2 + i * 8 + 4, none⟩ = some (.string k2a) ∧ wr.drew.cell? ⟨b2, o2 + i * 8 + 5, none⟩ = some (.slice k2A k2m k2q) ∧ wr.drew.cell? ⟨b2, o2 + i * 8 + 6, none⟩ = some (.pointer k2p) ∧ wr.drew.cell? ⟨b2, o2 + i * 8 + 7, none⟩ = some (.slice k2B k2r k2s) ∧ Below wr.heap.size wr wr.drew := ⟨b14, b24, e1, e2, F0, F1, F2, F3, F4, F5, F6, G0, G1, G2, G3, G4, G5, G6, (Below.refl _ _).drew⟩
      have HC := Lib.hid hC
      have HK := Lib.hid hK
      have HS0 := Lib.hid hS0
      clear hC hC0 hK hS0 f0 f1 f2 f3 f4 f5 f6 g0 g1 g2 g3 g4 g5 g6 hE1 hE2 hSm hcell hmem hli hx s1 s2 hb1 hb2
      go_wp2_with fail
      go_region_held3 (fun w' => w'.cell? ⟨w.heap.size, 4, none⟩ = some (.slice (some ⟨b1, o1, none⟩) al.length q1) ∧ w'.cell? ⟨w.heap.size + 1, 4, none⟩ = some (.slice (some ⟨b2, o2, none⟩) al.length q2) ∧ w'.cell? ⟨b1, o1 + i * 8, none⟩ = some (.string m) ∧ w'.cell? ⟨b2, o2 + i * 8, none⟩ = some (.string m) ∧ w'.cell? ⟨b1, o1 + i * 8 + 1, none⟩ = some (.int .i64 k1k) ∧ w'.cell? ⟨b1, o1 + i * 8 + 2, none⟩ = some (.string k1t) ∧ w'.cell? ⟨b1, o1 + i * 8 + 3, none⟩ = some (.string k1n) ∧ w'.cell? ⟨b1, o1 + i * 8 + 4, none⟩ = some (.string k1a) ∧ w'.cell? ⟨b1, o1 + i * 8 + 5, none⟩ = some (.slice k1A k1m k1q) ∧ w'.cell? ⟨b1, o1 + i * 8 + 6, none⟩ = some (.pointer k1p) ∧ w'.cell? ⟨b1, o1 + i * 8 + 7, none⟩ = some (.slice k1B k1r k1s) ∧ w'.cell? ⟨b2, o2 + i * 8 + 1, none⟩ = some (.int .i64 k2k) ∧ w'.cell? ⟨b2, o2 + i * 8 + 2, none⟩ = some (.string k2t) ∧ w'.cell? ⟨b2, o2 + i * 8 + 3, none⟩ = some (.string k2n) ∧ w'.cell? ⟨b2, o2 + i * 8 + 4, none⟩ = some (.string k2a) ∧ w'.cell? ⟨b2, o2 + i * 8 + 5, none⟩ = some (.slice k2A k2m k2q) ∧ w'.cell? ⟨b2, o2 + i * 8 + 6, none⟩ = some (.pointer k2p) ∧ w'.cell? ⟨b2, o2 + i * 8 + 7, none⟩ = some (.slice k2B k2r k2s) ∧ Below wr.heap.size wr w')
        (first | (exact HK.out _ _ (by assumption) (by assumption)) | (exact HS0.out) | go_keep)
        (first | (go_at_call 35; refine (HC.out _ (by assumption)).mono ?_; rintro e w' ⟨rfl, hb5⟩))
      rename_i hmE
      obtain ⟨_, _, _, _, _, _, _, _, _, _, _, _, _, _, _, _, _, _, hBE⟩ := hmE
      go_wp2_with fail
      refine ⟨⟨i + 1, by go_num, hlt, ?_, ?_, ?_⟩, by simp [intOf]; omega⟩
      · exact Lib.hid (HBel.out.trans (hBE.mono HBel.out.size))
      · exact Lib.hid (HX1.out.later hBE)
      · exact Lib.hid (HX2.out.later hBE)
    have d1 : decide ((i : Int) < (al.length : Int)) = false := decide_eq_false (by omega)
    have d2 : ¬ (i : Int) < (al.length : Int) := by omega
    have b16 := HX1.out.cell 6
    have b26 := HX2.out.cell 6
    simp at b16 b26
    go_wp2
    go_loopw [101] (fun t101 wr => ∃ i : Nat, t101 = .int .i64 i ∧ i ≤ vs.length ∧ Hid (Below w.heap.size w wr) ∧ Hid (BoxAt wr w.heap.size #[.int .i64 k, .string t, .string n, .string a, .slice A1 al.length q1, .pointer none, .slice B1 vs.length r1] 88) ∧ Hid (BoxAt wr (w.heap.size + 1) #[.int .i64 k, .string t, .string n, .string a, .slice A2 al.length q2, .pointer none, .slice B2 vs.length r2] 88)) (fun t101 _ => vs.length - (intOf t101).toNat)
    case atStart => exact ⟨0, rfl, Nat.zero_le _, HBel, HX1, HX2⟩
    case round =>
      clear b14 b24 b16 b26 hxl1 hxl2 HX1 HX2 HBel
      obtain ⟨v, rfl, hv, HBel, HX1, HX2⟩ := hrel
      have hv0 : (v : Int) ≤ 8000000 := by omega
      have hxl1 := HX1.out.lt
      have hxl2 := HX2.out.lt
      have b16 := HX1.out.cell 6
      have b26 := HX2.out.cell 6
      simp at b16 b26
      by_cases hlv : v < vs.length
      · have d3 : decide ((v : Int) < (vs.length : Int)) = true := decide_eq_true (by omega)
        have d4 : (v : Int) < (vs.length : Int) := by omega
        obtain ⟨b1, o1, rfl, hb1, g1⟩ := HV1.out v hlv
        obtain ⟨b2, o2, rfl, hb2, g2⟩ := HV2.out v hlv
        have hli : vs[v]? = some vs[v] := List.getElem?_eq_getElem hlv
        have hmem : vs[v] ∈ vs := List.getElem_mem hlv
        obtain ⟨m, dd, pv, hx⟩ : ∃ m dd pv, vs[v] = VA.mk m dd pv := by cases h : vs[v]; exact ⟨_, _, _, rfl⟩
        rw [hx] at hli hmem
        obtain ⟨s1, s2, u1, s3, hp1⟩ := g1 v m dd pv hli
        obtain ⟨s4, s5, u2, s6, hp2⟩ := g2 v m dd pv hli
        obtain ⟨hpl, hps⟩ := HP.out m dd pv hmem
        have hcell : ∀ (b o : Nat) z, b < W0.heap.size → W0.cell? ⟨b, o, none⟩ = some z → wr.cell? ⟨b, o, none⟩ = some z := fun b o z hb h =>
          (HBel.out.cell (p := ⟨b, o, none⟩) (Nat.lt_of_lt_of_le hb HB.out.size)).trans ((HB.out.cell (p := ⟨b, o, none⟩) hb).trans h)
        have hPc := fun W (h : Below W0.heap.size W0 W) => pats_any pv hp1 hp2 hpl hps W h
        obtain ⟨U1, w1, rfl, _⟩ := hp1
        obtain ⟨U2, w2, rfl, _⟩ := hp2
        have e1 := hcell _ _ _ hb1 s1
        have e2 := hcell _ _ _ hb1 s2
        have e3 := hcell _ _ _ hb1 s3
        have e4 := hcell _ _ _ hb2 s4
        have e5 := hcell _ _ _ hb2 s5
        have e6 := hcell _ _ _ hb2 s6
        have hbq := Nat.le_trans HB.out.size HBel.out.size
        have hbw1 : b1 < wr.heap.size := Nat.lt_of_lt_of_le hb1 hbq
        have hbw2 : b2 < wr.heap.size := Nat.lt_of_lt_of_le hb2 hbq
        have zm : (m.toList != m.toList) = false := bne_self_eq_false _
        have zd : (dd != dd) = false := bne_self_eq_false _
        have HPc := Lib.hid hPc
        have hs0 := HBel.out.size
        clear hPc hcell hmem hli hx s1 s2 s3 s4 s5 s6 hb1 hb2 g1 g2 hps
        go_wp2_with fail
        go_at_call 23
        refine (HPc.out _ (((HB.out.trans (HBel.out.mono HB.out.size)).alloc hbq _).alloc (by simp; omega) _)).mono ?_
        rintro e w3 ⟨rfl, hb3⟩
        have hb4 := (((Below.refl wr.heap.size wr).alloc (Nat.le_refl _) _).alloc (by simp) _).trans (hb3.mono (by simp; omega))
        have HB4 := Lib.hid (HBel.out.trans (hb4.mono hs0))
        have HX14 := Lib.hid (HX1.out.later hb4)
        have HX24 := Lib.hid (HX2.out.later hb4)
        clear hb3 hb4
        go_wp2
        go_roundw
        case rel => exact ⟨v + 1, by go_num, hlv, HB4, HX14, HX24⟩
        case measure => simp [intOf]; omega
      have d3 : decide ((v : Int) < (vs.length : Int)) = false := decide_eq_false (by omega)
      have d4 : ¬ (v : Int) < (vs.length : Int) := by omega
      have b15 := HX1.out.cell 5
      have b25 := HX2.out.cell 5
      simp at b15 b25
      go_wp2_with fail
      go_region
      all_goals (go_wp2_with fail)
      go_ret
      exact ⟨rfl, HBel.out.drew⟩
end Go.Proofs.YtamghpleajbonaaGreatDoor
