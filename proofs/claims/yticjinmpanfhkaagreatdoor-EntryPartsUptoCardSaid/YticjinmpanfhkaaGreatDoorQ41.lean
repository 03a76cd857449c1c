/-
  Several texts put together (part 41): what the law and the program call, walked; their contracts.
-/
import Derived.Test.YticjinmpanfhkaaGreatDoorQ40
import Derived.Test.YticjinmpanfhkaaGreatDoorQ10
/-
  law07.Same, patterns and SameEntry of two that are the same (written by bin/gen_sameentry.py).
-/
namespace Go.Proofs.YticjinmpanfhkaaGreatDoor
open Go.RowKit
set_option linter.unusedVariables false
set_option linter.unusedSimpArgs false

theorem same_all {W0 : World} : ∀ (m : Nat) (e : EX), e.size ≤ m → m ≤ 4000000 → SameTo W0 e
  | 0, .mk k t n a al ie vs, h, _ => by rw [EX.size] at h; omega
  | m + 1, .mk k t n a al ie vs, h, hm => by
    intro w c1 c2 hb h1 h2
    rw [EX.size] at h
    obtain ⟨A1, q1, p1, B1, r1, rfl, g1, g2, g3⟩ := ex_open h1
    obtain ⟨A2, q2, p2, B2, r2, rfl, g4, g5, g6⟩ := ex_open h2
    have hal := len_As al
    have hvs := len_Vs vs
    have hS : ∀ n e, AR.mk n e ∈ al → SameTo W0 e := fun n e he => same_all m e (by have := mem_As he; omega) (by omega)
    have hP : ∀ n d v, VA.mk n d v ∈ vs → v.length ≤ 8000000 ∧ ∀ t e, EL.mk t (some e) ∈ v → SameTo W0 e := fun n d v hv => by
      have h3 := mem_Vs hv
      have h4 := len_Es v
      exact ⟨by omega, fun t e he => same_all m e (by have := mem_Es he; omega) (by omega)⟩
    dsimp only [C7.arr]
    cases ie with
    | none =>
      simp only [OAt] at g2 g5
      cases g2
      cases g5
      exact same_no k t n a al vs (by omega) (by omega) hS hP A1 q1 B1 r1 A2 q2 B2 r2 g1 g4 g3 g6 w hb
    | some e =>
      simp only [OAt] at g2 g5
      obtain ⟨x1, y1, d1, e1, hx1, hk1, hi1⟩ := g2
      obtain ⟨x2, y2, d2, e2, hx2, hk2, hi2⟩ := g5
      cases e1
      cases e2
      rw [sizeO] at h
      exact same_in k t n a al e vs (by omega) (by omega) hS hP (same_all m e (by omega) (by omega)) A1 q1 B1 r1 A2 q2 B2 r2 x1 y1 x2 y2 d1 d2 hx1 hx2 hk1 hk2 hi1 hi2 g1 g4 g3 g6 w hb
theorem same_to {W0 : World} (e : EX) (h : e.size ≤ 4000000) : SameTo W0 e := same_all e.size e (Nat.le_refl _) h
theorem pats_same {W0 : World} (l : List EL) {v1 v2 : Value} (h1 : PatAt W0 l v1) (h2 : PatAt W0 l v2) (hl : sizeEs l ≤ 4000000) (w : World) (hb : Below W0.heap.size W0 w) :
    Calls Tryz.prog 34 #[v1, v2] w fun e w' => e = .returned (.bool true) ∧ Below w.heap.size w w' :=
  pats_any l h1 h2 (by have := len_Es l; omega) (fun t e he => same_to e (by have := mem_Es he; omega)) w hb
theorem mem_Ts : ∀ {l : List AT} {n : ByteArray} {v : List EL}, AT.mk n v ∈ l → sizeEs v ≤ sizeTs l
  | .mk n' v' :: r, n, v, h => by
    rw [sizeTs]
    rcases List.mem_cons.1 h with h | h
    · cases h; omega
    · have := mem_Ts h; omega
set_option maxHeartbeats 16000000 in
set_option maxRecDepth 1000000 in
theorem entry_same {W0 : World} (ty lv : Int) (tx nm : ByteArray) (l : List EL) (ats : List AT) {v1 v2 u1 u2 : Value} (f1 t1 f2 t2 : Int) (h1 : PatAt W0 l v1) (h2 : PatAt W0 l v2) (g1 : LieAt (TsAt W0 ats) u1 ats.length) (g2 : LieAt (TsAt W0 ats) u2 ats.length)
    (hl : sizeEs l ≤ 4000000) (hts : sizeTs ats ≤ 4000000) (w : World) (hb : Below W0.heap.size W0 w) :
    Calls Tryz.prog 17 #[entV ty lv tx nm v1 u1 f1 t1, entV ty lv tx nm v2 u2 f2 t2] w fun e w' => e = .returned (.bool true) ∧ Below w.heap.size w w' := by
  have hPl := fun W (h : Below W0.heap.size W0 W) => pats_same l h1 h2 hl W h
  have hA1 := fun i (hi : i < ats.length) => ats_get g1 hi
  have hA2 := fun i (hi : i < ats.length) => ats_get g2 hi
  obtain ⟨A1, c1, rfl, _⟩ := h1
  obtain ⟨A2, c2, rfl, _⟩ := h2
  obtain ⟨D1, q1, rfl, _⟩ := g1
  obtain ⟨D2, q2, rfl, _⟩ := g2
  have HPl := Lib.hid hPl
  have HA1 := Lib.hid hA1
  have HA2 := Lib.hid hA2
  have HB := Lib.hid hb
  have hs0 := hb.size
  have hle := len_Es l
  have hlt0 := sizeTs_length ats
  have hl0 : (l.length : Int) ≤ 4000000 := by omega
  have hat0 : (ats.length : Int) ≤ 4000000 := by omega
  have z1 : (tx.toList != tx.toList) = false := bne_self_eq_false _
  have z2 : (nm.toList != nm.toList) = false := bne_self_eq_false _
  have z3 : (ty != ty) = false := bne_self_eq_false _
  have z4 : (lv != lv) = false := bne_self_eq_false _
  have hbox1 : BoxAt ((w.alloc (.cells #[.int .i64 ty, .int .i64 lv, .string tx, .string nm, .slice A1 l.length c1, .slice D1 ats.length q1, .int .i64 f1, .int .i64 t1] 45)).alloc (.cells #[.int .i64 ty, .int .i64 lv, .string tx, .string nm, .slice A2 l.length c2, .slice D2 ats.length q2, .int .i64 f2, .int .i64 t2] 45)) w.heap.size #[.int .i64 ty, .int .i64 lv, .string tx, .string nm, .slice A1 l.length c1, .slice D1 ats.length q1, .int .i64 f1, .int .i64 t1] 45 := (BoxAt.new _ _ _).alloc _
  have hbox2 : BoxAt ((w.alloc (.cells #[.int .i64 ty, .int .i64 lv, .string tx, .string nm, .slice A1 l.length c1, .slice D1 ats.length q1, .int .i64 f1, .int .i64 t1] 45)).alloc (.cells #[.int .i64 ty, .int .i64 lv, .string tx, .string nm, .slice A2 l.length c2, .slice D2 ats.length q2, .int .i64 f2, .int .i64 t2] 45)) (w.heap.size + 1) #[.int .i64 ty, .int .i64 lv, .string tx, .string nm, .slice A2 l.length c2, .slice D2 ats.length q2, .int .i64 f2, .int .i64 t2] 45 := BoxAt.new' _ _ _ _ (by simp)
  have Hbox1 := Lib.hid hbox1
  have Hbox2 := Lib.hid hbox2
  clear hPl hA1 hA2 hb hbox1 hbox2
  unfold entV
  go_enter Tryz.func17, Tryz.ntmps17
  go_wp2
  go_loopw [44] (fun t44 wr => ∃ i : Nat, t44 = .int .i64 i ∧ i ≤ ats.length ∧ Hid (Below w.heap.size w wr) ∧ Hid (BoxAt wr w.heap.size #[.int .i64 ty, .int .i64 lv, .string tx, .string nm, .slice A1 l.length c1, .slice D1 ats.length q1, .int .i64 f1, .int .i64 t1] 45) ∧ Hid (BoxAt wr (w.heap.size + 1) #[.int .i64 ty, .int .i64 lv, .string tx, .string nm, .slice A2 l.length c2, .slice D2 ats.length q2, .int .i64 f2, .int .i64 t2] 45)) (fun t44 _ => ats.length - (intOf t44).toNat)
  case atStart => exact ⟨0, rfl, Nat.zero_le _, ((Below.refl _ _).alloc (Nat.le_refl _) _).alloc (by simp) _, Hbox1, Hbox2⟩
  case round =>
    obtain ⟨i, rfl, hi, HBel, HX1, HX2⟩ := hrel
    have hi0 : (i : Int) ≤ 8000000 := by omega
    have hxl1 := HX1.out.lt
    have hxl2 := HX2.out.lt
    have b15 := HX1.out.cell 5
    have b25 := HX2.out.cell 5
    have b14 := HX1.out.cell 4
    have b24 := HX2.out.cell 4
    simp at b14 b24 b15 b25
    have hbq := Nat.le_trans HB.out.size HBel.out.size
    by_cases hlt : i < ats.length
    · have d1 : decide ((i : Int) < (ats.length : Int)) = true := decide_eq_true (by omega)
      have d2 : (i : Int) < (ats.length : Int) := by omega
      obtain ⟨b1, o1, c1', e1', hb1, g1⟩ := HA1.out i hlt
      obtain ⟨b2, o2, c2', e2', hb2, g2⟩ := HA2.out i hlt
      cases e1'
      cases e2'
      have hli : ats[i]? = some ats[i] := List.getElem?_eq_getElem hlt
      have hmem : ats[i] ∈ ats := List.getElem_mem hlt
      obtain ⟨m, p, hx⟩ : ∃ m p, ats[i] = AT.mk m p := by cases h : ats[i]; exact ⟨_, _, rfl⟩
      rw [hx] at hli hmem
      obtain ⟨s1, u1, s2, hp1⟩ := g1 i m p hli
      obtain ⟨s3, u2, s4, hp2⟩ := g2 i m p hli
      have hps := mem_Ts hmem
      have hcell : ∀ (b o : Nat) v, b < W0.heap.size → W0.cell? ⟨b, o, none⟩ = some v → wr.cell? ⟨b, o, none⟩ = some v := fun b o v hb h =>
        (HBel.out.cell (p := ⟨b, o, none⟩) (Nat.lt_of_lt_of_le hb HB.out.size)).trans ((HB.out.cell (p := ⟨b, o, none⟩) hb).trans h)
      have hPc := fun W (h : Below W0.heap.size W0 W) => pats_same p hp1 hp2 (by omega) W h
      obtain ⟨U1, w1, rfl, _⟩ := hp1
      obtain ⟨U2, w2, rfl, _⟩ := hp2
      have e1 := hcell _ _ _ hb1 s1
      have e2 := hcell _ _ _ hb2 s3
      have e3 := hcell _ _ _ hb1 s2
      have e4 := hcell _ _ _ hb2 s4
      have hbw1 : b1 < wr.heap.size := Nat.lt_of_lt_of_le hb1 hbq
      have hbw2 : b2 < wr.heap.size := Nat.lt_of_lt_of_le hb2 hbq
      have zm : (m.toList != m.toList) = false := bne_self_eq_false _
      have hC : ∀ W : World, W.cell? ⟨w.heap.size, 5, none⟩ = some (.slice (some ⟨b1, o1, none⟩) ats.length q1) ∧ W.cell? ⟨w.heap.size + 1, 5, none⟩ = some (.slice (some ⟨b2, o2, none⟩) ats.length q2) ∧ W.cell? ⟨b1, o1 + i * 2, none⟩ = some (.string m) ∧ W.cell? ⟨b2, o2 + i * 2, none⟩ = some (.string m) ∧ W.cell? ⟨b1, o1 + i * 2 + 1, none⟩ = some (.slice U1 p.length w1) ∧ W.cell? ⟨b2, o2 + i * 2 + 1, none⟩ = some (.slice U2 p.length w2) ∧ Below wr.heap.size wr W → Calls Tryz.prog 34 #[.slice U1 p.length w1, .slice U2 p.length w2] W fun e w' => e = .returned (.bool true) ∧ Below W.heap.size W w' := fun W h => hPc W ((HB.out.trans (HBel.out.mono HB.out.size)).trans (h.2.2.2.2.2.2.mono hbq))
      have hK : ∀ W W' : World, (W.cell? ⟨w.heap.size, 5, none⟩ = some (.slice (some ⟨b1, o1, none⟩) ats.length q1) ∧ W.cell? ⟨w.heap.size + 1, 5, none⟩ = some (.slice (some ⟨b2, o2, none⟩) ats.length q2) ∧ W.cell? ⟨b1, o1 + i * 2, none⟩ = some (.string m) ∧ W.cell? ⟨b2, o2 + i * 2, none⟩ = some (.string m) ∧ W.cell? ⟨b1, o1 + i * 2 + 1, none⟩ = some (.slice U1 p.length w1) ∧ W.cell? ⟨b2, o2 + i * 2 + 1, none⟩ = some (.slice U2 p.length w2) ∧ Below wr.heap.size wr W) → Below W.heap.size W W' → W'.cell? ⟨w.heap.size, 5, none⟩ = some (.slice (some ⟨b1, o1, none⟩) ats.length q1) ∧ W'.cell? ⟨w.heap.size + 1, 5, none⟩ = some (.slice (some ⟨b2, o2, none⟩) ats.length q2) ∧ W'.cell? ⟨b1, o1 + i * 2, none⟩ = some (.string m) ∧ W'.cell? ⟨b2, o2 + i * 2, none⟩ = some (.string m) ∧ W'.cell? ⟨b1, o1 + i * 2 + 1, none⟩ = some (.slice U1 p.length w1) ∧ W'.cell? ⟨b2, o2 + i * 2 + 1, none⟩ = some (.slice U2 p.length w2) ∧ Below wr.heap.size wr W' := fun W W' ⟨a0, a1, a2, a3, a4, a5, hB⟩ hb =>
        ⟨cell_under hb a0, cell_under hb a1, cell_under hb a2, cell_under hb a3, cell_under hb a4, cell_under hb a5, hB.trans (hb.mono hB.size)⟩
      have hS0 : wr.drew.cell? ⟨w.heap.size, 5, none⟩ = some (.slice (some ⟨b1, o1, none⟩) ats.length q1) ∧ wr.drew.cell? ⟨w.heap.size + 1, 5, none⟩ = some (.slice (some ⟨b2, o2, none⟩) ats.length q2) ∧ wr.drew.cell? ⟨b1, o1 + i * 2, none⟩ = some (.string m) ∧ wr.drew.cell? ⟨b2, o2 + i * 2, none⟩ = some (.string m) ∧ wr.drew.cell? ⟨b1, o1 + i * 2 + 1, none⟩ = some (.slice U1 p.length w1) ∧ wr.drew.cell? ⟨b2, o2 + i * 2 + 1, none⟩ = some (.slice U2 p.length w2) ∧ Below wr.heap.size wr wr.drew := ⟨b15, b25, e1, e2, e3, e4, (Below.refl _ _).drew⟩
      have HC := Lib.hid hC
      have HK := Lib.hid hK
      have HS0 := Lib.hid hS0
      clear hC hK hS0 hPc hcell hmem hli hx s1 s2 s3 s4 hb1 hb2 g1 g2 hps b14 b24
      go_wp2_with fail
      go_region_held3 (fun w' => w'.cell? ⟨w.heap.size, 5, none⟩ = some (.slice (some ⟨b1, o1, none⟩) ats.length q1) ∧ w'.cell? ⟨w.heap.size + 1, 5, none⟩ = some (.slice (some ⟨b2, o2, none⟩) ats.length q2) ∧ w'.cell? ⟨b1, o1 + i * 2, none⟩ = some (.string m) ∧ w'.cell? ⟨b2, o2 + i * 2, none⟩ = some (.string m) ∧ w'.cell? ⟨b1, o1 + i * 2 + 1, none⟩ = some (.slice U1 p.length w1) ∧ w'.cell? ⟨b2, o2 + i * 2 + 1, none⟩ = some (.slice U2 p.length w2) ∧ Below wr.heap.size wr w')
        (first | (exact HK.out _ _ (by assumption) (by assumption)) | (exact HS0.out) | go_keep)
        (first | (go_at_call 34; refine (HC.out _ (by assumption)).mono ?_; rintro e w' ⟨rfl, hb5⟩))
      rename_i hmE
      obtain ⟨_, _, _, _, _, _, hBE⟩ := hmE
      go_wp2_with fail
      refine ⟨⟨i + 1, by go_num, hlt, ?_, ?_, ?_⟩, by simp [intOf]; omega⟩
      · exact Lib.hid (HBel.out.trans (hBE.mono HBel.out.size))
      · exact Lib.hid (HX1.out.later hBE)
      · exact Lib.hid (HX2.out.later hBE)
    have d1 : decide ((i : Int) < (ats.length : Int)) = false := decide_eq_false (by omega)
    have d2 : ¬ (i : Int) < (ats.length : Int) := by omega
    go_wp2_with fail
    go_at_call 34
    refine (HPl.out _ (HB.out.trans (HBel.out.mono HB.out.size))).mono ?_
    rintro e w3 ⟨rfl, hb3⟩
    have HB3 := Lib.hid (HBel.out.trans (hb3.mono HBel.out.size))
    clear hb3
    go_wp2
    go_ret
    exact ⟨rfl, HB3.out⟩
end Go.Proofs.YticjinmpanfhkaaGreatDoor
