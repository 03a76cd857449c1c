/-
  Several texts put together (part 20): what the law and the program call, walked; their contracts.
-/
import Derived.Test.YtdoambpiafkmmaaGreatDoorQ19
import Derived.Test.YtdoambpiafkmmaaGreatDoorQ8
import Derived.Test.YtdoambpiafkmmaaGreatDoorQ4
import Derived.Test.YtdoambpiafkmmaaGreatDoorQ1
import Derived.Test.YtdoambpiafkmmaaGreatDoorQ11
import Derived.Test.YtdoambpiafkmmaaGreatDoorQ5
import Derived.Lib.MapLaws
import Derived.Maps.Own
import Derived.Maps.OwnOps
import Derived.Maps.OwnSet
import Derived.Maps.Views
import Derived.WideMake
namespace Go.Proofs.YtdoambpiafkmmaaGreatDoor
open Go.RowKit
set_option linter.unusedVariables false
set_option linter.unusedSimpArgs false
theorem same_all {W0 : World} : ∀ (m : Nat) (e : EX), e.size ≤ m → m ≤ 4000000 → SameTo W0 e
  | 0, .mk k t n a al ie vs, h, _ => by rw [EX.size] at h; omega
  | m + 1, .mk k t n a al ie vs, h, hm => by
    intro w c1 c2 hb h1 h2
    rw [EX.size] at h
    obtain ⟨A1, q1, p1, B1, r1, rfl, g1, g2, g3⟩ := ex_open h1
    obtain ⟨A2, q2, p2, B2, r2, rfl, g4, g5, g6⟩ := ex_open h2
    have hal := len_As al
    have hvs := len_Vs vs
    have hS : ∀ n e, AR.mk n e ∈ al → SameTo W0 e := fun n e he => same_all m e (by have := mem_As he; omega) (by omega)
    have hP : ∀ n d v, VA.mk n d v ∈ vs → v.length ≤ 8000000 ∧ ∀ t e, EL.mk t (some e) ∈ v → SameTo W0 e := fun n d v hv => by
      have h3 := mem_Vs hv
      have h4 := len_Es v
      exact ⟨by omega, fun t e he => same_all m e (by have := mem_Es he; omega) (by omega)⟩
    dsimp only [C7.arr]
    cases ie with
    | none =>
      simp only [OAt] at g2 g5
      cases g2
      cases g5
      exact same_no k t n a al vs (by omega) (by omega) hS hP A1 q1 B1 r1 A2 q2 B2 r2 g1 g4 g3 g6 w hb
    | some e =>
      simp only [OAt] at g2 g5
      obtain ⟨x1, y1, d1, e1, hx1, hk1, hi1⟩ := g2
      obtain ⟨x2, y2, d2, e2, hx2, hk2, hi2⟩ := g5
      cases e1
      cases e2
      rw [sizeO] at h
      exact same_in k t n a al e vs (by omega) (by omega) hS hP (same_all m e (by omega) (by omega)) A1 q1 B1 r1 A2 q2 B2 r2 x1 y1 x2 y2 d1 d2 hx1 hx2 hk1 hk2 hi1 hi2 g1 g4 g3 g6 w hb
theorem same_to {W0 : World} (e : EX) (h : e.size ≤ 4000000) : SameTo W0 e := same_all e.size e (Nat.le_refl _) h
theorem pats_same {W0 : World} (l : List EL) {v1 v2 : Value} (h1 : PatAt W0 l v1) (h2 : PatAt W0 l v2) (hl : sizeEs l ≤ 4000000) (w : World) (hb : Below W0.heap.size W0 w) :
    Calls Tryz.prog 34 #[v1, v2] w fun e w' => e = .returned (.bool true) ∧ Below w.heap.size w w' :=
  pats_any l h1 h2 (by have := len_Es l; omega) (fun t e he => same_to e (by have := mem_Es he; omega)) w hb
theorem mem_Ts : ∀ {l : List AT} {n : ByteArray} {v : List EL}, AT.mk n v ∈ l → sizeEs v ≤ sizeTs l
  | .mk n' v' :: r, n, v, h => by
    rw [sizeTs]
    rcases List.mem_cons.1 h with h | h
    · cases h; omega
    · have := mem_Ts h; omega
set_option maxHeartbeats 16000000 in
set_option maxRecDepth 1000000 in
theorem entry_same {W0 : World} (ty lv : Int) (tx nm : ByteArray) (l : List EL) (ats : List AT) {v1 v2 u1 u2 : Value} (f1 t1 f2 t2 : Int) (h1 : PatAt W0 l v1) (h2 : PatAt W0 l v2) (g1 : LieAt (TsAt W0 ats) u1 ats.length) (g2 : LieAt (TsAt W0 ats) u2 ats.length)
    (hl : sizeEs l ≤ 4000000) (hts : sizeTs ats ≤ 4000000) (w : World) (hb : Below W0.heap.size W0 w) :
    Calls Tryz.prog 17 #[entV ty lv tx nm v1 u1 f1 t1, entV ty lv tx nm v2 u2 f2 t2] w fun e w' => e = .returned (.bool true) ∧ Below w.heap.size w w' := by
  have hPl := fun W (h : Below W0.heap.size W0 W) => pats_same l h1 h2 hl W h
  have hA1 := fun i (hi : i < ats.length) => ats_get g1 hi
  have hA2 := fun i (hi : i < ats.length) => ats_get g2 hi
  obtain ⟨A1, c1, rfl, _⟩ := h1
  obtain ⟨A2, c2, rfl, _⟩ := h2
  obtain ⟨D1, q1, rfl, _⟩ := g1
  obtain ⟨D2, q2, rfl, _⟩ := g2
  have HPl := Lib.hid hPl
  have HA1 := Lib.hid hA1
  have HA2 := Lib.hid hA2
  have HB := Lib.hid hb
  have hs0 := hb.size
  have hle := len_Es l
  have hlt0 := sizeTs_length ats
  have hl0 : (l.length : Int) ≤ 4000000 := by omega
  have hat0 : (ats.length : Int) ≤ 4000000 := by omega
  have z1 : (tx.toList != tx.toList) = false := bne_self_eq_false _
  have z2 : (nm.toList != nm.toList) = false := bne_self_eq_false _
  have z3 : (ty != ty) = false := bne_self_eq_false _
  have z4 : (lv != lv) = false := bne_self_eq_false _
  have hbox1 : BoxAt ((w.alloc (.cells #[.int .i64 ty, .int .i64 lv, .string tx, .string nm, .slice A1 l.length c1, .slice D1 ats.length q1, .int .i64 f1, .int .i64 t1] 45)).alloc (.cells #[.int .i64 ty, .int .i64 lv, .string tx, .string nm, .slice A2 l.length c2, .slice D2 ats.length q2, .int .i64 f2, .int .i64 t2] 45)) w.heap.size #[.int .i64 ty, .int .i64 lv, .string tx, .string nm, .slice A1 l.length c1, .slice D1 ats.length q1, .int .i64 f1, .int .i64 t1] 45 := (BoxAt.new _ _ _).alloc _
  have hbox2 : BoxAt ((w.alloc (.cells #[.int .i64 ty, .int .i64 lv, .string tx, .string nm, .slice A1 l.length c1, .slice D1 ats.length q1, .int .i64 f1, .int .i64 t1] 45)).alloc (.cells #[.int .i64 ty, .int .i64 lv, .string tx, .string nm, .slice A2 l.length c2, .slice D2 ats.length q2, .int .i64 f2, .int .i64 t2] 45)) (w.heap.size + 1) #[.int .i64 ty, .int .i64 lv, .string tx, .string nm, .slice A2 l.length c2, .slice D2 ats.length q2, .int .i64 f2, .int .i64 t2] 45 := BoxAt.new' _ _ _ _ (by simp)
  have Hbox1 := Lib.hid hbox1
  have Hbox2 := Lib.hid hbox2
  clear hPl hA1 hA2 hb hbox1 hbox2
  unfold entV
  go_enter Tryz.func17, Tryz.ntmps17
  go_wp2
  go_loopw [44] (fun t44 wr => ∃ i : Nat, t44 = .int .i64 i ∧ i ≤ ats.length ∧ Hid (Below w.heap.size w wr) ∧ Hid (BoxAt wr w.heap.size #[.int .i64 ty, .int .i64 lv, .string tx, .string nm, .slice A1 l.length c1, .slice D1 ats.length q1, .int .i64 f1, .int .i64 t1] 45) ∧ Hid (BoxAt wr (w.heap.size + 1) #[.int .i64 ty, .int .i64 lv, .string tx, .string nm, .slice A2 l.length c2, .slice D2 ats.length q2, .int .i64 f2, .int .i64 t2] 45)) (fun t44 _ => ats.length - (intOf t44).toNat)
  case atStart => exact ⟨0, rfl, Nat.zero_le _, ((Below.refl _ _).alloc (Nat.le_refl _) _).alloc (by simp) _, Hbox1, Hbox2⟩
  case round =>
    obtain ⟨i, rfl, hi, HBel, HX1, HX2⟩ := hrel
    have hi0 : (i : Int) ≤ 8000000 := by omega
    have hxl1 := HX1.out.lt
    have hxl2 := HX2.out.lt
    have b15 := HX1.out.cell 5
    have b25 := HX2.out.cell 5
    have b14 := HX1.out.cell 4
    have b24 := HX2.out.cell 4
    simp at b14 b24 b15 b25
    have hbq := Nat.le_trans HB.out.size HBel.out.size
    by_cases hlt : i < ats.length
    · have d1 : decide ((i : Int) < (ats.length : Int)) = true := decide_eq_true (by omega)
      have d2 : (i : Int) < (ats.length : Int) := by omega
      obtain ⟨b1, o1, c1', e1', hb1, g1⟩ := HA1.out i hlt
      obtain ⟨b2, o2, c2', e2', hb2, g2⟩ := HA2.out i hlt
      cases e1'
      cases e2'
      have hli : ats[i]? = some ats[i] := List.getElem?_eq_getElem hlt
      have hmem : ats[i] ∈ ats := List.getElem_mem hlt
      obtain ⟨m, p, hx⟩ : ∃ m p, ats[i] = AT.mk m p := by cases h : ats[i]; exact ⟨_, _, rfl⟩
      rw [hx] at hli hmem
      obtain ⟨s1, u1, s2, hp1⟩ := g1 i m p hli
      obtain ⟨s3, u2, s4, hp2⟩ := g2 i m p hli
      have hps := mem_Ts hmem
      have hcell : ∀ (b o : Nat) v, b < W0.heap.size → W0.cell? ⟨b, o, none⟩ = some v → wr.cell? ⟨b, o, none⟩ = some v := fun b o v hb h =>
        (HBel.out.cell (p := ⟨b, o, none⟩) (Nat.lt_of_lt_of_le hb HB.out.size)).trans ((HB.out.cell (p := ⟨b, o, none⟩) hb).trans h)
      have hPc := fun W (h : Below W0.heap.size W0 W) => pats_same p hp1 hp2 (by omega) W h
      obtain ⟨U1, w1, rfl, _⟩ := hp1
      obtain ⟨U2, w2, rfl, _⟩ := hp2
      have e1 := hcell _ _ _ hb1 s1
      have e2 := hcell _ _ _ hb2 s3
      have e3 := hcell _ _ _ hb1 s2
      have e4 := hcell _ _ _ hb2 s4
      have hbw1 : b1 < wr.heap.size := Nat.lt_of_lt_of_le hb1 hbq
      have hbw2 : b2 < wr.heap.size := Nat.lt_of_lt_of_le hb2 hbq
      have zm : (m.toList != m.toList) = false := bne_self_eq_false _
      have hC : ∀ W : World, W.cell? ⟨w.heap.size, 5, none⟩ = some (.slice (some ⟨b1, o1, none⟩) ats.length q1) ∧ W.cell? ⟨w.heap.size + 1, 5, none⟩ = some (.slice (some ⟨b2, o2, none⟩) ats.length q2) ∧ W.cell? ⟨b1, o1 + i * 2, none⟩ = some (.string m) ∧ W.cell? ⟨b2, o2 + i * 2, none⟩ = some (.string m) ∧ W.cell? ⟨b1, o1 + i * 2 + 1, none⟩ = some (.slice U1 p.length w1) ∧ W.cell? ⟨b2, o2 + i * 2 + 1, none⟩ = some (.slice U2 p.length w2) ∧ Below wr.heap.size wr W → Calls Tryz.prog 34 #[.slice U1 p.length w1, .slice U2 p.length w2] W fun e w' => e = .returned (.bool true) ∧ Below W.heap.size W w' := fun W h => hPc W ((HB.out.trans (HBel.out.mono HB.out.size)).trans (h.2.2.2.2.2.2.mono hbq))
      have hK : ∀ W W' : World, (W.cell? ⟨w.heap.size, 5, none⟩ = some (.slice (some ⟨b1, o1, none⟩) ats.length q1) ∧ W.cell? ⟨w.heap.size + 1, 5, none⟩ = some (.slice (some ⟨b2, o2, none⟩) ats.length q2) ∧ W.cell? ⟨b1, o1 + i * 2, none⟩ = some (.string m) ∧ W.cell? ⟨b2, o2 + i * 2, none⟩ = some (.string m) ∧ W.cell? ⟨b1, o1 + i * 2 + 1, none⟩ = some (.slice U1 p.length w1) ∧ W.cell? ⟨b2, o2 + i * 2 + 1, none⟩ = some (.slice U2 p.length w2) ∧ Below wr.heap.size wr W) → Below W.heap.size W W' → W'.cell? ⟨w.heap.size, 5, none⟩ = some (.slice (some ⟨b1, o1, none⟩) ats.length q1) ∧ W'.cell? ⟨w.heap.size + 1, 5, none⟩ = some (.slice (some ⟨b2, o2, none⟩) ats.length q2) ∧ W'.cell? ⟨b1, o1 + i * 2, none⟩ = some (.string m) ∧ W'.cell? ⟨b2, o2 + i * 2, none⟩ = some (.string m) ∧ W'.cell? ⟨b1, o1 + i * 2 + 1, none⟩ = some (.slice U1 p.length w1) ∧ W'.cell? ⟨b2, o2 + i * 2 + 1, none⟩ = some (.slice U2 p.length w2) ∧ Below wr.heap.size wr W' := fun W W' ⟨a0, a1, a2, a3, a4, a5, hB⟩ hb =>
        ⟨cell_under hb a0, cell_under hb a1, cell_under hb a2, cell_under hb a3, cell_under hb a4, cell_under hb a5, hB.trans (hb.mono hB.size)⟩
      have hS0 : wr.drew.cell? ⟨w.heap.size, 5, none⟩ = some (.slice (some ⟨b1, o1, none⟩) ats.length q1) ∧ wr.drew.cell? ⟨w.heap.size + 1, 5, none⟩ = some (.slice (some ⟨b2, o2, none⟩) ats.length q2) ∧ wr.drew.cell? ⟨b1, o1 + i * 2, none⟩ = some (.string m) ∧ wr.drew.cell? ⟨b2, o2 + i * 2, none⟩ = some (.string m) ∧ wr.drew.cell? ⟨b1, o1 + i * 2 + 1, none⟩ = some (.slice U1 p.length w1) ∧ wr.drew.cell? ⟨b2, o2 + i * 2 + 1, none⟩ = some (.slice U2 p.length w2) ∧ Below wr.heap.size wr wr.drew := ⟨b15, b25, e1, e2, e3, e4, (Below.refl _ _).drew⟩
      have HC := Lib.hid hC
      have HK := Lib.hid hK
      have HS0 := Lib.hid hS0
      clear hC hK hS0 hPc hcell hmem hli hx s1 s2 s3 s4 hb1 hb2 g1 g2 hps b14 b24
      go_wp2_with fail
      go_region_held3 (fun w' => w'.cell? ⟨w.heap.size, 5, none⟩ = some (.slice (some ⟨b1, o1, none⟩) ats.length q1) ∧ w'.cell? ⟨w.heap.size + 1, 5, none⟩ = some (.slice (some ⟨b2, o2, none⟩) ats.length q2) ∧ w'.cell? ⟨b1, o1 + i * 2, none⟩ = some (.string m) ∧ w'.cell? ⟨b2, o2 + i * 2, none⟩ = some (.string m) ∧ w'.cell? ⟨b1, o1 + i * 2 + 1, none⟩ = some (.slice U1 p.length w1) ∧ w'.cell? ⟨b2, o2 + i * 2 + 1, none⟩ = some (.slice U2 p.length w2) ∧ Below wr.heap.size wr w')
        (first | (exact HK.out _ _ (by assumption) (by assumption)) | (exact HS0.out) | go_keep)
        (first | (go_at_call 34; refine (HC.out _ (by assumption)).mono ?_; rintro e w' ⟨rfl, hb5⟩))
      rename_i hmE
      obtain ⟨_, _, _, _, _, _, hBE⟩ := hmE
      go_wp2_with fail
      refine ⟨⟨i + 1, by go_num, hlt, ?_, ?_, ?_⟩, by simp [intOf]; omega⟩
      · exact Lib.hid (HBel.out.trans (hBE.mono HBel.out.size))
      · exact Lib.hid (HX1.out.later hBE)
      · exact Lib.hid (HX2.out.later hBE)
    have d1 : decide ((i : Int) < (ats.length : Int)) = false := decide_eq_false (by omega)
    have d2 : ¬ (i : Int) < (ats.length : Int) := by omega
    go_wp2_with fail
    go_at_call 34
    refine (HPl.out _ (HB.out.trans (HBel.out.mono HB.out.size))).mono ?_
    rintro e w3 ⟨rfl, hb3⟩
    have HB3 := Lib.hid (HBel.out.trans (hb3.mono HBel.out.size))
    clear hb3
    go_wp2
    go_ret
    exact ⟨rfl, HB3.out⟩
end Go.Proofs.YtdoambpiafkmmaaGreatDoor

namespace Go.Proofs
open Go.Shelf
end Go.Proofs

namespace Go.Proofs.YtdoambpiafkmmaaGreatDoor
open Go.RowKit
set_option linter.unusedVariables false
theorem Utf8Tabs.below {g3 g4 : Nat} {w w1 : World} (h : Lib.Utf8Tabs g3 g4 w) (hb : Below w.heap.size w w1) : Lib.Utf8Tabs g3 g4 w1 := by
  have lt : ∀ {b o : Nat} {v : Value}, w.cell? ⟨b, o, none⟩ = some v → b < w.heap.size := fun hc => World.block_lt_of_cell? w _ hc
  obtain ⟨h1, h2⟩ := h
  exact ⟨fun c hc => by rw [(bcell hb).1 _ _ (lt (h1 c hc))]; exact h1 c hc,
    fun i hi => ⟨by rw [(bcell hb).1 _ _ (lt (h2 i hi).1)]; exact (h2 i hi).1, by rw [(bcell hb).1 _ _ (lt (h2 i hi).2)]; exact (h2 i hi).2⟩⟩
def TabU (w : World) : Prop := Lib.Utf8Tabs 0 1 w
theorem TabU.below {w w1 : World} (h : TabU w) (hb : Below w.heap.size w w1) : TabU w1 := Utf8Tabs.below h hb
end Go.Proofs.YtdoambpiafkmmaaGreatDoor

namespace Go.Proofs.YtdoambpiafkmmaaGreatDoor
open Go.RowKit
set_option linter.unusedVariables false
set_option linter.unusedSimpArgs false
def strSize : Value → Nat | .string b => b.size | _ => 0
theorem decodeL_pos (l : List UInt8) : 1 ≤ (Lib.decodeL l).2 := Lib.decodeL_width l
theorem ext_size (t : ByteArray) (n : Nat) (h : n ≤ t.size) : (t.extract 0 n).size = n ∧ (t.extract n t.size).size = t.size - n := by
  constructor
  · simp; omega
  · simp
theorem runeIn_any (s : ByteArray) (w : World) (hT : TabU w) (hs : 0 < s.size) : Calls Tryz.prog 47 #[.string s] w fun e w' => e = .returned (.tuple #[.int .i32 (Lib.decodeL s.data.toList).1, .int .i64 (Lib.decodeL s.data.toList).2]) ∧ Below w.heap.size w w' := by
  have h := Tryz.utf8_DecodeRuneInString s w hT
  have e : Lib.decodeGo s = Lib.decodeL s.data.toList := by
    unfold Lib.decodeGo Lib.decodeL
    rw [if_neg (by omega)]
  rw [e] at h
  exact h
theorem infoStr : (Tryz.prog.info? 9).map (fun i => (i.zero, i.size, i.bytes)) = some (some (.string ⟨#[]⟩), 1, 16) := by kernel_rfl
def sigs : Nat → List UInt8 → Option (List (List UInt8))
  | 0, _ => some []
  | f + 1, l => if l = [] then some [] else if (Lib.decodeL l).1 = 65533 ∧ (Lib.decodeL l).2 ≤ 1 then none else (sigs f (l.drop (Lib.decodeL l).2)).map (l.take (Lib.decodeL l).2 :: ·)
def strV (l : List UInt8) : Value := .string ⟨l.toArray⟩
def sigAll (l : List UInt8) : Option (List (List UInt8)) := sigs l.length l
def SignsEnd (l : List UInt8) (B : Nat) (w' : World) (e : Ending) : Prop :=
  (sigAll l = none ∧ e = .returned (.tuple #[.slice none 0 0, .bool false])) ∨ ∃ xs v, sigAll l = some xs ∧ xs.length ≤ l.length ∧ e = .returned (.tuple #[v, .bool true]) ∧ w'.ownsRowF B 9 1 v xs.length (xs.map strV)
theorem sigs_step (f : Nat) (l : List UInt8) (hne : l ≠ []) : sigs (f + 1) l = if (Lib.decodeL l).1 = 65533 ∧ (Lib.decodeL l).2 ≤ 1 then none else (sigs f (l.drop (Lib.decodeL l).2)).map (l.take (Lib.decodeL l).2 :: ·) := by
  rw [sigs, if_neg hne]
theorem sigs_nil (f : Nat) : sigs f [] = some [] := by cases f <;> rfl
theorem strV_extract (t : ByteArray) (n : Nat) : strV (t.data.toList.take n) = .string (t.extract 0 n) := by
  unfold strV
  congr 1
  apply bytes_eq
  rw [extract_take]
theorem ownsRowF_below {w w1 : World} {base : Nat} {e : TypeId} {size : Nat} {v : Value} {n : Nat} {xs : List Value} (h : w.ownsRowF base e size v n xs) (hb : Below w.heap.size w w1) : w1.ownsRowF base e size v n xs := by
  refine ⟨h.1, ?_⟩
  rcases h.2 with hn | ⟨g, cap, cur, fz, hv, hbg, hg, rest⟩
  · exact Or.inl hn
  · exact Or.inr ⟨g, cap, cur, fz, hv, hbg, (hb.block g (Array.getElem?_eq_some_iff.1 hg).1).trans hg, rest⟩
theorem owns_empty (w : World) (e : TypeId) : (w.alloc (.cells #[] e)).ownsRowF w.heap.size e 1 (.slice (some ⟨w.heap.size, 0, none⟩) 0 0) 0 [] := by
  refine ⟨rfl, Or.inr ⟨w.heap.size, 0, #[], (0, 0), rfl, Nat.le_refl _, heap_alloc_new w _, Nat.le_refl _, Nat.le_refl _, by decide, rfl, ?_⟩⟩
  simp
set_option maxHeartbeats 4000000 in
set_option maxRecDepth 1000000 in
theorem signs_any (s : ByteArray) (w : World) (hT : TabU w) (hs : s.size ≤ 4000000) :
    Calls Tryz.prog 24 #[.string s] w fun e w' => SignsEnd s.data.toList w.heap.size w' e ∧ Below w.heap.size w w' := by
  obtain ⟨i0, hi, hz0, hz1, hz2⟩ := info_parts infoStr
  have hTw := Lib.hid hT
  clear hT
  go_enter Tryz.func24, Tryz.ntmps24
  go_wp2
  go_loopw [0, 4] (fun st ot wr => ∃ (t : ByteArray) (done : List (List UInt8)) (f : Nat), st = .string t ∧ Hid (wr.ownsRowF w.heap.size 9 1 ot done.length (done.map strV)) ∧ Hid ((sigs f t.data.toList).map (done ++ ·) = sigAll s.data.toList) ∧ Hid (t.size ≤ f) ∧ Hid (done.length + t.size ≤ s.size) ∧ Below w.heap.size w wr) (fun st _ _ => strSize st)
  case atStart =>
    refine ⟨s, [], s.size, rfl, ?_, ?_, by show s.size ≤ s.size; omega, by show 0 + s.size ≤ s.size; omega, (Below.refl _ w).alloc (Nat.le_refl _) _⟩
    · exact owns_empty w 9
    · show _ = _
      unfold sigAll
      rw [size_data]
      cases sigs s.size s.data.toList <;> simp
  case round =>
    obtain ⟨t, done, f, rfl, Hown, Hsig, Hf, Hlen, hbw⟩ := hrel
    by_cases h0 : 0 < t.size
    · have hne : t.data.toList ≠ [] := by
        intro e
        have h1 := size_data t
        rw [e, List.length_nil] at h1
        omega
      obtain ⟨f, rfl⟩ : ∃ f', f = f' + 1 := ⟨f - 1, by have := Hf.out; omega⟩
      have hsg := Hsig.out
      rw [sigs_step f _ hne] at hsg
      have hw1 := decodeL_pos t.data.toList
      have hw2 := Lib.decodeL_le t.data.toList hne
      have hcall' := runeIn_any t wr (hTw.out.below hbw) h0
      have hsv := strV_extract t (Lib.decodeL t.data.toList).2
      have hed := extract_drop t (Lib.decodeL t.data.toList).2
      rw [size_data] at hw2
      generalize Lib.decodeL t.data.toList = rn at *
      obtain ⟨r, n⟩ := rn
      dsimp only at *
      have Hsv := Lib.hid hsv
      have Hed := Lib.hid hed
      have Hsg := Lib.hid hsg
      have hflen := Hlen.out
      clear hsv hed hsg hne Hsig
      have hn1 : (1 : Int) ≤ n := by omega
      have hn2 : (n : Int) ≤ t.size := by omega
      by_cases hbad : r = 65533 ∧ n ≤ 1
      · obtain ⟨hr, hn⟩ := hbad
        obtain rfl : n = 1 := by omega
        subst hr
        have hfin := Hsg.out
        rw [if_pos ⟨rfl, Nat.le_refl _⟩] at hfin
        have Hfin := Lib.hid hfin
        clear hfin Hsg
        go_wp2_with fail
        go_at_call 47
        refine hcall'.mono ?_
        rintro e W1 ⟨rfl, b1⟩
        go_wp2
        go_ret2
        exact ⟨Or.inl ⟨Hfin.out.symm, rfl⟩, hbw.trans (b1.mono hbw.size)⟩
      · have hpart : (((r : Int) == 65533) = true ∧ ¬ ((n : Int) ≤ 1)) ∨ ((r : Int) == 65533) = false := by
          by_cases h : r = 65533
          · left; exact ⟨by rw [h]; rfl, by intro e; exact hbad ⟨h, by omega⟩⟩
          · right; rw [beq_eq_false_iff_ne]; omega
        have hfin := Hsg.out
        rw [if_neg hbad] at hfin
        have Hfin := Lib.hid hfin
        clear hfin Hsg hbad
        rcases hpart with ⟨hq1, hq2⟩ | hq1
        all_goals
          go_wp2_with fail
          go_at_call 47
          refine hcall'.mono ?_
          rintro e W1 ⟨rfl, b1⟩
          have hown1 := ownsRowF_below Hown.out b1
          go_wp2_with (at_builtin; refine wpList_append_ownF _ rfl _ _ 49 rfl w.heap.size 9 i0 (.string ⟨#[]⟩) 1 16 Tryz.underlying49 hi hz0 hz1 hz2 rfl (by decide) _ _ _ rfl (hown1.alloc _) ⟨W1.heap.size, 0, none⟩ 1 1 [.string (t.extract 0 n)] rfl rfl ?c1 ?c2 ?c3 ?c4 ?c5 ?_)
          case c1 =>
            intro j u hj
            match j, hj with
            | 0, hj => simp at hj; subst hj; simp [Addr.add]
          case c2 => intro u hu; simp at hu; subst hu; rfl
          case c3 => unfold maxLen; omega
          case c4 => omega
          case c5 => have := hbw.size; have := b1.size; simp; omega
          intro v' w2 hown' hgrow _
          have hbw2 : Below w.heap.size w w2 := ((hbw.trans (b1.mono hbw.size)).alloc (by have := hbw.size; have := b1.size; omega) _).grown hgrow (by have := hbw.size; have := b1.size; simp; omega) (fun k hk => ((hown1.alloc (.cells #[.string (t.extract 0 n)] 9)).lt k hk).1)
          have Hown' := Lib.hid hown'
          clear hown' hgrow hown1
          go_wp2
          go_roundw
          case rel =>
            refine ⟨_, done ++ [t.data.toList.take n], f, rfl, ?_, ?_, ?_, ?_, hbw2⟩
            · show World.ownsRowF _ _ _ _ _ _ _
              have := Hown'.out
              rw [← Hsv.out] at this
              simpa using this
            · show _ = _
              rw [Hed.out, ← Hfin.out, Option.map_map]
              congr 1
              funext x
              simp
            · show _ ≤ _
              rw [(ext_size t n hw2).2]; have := Hf.out; omega
            · show _ ≤ _
              rw [(ext_size t n hw2).2, List.length_append, List.length_singleton]; omega
          case measure =>
            show (t.extract n t.size).size < t.size
            rw [(ext_size t n hw2).2]; omega
    · have ht0 : t.data.toList = [] := List.eq_nil_of_length_eq_zero (by rw [size_data]; omega)
      have hsg := Hsig.out
      rw [ht0, sigs_nil] at hsg
      have Hsg := Lib.hid hsg
      clear hsg ht0 Hsig
      go_wp2
      go_ret2
      exact ⟨Or.inr ⟨done, _, by rw [← Hsg.out]; simp, by rw [size_data]; have := Hlen.out; omega, rfl, Hown.out⟩, hbw⟩
end Go.Proofs.YtdoambpiafkmmaaGreatDoor

namespace Go.Proofs.YtdoambpiafkmmaaGreatDoor
open Go.RowKit Go.Maps
set_option linter.unusedVariables false
set_option linter.unusedSimpArgs false
theorem keyLaw : Keyed Tryz.prog 9 := string_keyed Tryz.underlying9
theorem zeroUnit (w : World) : (zeroValue 151).run Tryz.prog w = .ok (.agg #[]) w := by kernel_rfl
def NamesAt (W : World) (b n : Nat) (seen : List ByteArray) : Prop :=
  ∃ D : DataW Unit, W.ownsMap Tryz.prog 9 (unitElem (H := Unit)) b n D ∧ (∀ p : ByteArray, Maps.has D (.string p.data.toList) = memB p seen) ∧ Maps.size D = seen.length
theorem NamesAt.later {W W1 : World} {b n : Nat} {seen : List ByteArray} (h : NamesAt W b n seen) (hb : Below W.heap.size W W1) : NamesAt W1 b n seen := by
  obtain ⟨D, ⟨es, clock, h1, h2⟩, h3⟩ := h
  exact ⟨D, ⟨es, clock, (hb.block b (Array.getElem?_eq_some_iff.1 h1).1).trans h1, h2⟩, h3⟩
theorem NamesAt.made (w : World) : NamesAt (w.alloc (.map #[] 0)) w.heap.size 0 [] :=
  ⟨.map [], World.ownsMap_made w _ _ _, fun p => by simp [Maps.has, memB], rfl⟩
theorem NamesAt.mono {W : World} {b n m : Nat} {seen : List ByteArray} (h : NamesAt W b n seen) (hm : n ≤ m) : NamesAt W b m seen := by
  obtain ⟨D, h1, h3⟩ := h
  exact ⟨D, h1.mono hm, h3⟩
theorem names_put {D : DataW Unit} (hm : Tidy D) {seen : List ByteArray} (h : ∀ p : ByteArray, Maps.has D (.string p.data.toList) = memB p seen) (hz : Maps.size D = seen.length) (q : ByteArray) (hq : memB q seen = false) (u : DataW Unit) :
    (∀ p : ByteArray, Maps.has (D.put (.string q.data.toList) u) (.string p.data.toList) = memB p (q :: seen)) ∧ Maps.size (D.put (.string q.data.toList) u) = (q :: seen).length := by
  constructor
  · intro p
    by_cases e : p = q
    · subst e
      rw [has_put_same hm.isMap (by simp [WideAt.IsKeyLit])]
      simp [memB]
    · rw [has_put_other (by intro e2; exact e (bytes_eq (by injection e2))), h p]
      simp [memB, e]
  · rw [size_put hm, h q, hq, hz]
    simp
theorem grown_cells {w w' : World} {b : Nat} (hg : w.grownBy w' (some b)) (hm : ∃ es c, w.heap[b]? = some (.map es c)) {k : Nat} {cs : Array Value} {t : TypeId} {fz : Nat × Nat} (h : w.heap[k]? = some (.cells cs t fz)) : w'.heap[k]? = some (.cells cs t fz) := by
  rw [hg.block k (Array.getElem?_eq_some_iff.1 h).1 ?_]
  · exact h
  · intro e
    obtain ⟨es, c, hm⟩ := hm
    have := Option.some.inj e
    subst this
    rw [h] at hm
    cases hm
theorem owns_map {w : World} {b n : Nat} {D : DataW Unit} (h : w.ownsMap Tryz.prog 9 (unitElem (H := Unit)) b n D) : ∃ es c, w.heap[b]? = some (.map es c) := by
  obtain ⟨es, clock, h1, _⟩ := h
  exact ⟨es, clock, h1⟩
theorem key_str (t : ByteArray) (ht : t.size ≤ 4000000) : keyOf Tryz.prog 9 (.string t) = some (.string t.data.toList) := by
  rw [Go.WideMaps.keyOf_string_mk Tryz.underlying9 (by unfold maxLen; omega)]
end Go.Proofs.YtdoambpiafkmmaaGreatDoor
