/-
  Package script: the law's text; its Bytes of an Add.
-/
import Derived.Test.YtnkijpjknbelfaaDoorSxd
import Derived.Deep.RegionHeld3
namespace Go.Proofs.YtnkijpjknbelfaaDoor
open Go.RowKit
set_option linter.unusedVariables false
set_option linter.unusedSimpArgs false

def tS (t : ByteArray) : ByteArray := mkS (encT t.data.toList)
theorem tS_data (t : ByteArray) : (tS t).data.toList = encT t.data.toList := rfl
theorem digs_le {u : Nat} (hu : u ≤ 1000000) : (mkS (Lib.decDigits u)).size ≤ 7 := by
  rw [size_mkS, Lib.decDigits_length]
  exact nDigits_le 6 u (by omega)
theorem tS_size {t : ByteArray} (ht : t.size ≤ 1000000) : (tS t).size ≤ t.size + 9 := by
  have h1 := digs_le (u := t.data.toList.length) (by rw [size_data]; exact ht)
  have h2 := size_data t
  rw [size_mkS] at h1
  unfold tS
  rw [size_mkS]
  unfold encT
  simp only [List.length_append, List.length_cons, List.length_nil]
  omega
theorem tS_of (t : ByteArray) : ((mkS (Lib.decDigits t.size) ++ ⟨#[58]⟩) ++ t) ++ ⟨#[44]⟩ = tS t := by
  refine bytes_eq ?_
  rw [tS_data]
  unfold encT
  rw [size_data]
  simp [mkS]
set_option maxHeartbeats 4000000 in
theorem ltext_any (t : ByteArray) (ht : t.size ≤ 1000000) (w : World) (hE : Env w) : Calls Tryd.prog 20 #[.string t] w fun e w' => e = .returned (.string (tS t)) ∧ Below w.heap.size w w' := by
  have HI := Lib.hid (itT t.size (by omega) w hE)
  have HR := Lib.hid (tS_of t)
  have hd := digs_le ht
  generalize mkS (Lib.decDigits t.size) = D at *
  have e1 : ¬ 9223372036854775807 < D.size + 1 := by omega
  have e2 : ¬ 9223372036854775807 < D.size + 1 + t.size := by omega
  have e3 : ¬ 9223372036854775807 < D.size + 1 + t.size + 1 := by omega
  go_enter Tryd.func20, Tryd.ntmps20
  go_wp2_with fail
  go_at_call 21
  refine HI.out.mono ?_
  rintro e w1 ⟨rfl, hb⟩
  go_wp2
  go_ret
  exact ⟨by rw [← HR.out]; rfl, hb⟩
theorem bstep {W a b : World} (h : Below W.heap.size W a) (g : Below a.heap.size a b) : Below W.heap.size W b := h.trans (g.mono h.size)
set_option maxHeartbeats 8000000 in
set_option maxRecDepth 100000 in
theorem lbytes_0t (tag by_ nm at_ : ByteArray) (A1 A2 : Option Addr) (n1 c1 n2 c2 : Nat) (w : World) (hE : Env w) (ht : tag.size ≤ 300000) (hb : by_.size ≤ 300000) :
    Calls Tryd.prog 13 #[.agg #[.int .i64 0, .string tag, .string by_, .bool true, .slice A1 n1 c1, .string nm, .string at_, .slice A2 n2 c2]] w fun e w' => e = .returned (.string (((tS ⟨#[97]⟩ ++ tS tag) ++ tS ⟨#[49]⟩) ++ tS by_)) ∧ Below w.heap.size w w' := by
  have q1 : (tS ⟨#[97]⟩).size ≤ 300009 := Nat.le_trans (tS_size (by decide)) (by decide)
  have q2 : (tS tag).size ≤ 300009 := Nat.le_trans (tS_size (by omega)) (by omega)
  have q3 : (tS ⟨#[49]⟩).size ≤ 300009 := Nat.le_trans (tS_size (by decide)) (by decide)
  have q4 : (tS by_).size ≤ 300009 := Nat.le_trans (tS_size (by omega)) (by omega)
  have z1 : ¬ 9223372036854775807 < (tS ⟨#[97]⟩).size + (tS tag).size := by omega
  have z2 : ¬ 9223372036854775807 < (tS ⟨#[97]⟩).size + (tS tag).size + (tS ⟨#[49]⟩).size := by omega
  have z3 : ¬ 9223372036854775807 < (tS ⟨#[97]⟩).size + (tS tag).size + (tS ⟨#[49]⟩).size + (tS by_).size := by omega
  have t1 : (⟨#[97]⟩ : ByteArray).size ≤ 1000000 := by decide
  have t2 : tag.size ≤ 1000000 := by omega
  have t3 : (⟨#[49]⟩ : ByteArray).size ≤ 1000000 := by decide
  have t4 : by_.size ≤ 1000000 := by omega
  have HE := Lib.hid hE
  clear hE q1 q2 q3 q4 ht hb
  go_enter Tryd.func13, Tryd.ntmps13
  go_upto_region 1 with fail
  have X0 := BoxAt.new w #[.int .i64 0, .string tag, .string by_, .bool true, .slice A1 n1 c1, .string nm, .string at_, .slice A2 n2 c2] 29
  have K0 := Lib.hid ((Below.refl w.heap.size w).alloc (Nat.le_refl _) (.cells #[.int .i64 0, .string tag, .string by_, .bool true, .slice A1 n1 c1, .string nm, .string at_, .slice A2 n2 c2] 29))
  generalize w.alloc (.cells #[.int .i64 0, .string tag, .string by_, .bool true, .slice A1 n1 c1, .string nm, .string at_, .slice A2 n2 c2] 29) = W at *
  have HX := Lib.hid X0
  obtain ⟨a0, a1, a2, a3, a4, a5, a6, a7, _⟩ := cellsB8 X0
  have hk := X0.lt
  clear X0
  go_upto_region 5 with fail
  clear a0 a3 a4 a5 a6 a7
  have HT := Lib.hid (fun (V : World) (q : Below W.heap.size W V) (x : ByteArray) (hx : x.size ≤ 1000000) => ltext_any x hx V (HE.out.below (K0.out.trans (q.mono K0.out.size))))
  have HS := Lib.hid (show ∀ w', Below W.heap.size W w' → (w'.cell? ⟨w.heap.size, 1, none⟩ = some (.string tag) ∧ w'.cell? ⟨w.heap.size, 2, none⟩ = some (.string by_) ∧ w.heap.size < w'.heap.size) from fun w' q => by
    have t := HX.out.later q
    exact ⟨t.cell 1, t.cell 2, t.lt⟩)
  go_region_held3 (fun w' => w'.cell? ⟨w.heap.size, 1, none⟩ = some (.string tag) ∧ w'.cell? ⟨w.heap.size, 2, none⟩ = some (.string by_) ∧ w.heap.size < w'.heap.size) (first | exact HS.out _ (by repeat' first | assumption | with_reducible exact Below.refl _ _ | with_reducible apply Below.drew)) (first
    | (go_at_call 20; with_reducible refine (HT.out _ (by repeat' first | assumption | with_reducible exact Below.refl _ _ | with_reducible apply Below.drew) _ (by assumption)).mono ?_; rintro e wN ⟨rfl, bN⟩; have qN : Below W.heap.size W wN := bstep (by repeat' first | assumption | with_reducible exact Below.refl _ _ | with_reducible apply Below.drew) bN; clear bN))
  all_goals
    go_wp2
    go_ret
    exact ⟨rfl, K0.out.trans (Below.mono (by repeat' first | assumption | with_reducible exact Below.refl _ _ | with_reducible apply Below.drew) K0.out.size)⟩
set_option maxHeartbeats 8000000 in
set_option maxRecDepth 100000 in
theorem lbytes_0f (tag by_ nm at_ : ByteArray) (A1 A2 : Option Addr) (n1 c1 n2 c2 : Nat) (w : World) (hE : Env w) (ht : tag.size ≤ 300000) (hb : by_.size ≤ 300000) :
    Calls Tryd.prog 13 #[.agg #[.int .i64 0, .string tag, .string by_, .bool false, .slice A1 n1 c1, .string nm, .string at_, .slice A2 n2 c2]] w fun e w' => e = .returned (.string (((tS ⟨#[97]⟩ ++ tS tag) ++ tS ⟨#[48]⟩) ++ tS by_)) ∧ Below w.heap.size w w' := by
  have q1 : (tS ⟨#[97]⟩).size ≤ 300009 := Nat.le_trans (tS_size (by decide)) (by decide)
  have q2 : (tS tag).size ≤ 300009 := Nat.le_trans (tS_size (by omega)) (by omega)
  have q3 : (tS ⟨#[48]⟩).size ≤ 300009 := Nat.le_trans (tS_size (by decide)) (by decide)
  have q4 : (tS by_).size ≤ 300009 := Nat.le_trans (tS_size (by omega)) (by omega)
  have z1 : ¬ 9223372036854775807 < (tS ⟨#[97]⟩).size + (tS tag).size := by omega
  have z2 : ¬ 9223372036854775807 < (tS ⟨#[97]⟩).size + (tS tag).size + (tS ⟨#[48]⟩).size := by omega
  have z3 : ¬ 9223372036854775807 < (tS ⟨#[97]⟩).size + (tS tag).size + (tS ⟨#[48]⟩).size + (tS by_).size := by omega
  have t1 : (⟨#[97]⟩ : ByteArray).size ≤ 1000000 := by decide
  have t2 : tag.size ≤ 1000000 := by omega
  have t3 : (⟨#[48]⟩ : ByteArray).size ≤ 1000000 := by decide
  have t4 : by_.size ≤ 1000000 := by omega
  have HE := Lib.hid hE
  clear hE q1 q2 q3 q4 ht hb
  go_enter Tryd.func13, Tryd.ntmps13
  go_upto_region 1 with fail
  have X0 := BoxAt.new w #[.int .i64 0, .string tag, .string by_, .bool false, .slice A1 n1 c1, .string nm, .string at_, .slice A2 n2 c2] 29
  have K0 := Lib.hid ((Below.refl w.heap.size w).alloc (Nat.le_refl _) (.cells #[.int .i64 0, .string tag, .string by_, .bool false, .slice A1 n1 c1, .string nm, .string at_, .slice A2 n2 c2] 29))
  generalize w.alloc (.cells #[.int .i64 0, .string tag, .string by_, .bool false, .slice A1 n1 c1, .string nm, .string at_, .slice A2 n2 c2] 29) = W at *
  have HX := Lib.hid X0
  obtain ⟨a0, a1, a2, a3, a4, a5, a6, a7, _⟩ := cellsB8 X0
  have hk := X0.lt
  clear X0
  go_upto_region 5 with fail
  clear a0 a3 a4 a5 a6 a7
  have HT := Lib.hid (fun (V : World) (q : Below W.heap.size W V) (x : ByteArray) (hx : x.size ≤ 1000000) => ltext_any x hx V (HE.out.below (K0.out.trans (q.mono K0.out.size))))
  have HS := Lib.hid (show ∀ w', Below W.heap.size W w' → (w'.cell? ⟨w.heap.size, 1, none⟩ = some (.string tag) ∧ w'.cell? ⟨w.heap.size, 2, none⟩ = some (.string by_) ∧ w.heap.size < w'.heap.size) from fun w' q => by
    have t := HX.out.later q
    exact ⟨t.cell 1, t.cell 2, t.lt⟩)
  go_region_held3 (fun w' => w'.cell? ⟨w.heap.size, 1, none⟩ = some (.string tag) ∧ w'.cell? ⟨w.heap.size, 2, none⟩ = some (.string by_) ∧ w.heap.size < w'.heap.size) (first | exact HS.out _ (by repeat' first | assumption | with_reducible exact Below.refl _ _ | with_reducible apply Below.drew)) (first
    | (go_at_call 20; with_reducible refine (HT.out _ (by repeat' first | assumption | with_reducible exact Below.refl _ _ | with_reducible apply Below.drew) _ (by assumption)).mono ?_; rintro e wN ⟨rfl, bN⟩; have qN : Below W.heap.size W wN := bstep (by repeat' first | assumption | with_reducible exact Below.refl _ _ | with_reducible apply Below.drew) bN; clear bN))
  all_goals
    go_wp2
    go_ret
    exact ⟨rfl, K0.out.trans (Below.mono (by repeat' first | assumption | with_reducible exact Below.refl _ _ | with_reducible apply Below.drew) K0.out.size)⟩
theorem mkS_app (a b : List UInt8) : mkS (a ++ b) = mkS a ++ mkS b := bytes_eq (by simp [mkS])
theorem mkS_nil (s : ByteArray) : s ++ mkS [] = s := bytes_eq (by simp [mkS])
theorem asm (a b c : ByteArray) : a ++ b ++ c = a ++ (b ++ c) := bytes_eq (by simp)
theorem app_size (a b : ByteArray) : (a ++ b).size = a.size + b.size := by simp
set_option maxHeartbeats 8000000 in
set_option maxRecDepth 100000 in
theorem lbytes_1 (tag by_ nm at_ : ByteArray) (ov : Bool) (A1 A2 : Option Addr) (ws : List ByteArray) (c1 n2 c2 : Nat) (w : World) (hE : Env w) (hin : WsIn w (Old w) ws A1) (ht : tag.size ≤ 300000) (hn : ws.length ≤ 300000) (hx : ∀ x ∈ ws, x.size ≤ 300000) (hl : (encX ws).length ≤ 100000000) :
    Calls Tryd.prog 13 #[.agg #[.int .i64 1, .string tag, .string by_, .bool ov, .slice A1 ws.length c1, .string nm, .string at_, .slice A2 n2 c2]] w fun e w' => e = .returned (.string (((tS ⟨#[99]⟩ ++ tS tag) ++ tS (mkS (Lib.decDigits ws.length))) ++ mkS (encX ws))) ∧ Below w.heap.size w w' := by
  have t3' : (mkS (Lib.decDigits ws.length)).size ≤ 7 := digs_le (by omega)
  have q1 : (tS ⟨#[99]⟩).size ≤ 300009 := Nat.le_trans (tS_size (by decide)) (by decide)
  have q2 : (tS tag).size ≤ 300009 := Nat.le_trans (tS_size (by omega)) (by omega)
  have q3 : (tS (mkS (Lib.decDigits ws.length))).size ≤ 300009 := Nat.le_trans (tS_size (by omega)) (by omega)
  have z1 : ¬ 9223372036854775807 < (tS ⟨#[99]⟩).size + (tS tag).size := by omega
  have z2 : ¬ 9223372036854775807 < (tS ⟨#[99]⟩).size + (tS tag).size + (tS (mkS (Lib.decDigits ws.length))).size := by omega
  have t1 : (⟨#[99]⟩ : ByteArray).size ≤ 1000000 := by decide
  have t2 : tag.size ≤ 1000000 := by omega
  have t3 : (mkS (Lib.decDigits ws.length)).size ≤ 1000000 := by omega
  have HH := Lib.hid (show (((tS ⟨#[99]⟩ ++ tS tag) ++ tS (mkS (Lib.decDigits ws.length)))).size ≤ 1000000 by rw [app_size, app_size]; omega)
  have HE := Lib.hid hE
  have HI := Lib.hid hin
  have HN := Lib.hid hn
  have HXs := Lib.hid hx
  have HL := Lib.hid hl
  have n0 : (ws.length : Int) ≤ 300000 := by omega
  clear hE q1 q2 q3 ht t3' hin hn hx hl
  go_enter Tryd.func13, Tryd.ntmps13
  go_upto_region 1 with fail
  have X0 := BoxAt.new w #[.int .i64 1, .string tag, .string by_, .bool ov, .slice A1 ws.length c1, .string nm, .string at_, .slice A2 n2 c2] 29
  have K0 := Lib.hid ((Below.refl w.heap.size w).alloc (Nat.le_refl _) (.cells #[.int .i64 1, .string tag, .string by_, .bool ov, .slice A1 ws.length c1, .string nm, .string at_, .slice A2 n2 c2] 29))
  generalize w.alloc (.cells #[.int .i64 1, .string tag, .string by_, .bool ov, .slice A1 ws.length c1, .string nm, .string at_, .slice A2 n2 c2] 29) = W at *
  have HX := Lib.hid X0
  obtain ⟨a0, a1, a2, a3, a4, a5, a6, a7, _⟩ := cellsB8 X0
  have hk := X0.lt
  clear X0
  go_upto_region 7 with fail
  clear a0 a2 a3 a5 a6 a7
  have HT := Lib.hid (fun (V : World) (q : Below W.heap.size W V) (x : ByteArray) (hx : x.size ≤ 1000000) => ltext_any x hx V (HE.out.below (K0.out.trans (q.mono K0.out.size))))
  have HIt := Lib.hid (fun (V : World) (q : Below W.heap.size W V) => itT ws.length (by have := HN.out; omega) V (HE.out.below (K0.out.trans (q.mono K0.out.size))))
  have HS := Lib.hid (show ∀ w', Below W.heap.size W w' → (w'.cell? ⟨w.heap.size, 1, none⟩ = some (.string tag) ∧ w'.cell? ⟨w.heap.size, 4, none⟩ = some (.slice A1 ws.length c1) ∧ w.heap.size < w'.heap.size) from fun w' q => by
    have t := HX.out.later q
    exact ⟨t.cell 1, t.cell 4, t.lt⟩)
  go_region_held3 (fun w' => w'.cell? ⟨w.heap.size, 1, none⟩ = some (.string tag) ∧ w'.cell? ⟨w.heap.size, 4, none⟩ = some (.slice A1 ws.length c1) ∧ w.heap.size < w'.heap.size) (first | exact HS.out _ (by repeat' first | assumption | with_reducible exact Below.refl _ _ | with_reducible apply Below.drew)) (first
    | (go_at_call 20; with_reducible refine (HT.out _ (by repeat' first | assumption | with_reducible exact Below.refl _ _ | with_reducible apply Below.drew) _ (by assumption)).mono ?_; rintro e wN ⟨rfl, bN⟩; have qN : Below W.heap.size W wN := bstep (by repeat' first | assumption | with_reducible exact Below.refl _ _ | with_reducible apply Below.drew) bN; clear bN)
    | (go_at_call 21; with_reducible refine (HIt.out _ (by repeat' first | assumption | with_reducible exact Below.refl _ _ | with_reducible apply Below.drew)).mono ?_; rintro e wN ⟨rfl, bN⟩; have qN : Below W.heap.size W wN := bstep (by repeat' first | assumption | with_reducible exact Below.refl _ _ | with_reducible apply Below.drew) bN; clear bN))
  all_goals
    have HB7 := Lib.hid qN
    obtain ⟨_, b1, _, _, b4, _⟩ := cellsB8 (HX.out.later qN)
    obtain ⟨H, hH⟩ : ∃ H, (tS ⟨#[99]⟩ ++ tS tag) ++ tS (mkS (Lib.decDigits ws.length)) = H := ⟨_, rfl⟩
    rw [hH] at HH ⊢
    have HHq := Lib.hid hH
    clear hH
    clear z1 z2 t1 t2 t3 a1 a4 hk
    go_wp2_with fail
    go_loopw [4, 44] (fun t4 t44 wr => ∃ (i : Nat) (P : ByteArray), t4 = .string P ∧ t44 = .int .i64 i ∧ i ≤ ws.length ∧ Hid (P = H ++ mkS (encX (ws.take i))) ∧ Hid (Below W.heap.size W wr)) (fun _ t44 _ => ws.length - (intOf t44).toNat)
    case atStart => exact ⟨0, H, rfl, rfl, Nat.zero_le _, Lib.hid (by rw [List.take_zero]; exact (mkS_nil H).symm), HB7⟩
    case round =>
      generalize wr = w1 at *
      obtain ⟨i, P, rfl, rfl, hi, HP, HB⟩ := hrel
      have i0 : (i : Int) ≤ 300000 := by omega
      by_cases hlt : i < ws.length
      · have d1 : decide ((i : Int) < (ws.length : Int)) = true := decide_eq_true (by omega)
        have d2 : (i : Int) < (ws.length : Int) := by omega
        obtain ⟨b, o, rfl, hb, hcs⟩ := HI.out (by omega)
        obtain ⟨x, hx⟩ : ∃ x, ws[i]? = some x := ⟨_, List.getElem?_eq_getElem hlt⟩
        have hBw : Below w.heap.size w w1 := K0.out.trans (HB.out.mono K0.out.size)
        have k0 : w1.cell? ⟨b, o + i, none⟩ = some (.string x) := (hBw.cell (p := ⟨b, o + i, none⟩) hb).trans (hcs i x hx)
        have xs := HXs.out x (List.mem_of_getElem? hx)
        have hps := congrArg ByteArray.size HP.out
        rw [app_size, size_mkS] at hps
        have hle := encX_le ws i
        have hL := HL.out
        have hHH := HH.out
        have hts := tS_size (t := x) (by omega)
        have y1 : ¬ 9223372036854775807 < P.size + (tS x).size := by omega
        have HNx := Lib.hid (encX_take ws i x hx)
        have HC := Lib.hid (HT.out _ HB.out x (by omega))
        clear hcs hx hBw xs hps hle hL hHH hts
        go_wp2_with fail
        go_at_call 20
        refine HC.out.mono ?_
        rintro e w2 ⟨rfl, hb2⟩
        have HB2 := Lib.hid (bstep HB.out hb2)
        clear hb2
        go_wp2
        go_roundw
        case rel => exact ⟨i + 1, P ++ tS x, rfl, by go_num, hlt, Lib.hid (by rw [HNx.out, HP.out, mkS_app, asm]; rfl), HB2⟩
        case measure => simp [intOf]; omega
      · have d1 : decide ((i : Int) < (ws.length : Int)) = false := decide_eq_false (by omega)
        have d2 : ¬ (i : Int) < (ws.length : Int) := by omega
        have hp := HP.out
        rw [List.take_of_length_le (l := ws) (by omega)] at hp
        have HP2 := Lib.hid hp
        clear hp
        go_wp2
        go_ret
        exact ⟨by rw [HP2.out, ← HHq.out]; rfl, K0.out.trans (HB.out.mono K0.out.size)⟩
end Go.Proofs.YtnkijpjknbelfaaDoor
