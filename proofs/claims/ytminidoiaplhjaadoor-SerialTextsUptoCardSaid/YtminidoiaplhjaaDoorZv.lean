/-
  Package serial: entries, one behind the other; Entry, Resource.
-/
import Derived.Test.YtminidoiaplhjaaDoorZu
import Derived.IntWalk
namespace Go.Proofs.YtminidoiaplhjaaDoor
open Go.RowKit
set_option linter.unusedVariables false
set_option linter.unusedSimpArgs false

def CellsN (W : World) (lb lo : Nat) (l : List EV) : Prop := lb < W.heap.size ∧ ∀ (j : Nat) (x : EV), l[j]? = some x → ∀ (i : Nat) (y : Value), x.cells[i]? = some y → W.cell? ⟨lb, lo + j * 8 + i, none⟩ = some y
theorem cells8 {W : World} {lb lo : Nat} {l : List EV} (h : CellsN W lb lo l) {j : Nat} {x : EV} (hj : l[j]? = some x) :
    W.cell? ⟨lb, lo + j * 8, none⟩ = some (.int .i64 x.ty) ∧ W.cell? ⟨lb, lo + j * 8 + 1, none⟩ = some (.int .i64 x.lv) ∧ W.cell? ⟨lb, lo + j * 8 + 2, none⟩ = some (.string x.tx) ∧ W.cell? ⟨lb, lo + j * 8 + 3, none⟩ = some (.string x.nm) ∧
    W.cell? ⟨lb, lo + j * 8 + 4, none⟩ = some (.slice x.A x.val.length x.c) ∧ W.cell? ⟨lb, lo + j * 8 + 5, none⟩ = some (.slice x.A2 x.ats.length x.c2) ∧ W.cell? ⟨lb, lo + j * 8 + 6, none⟩ = some (.int .i64 x.fr) ∧ W.cell? ⟨lb, lo + j * 8 + 7, none⟩ = some (.int .i64 x.tu) :=
  ⟨h.2 j x hj 0 _ rfl, h.2 j x hj 1 _ rfl, h.2 j x hj 2 _ rfl, h.2 j x hj 3 _ rfl, h.2 j x hj 4 _ rfl, h.2 j x hj 5 _ rfl, h.2 j x hj 6 _ rfl, h.2 j x hj 7 _ rfl⟩
/-- What stands ahead of an entry. -/
def sepT (l : List EV) (j : Nat) (y : EV) : List UInt8 := match j with
  | 0 => []
  | i + 1 => match l[i]? with
    | none => []
    | some x => if oneB x y then [10] else []
def pieceT (l : List EV) (j : Nat) : List UInt8 := match l[j]? with
  | none => []
  | some y => sepT l j y ++ y.text
def resN (l : List EV) (j : Nat) : List UInt8 := (List.range j).flatMap (pieceT l)
theorem resN_succ (l : List EV) (j : Nat) : resN l (j + 1) = resN l j ++ pieceT l j := by
  unfold resN
  rw [List.range_succ, List.flatMap_append]
  simp
theorem resN_mono (l : List EV) (j : Nat) : ∀ k, (resN l j).length ≤ (resN l (j + k)).length
  | 0 => Nat.le_refl _
  | k + 1 => by rw [← Nat.add_assoc, resN_succ, List.length_append]; have := resN_mono l j k; omega
theorem piece_some (l : List EV) (j : Nat) (y : EV) (h : l[j]? = some y) : pieceT l j = sepT l j y ++ y.text := by unfold pieceT; rw [h]
def resT (l : List EV) : List UInt8 := resN l l.length
set_option maxHeartbeats 4000000 in
set_option maxRecDepth 100000 in
theorem wents_any {W0 : World} (hM : MxW W0) {B b : Nat} {bs : List UInt8} (l : List EV) (hl : l.length ≤ 4000000) (hall : ∀ x ∈ l, x.At W0 ∧ x.fit) (lb lo n : Nat) (A : Option Addr) (hA : 0 < l.length → A = some ⟨lb, lo, none⟩) (w : World)
    (hst : ∀ W, Wk B b w W → 0 < l.length → CellsN W lb lo l) (hS : Sw W0 B b w) (h : WrAt B b bs w) (hn : bs.length + (resT l).length ≤ 140737488355328) :
    Calls Tryd.prog 12 #[.pointer (some ⟨b, 0, none⟩), .slice A l.length n] w fun e w' => e = .returned (.tuple #[]) ∧ WrAt B b (bs ++ resT l) w' ∧ Wk B b w w' := by
  have HAll := Lib.hid hall
  have HSt := Lib.hid hst
  have HS := Lib.hid hS
  have HH := Lib.hid h
  have HN := Lib.hid hn
  have HM := Lib.hid hM
  have HAd := Lib.hid hA
  have hl0 : (l.length : Int) ≤ 4000000 := by omega
  clear hall hst hS h hn hM hA
  unfold resT at *
  obtain ⟨T, hT⟩ : ∃ T, resN l l.length = T := ⟨_, rfl⟩
  rw [hT] at HN ⊢
  have HT := Lib.hid hT
  clear hT
  go_enter Tryd.func12, Tryd.ntmps12
  go_wp2
  go_loopw [8] (fun t8 wr => ∃ j : Nat, t8 = .int .i64 j ∧ j ≤ l.length ∧ Hid (WrAt B b (bs ++ resN l j) wr) ∧ Hid (Wk B b w wr)) (fun t8 _ => l.length - (intOf t8).toNat)
  case atStart => exact ⟨0, rfl, Nat.zero_le _, Lib.hid (by have : resN l 0 = [] := rfl
                                                            rw [this, List.append_nil]; exact HH.out), Lib.hid (Wk.refl _ _ _)⟩
  case round =>
    obtain ⟨j, rfl, hj, HA, HK⟩ := hrel
    have hj0 : (j : Int) ≤ 4000000 := by omega
    have hjn : (0 : Int) ≤ (j : Int) := by omega
    by_cases hlt : j < l.length
    · have d1 : decide ((j : Int) < (l.length : Int)) = true := decide_eq_true (by omega)
      have d2 : (j : Int) < (l.length : Int) := by omega
      obtain ⟨y, hy⟩ : ∃ y, l[j]? = some y := ⟨_, List.getElem?_eq_getElem hlt⟩
      have ha := HAd.out (by omega)
      subst ha
      have hcs := HSt.out wr HK.out (by omega)
      obtain ⟨c0, c1, c2, c3, c4, c5, c6, c7⟩ := cells8 hcs hy
      have hlb := hcs.1
      have HKa := Lib.hid (HK.out.alloc HA.out.le y.obj)
      have HAa := Lib.hid (HA.out.alloc y.obj)
      have CB := Lib.hid (BoxAt.new wr #[.int .i64 y.ty, .int .i64 y.lv, .string y.tx, .string y.nm, .slice y.A y.val.length y.c, .slice y.A2 y.ats.length y.c2, .int .i64 y.fr, .int .i64 y.tu] 29)
      obtain ⟨hyA, hyF⟩ := HAll.out y (List.mem_of_getElem? hy)
      have HE := Lib.hid (fun (cs : List UInt8) W (h1 : Sw W0 B b W) (h2 : WrAt B b cs W) h3 => went_any HM.out (bs := cs) y hyA hyF W h1 h2 h3)
      have hb3 : wr.heap.size ≠ b := HAa.out.box_ne CB.out (by decide)
      have hrs := resN_succ l j
      rw [piece_some l j y hy] at hrs
      have hlen : (bs ++ resN l j).length + (sepT l j y ++ y.text).length ≤ 140737488355328 := by
        have h1 := resN_mono l (j + 1) (l.length - (j + 1))
        rw [show j + 1 + (l.length - (j + 1)) = l.length by omega, HT.out, hrs, List.length_append] at h1
        have h2 := HN.out
        rw [List.length_append]; omega
      have Hrs := Lib.hid hrs
      have HL := Lib.hid hlen
      have HY := Lib.hid hy
      clear hrs hlen hcs hyA hyF hy
      by_cases hz : j = 0
      · have z1 : decide (0 < j) = false := decide_eq_false (by omega)
        have z2 : ¬ 0 < j := by omega
        have hs0 : sepT l j y = [] := by subst hz; rfl
        rw [hs0, List.nil_append] at Hrs HL
        have Hz := Lib.hid hz
        have HC := Lib.hid (HE.out (bs ++ resN l j) ((wr.alloc y.obj).drew) ((HS.out.step HKa.out).drew) HAa.out.drew HL.out)
        obtain ⟨yt, yl, yx, yn, yv, ya, yA, yc, yA2, yc2, yf, yu⟩ := y
        unfold EV.obj EV.v entV at *
        dsimp only at *
        clear hz hs0
        go_wp2
        go_region
        go_wp2_with fail
        go_at_call 21
        refine HC.out.mono ?_
        rintro e w4 ⟨rfl, h4, g4⟩
        have HA4 := Lib.hid h4
        have HK4 := Lib.hid (HKa.out.drew.trans g4)
        clear h4 g4
        go_wp2
        go_roundw
        case rel => exact ⟨j + 1, by go_num, hlt, Lib.hid (by rw [Hrs.out, ← List.append_assoc]; exact HA4.out), HK4⟩
        case measure => simp [intOf]; omega
      · have z1 : decide (0 < j) = true := decide_eq_true (by omega)
        have z2 : 0 < j := by omega
        obtain ⟨p, hp⟩ : ∃ p, j = p + 1 := ⟨j - 1, by omega⟩
        have hpj : (j : Int) - 1 = (p : Int) := by omega
        have hpl : p < l.length := by omega
        have hp0 : (0 : Int) ≤ (p : Int) := by omega
        have hwp : IntKind.i64.wrap (p : Int) = (p : Int) := IntWalk.i64_in _ (by omega)
        have hp1 : (p : Int) < (l.length : Int) := by omega
        have hp2 : decide ((p : Int) < (l.length : Int)) = true := decide_eq_true hp1
        obtain ⟨x, hx⟩ : ∃ x, l[p]? = some x := ⟨_, List.getElem?_eq_getElem hpl⟩
        have hsx : sepT l j y = if oneB x y then [10] else [] := by subst hp; unfold sepT; dsimp only; rw [hx]
        have hcs1 := HSt.out (wr.alloc y.obj) HKa.out (by omega)
        obtain ⟨x0, x1, x2, x3, x4, x5, x6, x7⟩ := cells8 hcs1 hx
        have hlb1 := hcs1.1
        have hw1 := wone_any x y
        obtain ⟨ob, hob⟩ : ∃ z, oneB x y = z := ⟨_, rfl⟩
        rw [hob] at hsx
        simp only [hob] at hw1
        have HW1 := Lib.hid hw1
        rw [hsx] at Hrs HL
        have Hp := Lib.hid hp
        obtain ⟨f0, f1, f2, f3, f4, f5, f6, f7⟩ : (wr.alloc y.obj).cell? ⟨wr.heap.size, 0, none⟩ = some (.int .i64 y.ty) ∧ (wr.alloc y.obj).cell? ⟨wr.heap.size, 1, none⟩ = some (.int .i64 y.lv) ∧ (wr.alloc y.obj).cell? ⟨wr.heap.size, 2, none⟩ = some (.string y.tx) ∧ (wr.alloc y.obj).cell? ⟨wr.heap.size, 3, none⟩ = some (.string y.nm) ∧ (wr.alloc y.obj).cell? ⟨wr.heap.size, 4, none⟩ = some (.slice y.A y.val.length y.c) ∧ (wr.alloc y.obj).cell? ⟨wr.heap.size, 5, none⟩ = some (.slice y.A2 y.ats.length y.c2) ∧ (wr.alloc y.obj).cell? ⟨wr.heap.size, 6, none⟩ = some (.int .i64 y.fr) ∧ (wr.alloc y.obj).cell? ⟨wr.heap.size, 7, none⟩ = some (.int .i64 y.tu) := ⟨CB.out.cell 0, CB.out.cell 1, CB.out.cell 2, CB.out.cell 3, CB.out.cell 4, CB.out.cell 5, CB.out.cell 6, CB.out.cell 7⟩
        have hlw : wr.heap.size < (wr.alloc y.obj).heap.size := CB.out.lt
        have hal : wr.alloc y.obj = wr.alloc (.cells #[.int .i64 y.ty, .int .i64 y.lv, .string y.tx, .string y.nm, .slice y.A y.val.length y.c, .slice y.A2 y.ats.length y.c2, .int .i64 y.fr, .int .i64 y.tu] 29) := rfl
        have CBa := Lib.hid (show BoxAt (wr.alloc y.obj) wr.heap.size #[.int .i64 y.ty, .int .i64 y.lv, .string y.tx, .string y.nm, .slice y.A y.val.length y.c, .slice y.A2 y.ats.length y.c2, .int .i64 y.fr, .int .i64 y.tu] 29 from CB.out)
        have Hal := Lib.hid hal
        clear hz hsx hcs1 hw1 hob hx hp CB hal
        go_upto_region 3 with fail
        rw [← Hal.out]
        generalize wr.alloc y.obj = W1 at *
        clear c0 c1 c2 c3 c4 c5 c6 c7
        go_still_tail 9, (by kernel_rfl)
        change wpList _ _ _ _ _ W1.drew
        go_wp2_with fail
        go_at_call 19
        refine (HW1.out _).mono ?_
        rintro e w2 ⟨rfl, hb2⟩
        have hb2' : Below W1.heap.size W1 w2 := ((Below.refl W1.heap.size W1).drew).trans hb2
        have CBw2 := Lib.hid (CBa.out.later hb2')
        have HK2 := Lib.hid (HKa.out.trans (Wk.of (b := b) HAa.out.le hb2'))
        have HA2 := Lib.hid (HAa.out.later hb2')
        clear hb2 hb2' f0 f1 f2 f3 f4 f5 f6 f7 x0 x1 x2 x3 x4 x5 x6 x7 hlw hlb hlb1 hpj
        cases ob
        case false =>
          obtain ⟨e0, e1, e2, e3, e4, e5, e6, e7⟩ : w2.cell? ⟨wr.heap.size, 0, none⟩ = some (.int .i64 y.ty) ∧ w2.cell? ⟨wr.heap.size, 1, none⟩ = some (.int .i64 y.lv) ∧ w2.cell? ⟨wr.heap.size, 2, none⟩ = some (.string y.tx) ∧ w2.cell? ⟨wr.heap.size, 3, none⟩ = some (.string y.nm) ∧ w2.cell? ⟨wr.heap.size, 4, none⟩ = some (.slice y.A y.val.length y.c) ∧ w2.cell? ⟨wr.heap.size, 5, none⟩ = some (.slice y.A2 y.ats.length y.c2) ∧ w2.cell? ⟨wr.heap.size, 6, none⟩ = some (.int .i64 y.fr) ∧ w2.cell? ⟨wr.heap.size, 7, none⟩ = some (.int .i64 y.tu) := ⟨CBw2.out.cell 0, CBw2.out.cell 1, CBw2.out.cell 2, CBw2.out.cell 3, CBw2.out.cell 4, CBw2.out.cell 5, CBw2.out.cell 6, CBw2.out.cell 7⟩
          have hlt5 := CBw2.out.lt
          have HC := Lib.hid (HE.out (bs ++ resN l j) w2 (HS.out.step HK2.out) HA2.out (by have := HL.out; simp at this ⊢; omega))
          obtain ⟨yt, yl, yx, yn, yv, ya, yA, yc, yA2, yc2, yf, yu⟩ := y
          unfold EV.v entV at *
          dsimp only at *
          go_wp2_with fail
          go_at_call 21
          refine HC.out.mono ?_
          rintro e w5 ⟨rfl, h5, g5⟩
          have HA5 := Lib.hid h5
          have HK5 := Lib.hid (HK2.out.trans g5)
          clear h5 g5
          go_wp2
          go_roundw
          case rel => exact ⟨j + 1, by go_num, hlt, Lib.hid (by rw [Hrs.out]; have := HA5.out; simp at this ⊢; exact this), HK5⟩
          case measure => simp [intOf]; omega
        case true =>
          have HW3 := Lib.hid (write1 ⟨#[10]⟩ w2 HA2.out (by have := HL.out; simp at this ⊢; show _ + 1 ≤ _; omega))
          go_wp2_with fail
          go_at_call 20
          refine HW3.out.mono ?_
          rintro e w3 ⟨rfl, h3, g3⟩
          have HA3 := Lib.hid (show WrAt B b (bs ++ resN l j ++ [10]) w3 from h3)
          have HK3 := Lib.hid (HK2.out.trans g3)
          have CBw3 := Lib.hid (CBw2.out.wk g3 hb3 (by decide))
          clear h3 g3
          obtain ⟨e0, e1, e2, e3, e4, e5, e6, e7⟩ : w3.cell? ⟨wr.heap.size, 0, none⟩ = some (.int .i64 y.ty) ∧ w3.cell? ⟨wr.heap.size, 1, none⟩ = some (.int .i64 y.lv) ∧ w3.cell? ⟨wr.heap.size, 2, none⟩ = some (.string y.tx) ∧ w3.cell? ⟨wr.heap.size, 3, none⟩ = some (.string y.nm) ∧ w3.cell? ⟨wr.heap.size, 4, none⟩ = some (.slice y.A y.val.length y.c) ∧ w3.cell? ⟨wr.heap.size, 5, none⟩ = some (.slice y.A2 y.ats.length y.c2) ∧ w3.cell? ⟨wr.heap.size, 6, none⟩ = some (.int .i64 y.fr) ∧ w3.cell? ⟨wr.heap.size, 7, none⟩ = some (.int .i64 y.tu) := ⟨CBw3.out.cell 0, CBw3.out.cell 1, CBw3.out.cell 2, CBw3.out.cell 3, CBw3.out.cell 4, CBw3.out.cell 5, CBw3.out.cell 6, CBw3.out.cell 7⟩
          have hlt5 := CBw3.out.lt
          have HC := Lib.hid (HE.out (bs ++ resN l j ++ [10]) w3 (HS.out.step HK3.out) HA3.out (by have := HL.out; simp at this ⊢; omega))
          obtain ⟨yt, yl, yx, yn, yv, ya, yA, yc, yA2, yc2, yf, yu⟩ := y
          unfold EV.v entV at *
          dsimp only at *
          go_wp2_with fail
          go_at_call 21
          refine HC.out.mono ?_
          rintro e w5 ⟨rfl, h5, g5⟩
          have HA5 := Lib.hid h5
          have HK5 := Lib.hid (HK3.out.trans g5)
          clear h5 g5
          go_wp2
          go_roundw
          case rel => exact ⟨j + 1, by go_num, hlt, Lib.hid (by rw [Hrs.out]; have := HA5.out; simp at this ⊢; exact this), HK5⟩
          case measure => simp [intOf]; omega
    · obtain rfl : j = l.length := by omega
      have d1 : decide ((l.length : Int) < (l.length : Int)) = false := decide_eq_false (by omega)
      have hA := HA.out
      rw [HT.out] at hA
      have HA2 := Lib.hid hA
      clear hA
      go_wp2
      go_end0
      exact ⟨rfl, HA2.out, HK.out⟩
end Go.Proofs.YtminidoiaplhjaaDoor
