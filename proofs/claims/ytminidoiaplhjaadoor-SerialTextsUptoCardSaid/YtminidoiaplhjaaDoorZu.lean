/-
  Package serial: entries.
-/
import Derived.Test.YtminidoiaplhjaaDoorZt
import Derived.StillTailTactics
namespace Go.Proofs.YtminidoiaplhjaaDoor
open Go.RowKit
set_option linter.unusedVariables false
set_option linter.unusedSimpArgs false

/-- An entry as it lies in memory. -/
structure EV where
  ty : Int
  lv : Int
  tx : ByteArray
  nm : ByteArray
  val : List EL
  ats : List AT
  A : Option Addr
  c : Nat
  A2 : Option Addr
  c2 : Nat
  fr : Int
  tu : Int
def EV.cells (x : EV) : List Value := [.int .i64 x.ty, .int .i64 x.lv, .string x.tx, .string x.nm, .slice x.A x.val.length x.c, .slice x.A2 x.ats.length x.c2, .int .i64 x.fr, .int .i64 x.tu]
def EV.v (x : EV) : Value := entV x.ty x.lv x.tx x.nm (.slice x.A x.val.length x.c) (.slice x.A2 x.ats.length x.c2) x.fr x.tu
def EV.obj (x : EV) : Obj := .cells #[.int .i64 x.ty, .int .i64 x.lv, .string x.tx, .string x.nm, .slice x.A x.val.length x.c, .slice x.A2 x.ats.length x.c2, .int .i64 x.fr, .int .i64 x.tu] 29
structure EV.At (W0 : World) (x : EV) : Prop where
  pat : PatAt W0 x.val (.slice x.A x.val.length x.c)
  ats : LieAt (TsAt W0 x.ats) (.slice x.A2 x.ats.length x.c2) x.ats.length
  tz : x.tx.size ≤ 4000000
  wz : 8 + 2 * (sizeEs x.val + sizeTs x.ats) ≤ 4000000
/-- Has an entry its form? -/
def EV.fit (x : EV) : Prop := (x.ty = 0 ∧ 1 ≤ x.lv ∧ x.lv ≤ 3) ∨ ((x.ty = 1 ∨ x.ty = 2) ∧ gdEs x.val = true ∧ gdTs x.ats) ∨ x.ty = 3
/-- Its text. -/
def EV.text (x : EV) : List UInt8 := entT x.ty x.lv x.tx x.nm x.val x.ats
theorem mes_ent (nm : ByteArray) (val : List EL) (ats : List AT) (h : gdTs ats) : mesT nm val ats = nm.data.toList ++ (32 :: 61 :: ((if val.isEmpty then [] else paT 4 val) ++ (atsT ats ++ [10]))) := by
  unfold mesT namT
  rw [atsN_eq ats h]
  simp
set_option maxHeartbeats 2000000 in
set_option maxRecDepth 100000 in
theorem went_any {W0 : World} (hM : MxW W0) {B b : Nat} {bs : List UInt8} (x : EV) (hx : x.At W0) (hf : x.fit) (w : World) (hS : Sw W0 B b w) (h : WrAt B b bs w) (hn : bs.length + x.text.length ≤ 140737488355328) :
    Calls Tryd.prog 21 #[.pointer (some ⟨b, 0, none⟩), x.v] w fun e w' => e = .returned (.tuple #[]) ∧ WrAt B b (bs ++ x.text) w' ∧ Wk B b w w' := by
  obtain ⟨ty, lv, tx, nm, val, ats, A, c, A2, c2, fr, tu⟩ := x
  obtain ⟨hp, ha, htz, hwz⟩ := hx
  unfold EV.text EV.v entT at *
  unfold EV.fit at hf
  dsimp only at *
  have HK0 := Lib.hid ((Wk.refl B b w).alloc h.le (.cells #[.int .i64 ty, .int .i64 lv, .string tx, .string nm, .slice A val.length c, .slice A2 ats.length c2, .int .i64 fr, .int .i64 tu] 29))
  have HA0 := Lib.hid (h.alloc (.cells #[.int .i64 ty, .int .i64 lv, .string tx, .string nm, .slice A val.length c, .slice A2 ats.length c2, .int .i64 fr, .int .i64 tu] 29))
  have C0 := Lib.hid (BoxAt.new w #[.int .i64 ty, .int .i64 lv, .string tx, .string nm, .slice A val.length c, .slice A2 ats.length c2, .int .i64 fr, .int .i64 tu] 29)
  have HN := Lib.hid hn
  have HS0 := Lib.hid (hS.alloc (.cells #[.int .i64 ty, .int .i64 lv, .string tx, .string nm, .slice A val.length c, .slice A2 ats.length c2, .int .i64 fr, .int .i64 tu] 29))
  have hb0 : w.heap.size ≠ b := HA0.out.box_ne C0.out (by decide)
  rcases hf with ⟨rfl, h1, h3⟩ | ⟨hty, hg, hgt⟩ | rfl
  · rw [if_neg (by decide), if_pos rfl] at HN ⊢
    obtain ⟨l, rfl⟩ : ∃ l : Nat, lv = (l : Int) := ⟨lv.toNat, by omega⟩
    rw [Int.toNat_natCast] at HN ⊢
    have hc := wcom_any hM (bs := bs) 0 l (by omega) tx nm A val.length c A2 ats.length c2 fr tu htz _ HS0.out HA0.out HN.out
    unfold entV at hc ⊢
    have HC := Lib.hid hc
    clear hc hS h hn hp ha
    go_enter Tryd.func21, Tryd.ntmps21
    go_wp2_with fail
    go_at_call 30
    refine HC.out.mono ?_
    rintro e w2 ⟨rfl, h2, g2⟩
    have HA := Lib.hid h2
    have HG := Lib.hid (HK0.out.trans g2)
    clear h2 g2
    go_wp2
    go_end0
    exact ⟨rfl, HA.out, HG.out⟩
  · rcases hty with rfl | rfl
    · rw [if_neg (by decide), if_neg (by decide), if_neg (by decide), List.nil_append, ← mes_ent nm val ats hgt] at HN ⊢
      have hc := wmes_any hM (bs := bs) 1 lv tx nm val ats _ _ fr tu hp ha hg hgt hwz _ HS0.out HA0.out HN.out
      unfold entV at hc ⊢
      have HC := Lib.hid hc
      clear hc hS h hn hp ha
      go_enter Tryd.func21, Tryd.ntmps21
      go_wp2_with fail
      go_at_call 31
      refine HC.out.mono ?_
      rintro e w2 ⟨rfl, h2, g2⟩
      have HA := Lib.hid h2
      have HG := Lib.hid (HK0.out.trans g2)
      clear h2 g2
      go_wp2
      go_end0
      exact ⟨rfl, HA.out, HG.out⟩
    · rw [if_neg (by decide), if_neg (by decide), if_pos rfl, ← mes_ent nm val ats hgt] at HN ⊢
      have hw1 := write1 (bs := bs) ⟨#[45]⟩ _ HA0.out (by have := HN.out; rw [List.length_append] at this; show _ + 1 ≤ _; simp at this; omega)
      simp only [World.size_alloc] at hw1
      have HW1 := Lib.hid hw1
      have hc := fun W (h1 : Sw W0 B b W) (h2 : WrAt B b (bs ++ [45]) W) => wmes_any hM (bs := bs ++ [45]) 2 lv tx nm val ats _ _ fr tu hp ha hg hgt hwz W h1 h2 (by have := HN.out; rw [List.length_append] at this ⊢; simp at this ⊢; omega)
      unfold entV at hc ⊢
      have HC := Lib.hid hc
      clear hc hS h hn hp ha hw1
      go_enter Tryd.func21, Tryd.ntmps21
      go_wp2_with fail
      go_at_call 20
      refine HW1.out.mono ?_
      rintro e w1 ⟨rfl, h1, g1⟩
      have C1 := Lib.hid (C0.out.wk g1 hb0 (by decide))
      have HC1 := Lib.hid (HC.out w1 (HS0.out.step g1) h1)
      have HK1 := Lib.hid (HK0.out.trans g1)
      have e0 : w1.cell? ⟨w.heap.size, 0, none⟩ = some (.int .i64 2) := C1.out.cell 0
      have e1 : w1.cell? ⟨w.heap.size, 1, none⟩ = some (.int .i64 lv) := C1.out.cell 1
      have e2 : w1.cell? ⟨w.heap.size, 2, none⟩ = some (.string tx) := C1.out.cell 2
      have e3 : w1.cell? ⟨w.heap.size, 3, none⟩ = some (.string nm) := C1.out.cell 3
      have e4 : w1.cell? ⟨w.heap.size, 4, none⟩ = some (.slice A val.length c) := C1.out.cell 4
      have e5 : w1.cell? ⟨w.heap.size, 5, none⟩ = some (.slice A2 ats.length c2) := C1.out.cell 5
      have e6 : w1.cell? ⟨w.heap.size, 6, none⟩ = some (.int .i64 fr) := C1.out.cell 6
      have e7 : w1.cell? ⟨w.heap.size, 7, none⟩ = some (.int .i64 tu) := C1.out.cell 7
      have hlt := C1.out.lt
      clear h1 g1
      go_wp2_with fail
      go_at_call 31
      refine HC1.out.mono ?_
      rintro e w2 ⟨rfl, h2, g2⟩
      have HA := Lib.hid h2
      have HG := Lib.hid (HK1.out.trans g2)
      clear h2 g2
      go_wp2
      go_end0
      exact ⟨rfl, by simpa using HA.out, HG.out⟩
  · rw [if_pos rfl] at HN ⊢
    have hw1 := write1 (bs := bs) tx _ HA0.out (by have := HN.out; rw [size_data] at this; exact this)
    simp only [World.size_alloc] at hw1
    have HW1 := Lib.hid hw1
    unfold entV
    clear hS h hn hp ha hw1
    go_enter Tryd.func21, Tryd.ntmps21
    go_wp2_with fail
    go_at_call 20
    refine HW1.out.mono ?_
    rintro e w2 ⟨rfl, h2, g2⟩
    have HA := Lib.hid h2
    have HG := Lib.hid (HK0.out.trans g2)
    clear h2 g2
    go_wp2
    go_end0
    exact ⟨rfl, HA.out, HG.out⟩
/-- Would two entries be read as one? -/
def oneB (x y : EV) : Bool := (x.ty == 0) && (y.ty == 0) && (x.lv == y.lv)
set_option maxHeartbeats 2000000 in
set_option maxRecDepth 100000 in
theorem wone_any (x y : EV) (w : World) : Calls Tryd.prog 19 #[x.v, y.v] w fun e w' => e = .returned (.bool (oneB x y)) ∧ Below w.heap.size w w' := by
  obtain ⟨ty, lv, tx, nm, val, ats, A, c, A2, c2, fr, tu⟩ := x
  obtain ⟨ty', lv', tx', nm', val', ats', A', c', A2', c2', fr', tu'⟩ := y
  unfold EV.v entV oneB
  dsimp only
  obtain ⟨b1, h1⟩ : ∃ z, (ty == 0) = z := ⟨_, rfl⟩
  obtain ⟨b2, h2⟩ : ∃ z, (ty' == 0) = z := ⟨_, rfl⟩
  obtain ⟨b3, h3⟩ : ∃ z, (lv == lv') = z := ⟨_, rfl⟩
  rw [h1, h2, h3]
  have hb : Below w.heap.size w ((w.alloc (.cells #[.int .i64 ty, .int .i64 lv, .string tx, .string nm, .slice A val.length c, .slice A2 ats.length c2, .int .i64 fr, .int .i64 tu] 29)).alloc (.cells #[.int .i64 ty', .int .i64 lv', .string tx', .string nm', .slice A' val'.length c', .slice A2' ats'.length c2', .int .i64 fr', .int .i64 tu'] 29)) := ((Below.refl _ _).alloc (Nat.le_refl _) _).alloc (by simp) _
  have HB := Lib.hid hb
  clear hb
  cases b1 <;> cases b2 <;> cases b3 <;>
  · go_enter Tryd.func19, Tryd.ntmps19
    go_wp2
    go_ret
    exact ⟨rfl, HB.out⟩
end Go.Proofs.YtminidoiaplhjaaDoor
