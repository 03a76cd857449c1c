/-
  Package ast: isInline, of each kind.
-/
import Derived.Test.YtbolmffldmegeaaDoorAin
namespace Go.Proofs.YtbolmffldmegeaaDoor
open Go.RowKit
set_option linter.unusedVariables false
set_option linter.unusedSimpArgs false

/-- Are all these empty? -/
def bareB (t n a : ByteArray) (n1 : Nat) (i : Option Addr) (n2 : Nat) : Bool := emp t && (emp n && (emp a && (decide (n1 = 0) && (i.isNone && decide (n2 = 0)))))
theorem bare_any (k : Int) (t n a : ByteArray) (A1 : Option Addr) (n1 c1 : Nat) (i : Option Addr) (A2 : Option Addr) (n2 c2 : Nat) (w : World) :
    Calls Tryd.prog 81 #[.agg #[.int .i64 k, .string t, .string n, .string a, .slice A1 n1 c1, .pointer i, .slice A2 n2 c2]] w fun e w' => e = .returned (.bool (bareB t n a n1 i n2)) ∧ Below w.heap.size w w' := isBare_any k t n a A1 n1 c1 i A2 n2 c2 w
theorem Asked.calm {W0 : World} {qb : Nat} {D : Qn → Prop} {qs : List Qn} {w w' : World} {b r : Bool} {n : Nat} (hq : QsAt W0 qb qs w) (hs : Below w.heap.size w w') (hb : b = r) : Asked W0 qb D qs w b n (.returned (.bool r)) w' :=
  Asked.plain (hq.later hs) ((StepQ.refl _ _ _).later hs hq.old) hb
theorem BoxAt.setOther {w : World} {k : Nat} {cs : Array Value} {t : TypeId} (h : BoxAt w k cs t) (p : Addr) (v : Value) (hp : k ≠ p.block) : BoxAt (w.setCell p v) k cs t :=
  (Below.heap_setCell w p v k hp).trans h
theorem BoxAt.new' (w : World) (k : Nat) (cs : Array Value) (t : TypeId) (h : k = w.heap.size) : BoxAt (w.alloc (.cells cs t)) k cs t := by rw [h]; exact BoxAt.new w cs t
/-- A block of cells of that type. -/
def CellsOf (w : World) (k : Nat) (t : TypeId) : Prop := ∃ cs fz, w.heap[k]? = some (.cells cs t fz)
theorem CellsOf.new' (w : World) (k : Nat) (cs : Array Value) (t : TypeId) (h : k = w.heap.size) : CellsOf (w.alloc (.cells cs t)) k t := ⟨cs, (0, 0), BoxAt.new' w k cs t h⟩
theorem CellsOf.alloc {w : World} {k : Nat} {t : TypeId} (h : CellsOf w k t) (o : Obj) : CellsOf (w.alloc o) k t := by
  obtain ⟨cs, fz, h⟩ := h
  exact ⟨cs, fz, (Lib.alloc_old w o k (Array.getElem?_eq_some_iff.1 h).1).trans h⟩
theorem CellsOf.setCell {w : World} {k : Nat} {t : TypeId} (h : CellsOf w k t) (p : Addr) (v : Value) : CellsOf (w.setCell p v) k t := by
  obtain ⟨cs, fz, h⟩ := h
  by_cases e : k = p.block
  · subst e
    exact ⟨_, fz, by simp only [World.setCell, Array.getElem?_modify, h]; rfl⟩
  · exact ⟨cs, fz, (Below.heap_setCell w p v k e).trans h⟩
theorem StepQ.cell {B qb : Nat} {w w' : World} (hs : StepQ B qb w w') {k : Nat} {t : TypeId} (hsh : CellsOf w k t) (ht : t ≠ 27) (hk : k ≠ qb) (o : Nat) : w'.cell? ⟨k, o, none⟩ = w.cell? ⟨k, o, none⟩ := by
  apply World.cell?_of_block
  obtain ⟨cs, fz, h⟩ := hsh
  exact (hs.kept k _ h (by intro e2; exact hk (Option.some.inj e2)) (by intro c2 fz2 e2; cases e2; exact ht rfl)).trans h.symm
set_option maxHeartbeats 4000000 in
set_option maxRecDepth 1000000 in
theorem inl0 {W0 : World} {qb : Nat} {D : Qn → Prop} (hT : TabU W0) (t n a : ByteArray) (A1 : Option Addr) (n1 c1 : Nat) (i : Option Addr) (A2 : Option Addr) (n2 c2 : Nat) (d : Nat) (w : World) (ht : t.size ≤ 4000000) :
    Asks W0 qb D 65 #[pt qb, exV 0 t n a A1 n1 c1 i A2 n2 c2, .int .i64 d] w (validB t && bareB ⟨#[]⟩ n a n1 i n2) 0 := by
  intro qs hq hn
  have Hq := Lib.hid hq
  have hTw : TabU w := hT.below hq.below
  have hB : ∀ W, TabU W → _ := fun W h => Tryd.utf8_ValidString t W (by omega) h
  have HB := Lib.hid hB
  have HT := Lib.hid hTw
  have hbare := fun W => bare_any 0 ⟨#[]⟩ n a A1 n1 c1 i A2 n2 c2 W
  obtain ⟨bb, hbb⟩ : ∃ b, bareB ⟨#[]⟩ n a n1 i n2 = b := ⟨_, rfl⟩
  rw [hbb] at hbare ⊢
  have HBare := Lib.hid hbare
  clear hq hn hTw hB hbare hbb
  unfold pt exV
  go_enter Tryd.func65, Tryd.ntmps65
  go_wp2_with fail
  go_at_call 37
  refine (HB.out _ (HT.out.below ?hb0)).mono ?_
  case hb0 => repeat' first | exact Below.refl _ _ | apply Below.setCell | apply Below.alloc | (simp; done) | (simp; omega)
  rintro e w3 ⟨rfl, hb3⟩
  obtain ⟨q, hq⟩ : ∃ q, validB t = q := ⟨_, rfl⟩
  rw [show Lib.validD t.data.toList = q from hq]
  have HQ := Lib.hid hq
  obtain ⟨hcc, hff⟩ := bcell hb3
  have hB3 : Below w.heap.size w w3 := by
    refine Below.trans ?_ (hb3.mono (by simp; omega))
    repeat' first | exact Below.refl _ _ | apply Below.setCell | apply Below.alloc | (simp; done) | (simp; omega)
  have HB3 := Lib.hid hB3
  clear hq hb3 hB3
  cases q
  case false =>
    go_wp2
    go_ret
    exact Asked.calm Hq.out HB3.out (by rw [HQ.out]; rfl)
  go_wp2_with fail
  go_at_call 81
  refine (HBare.out _).mono ?_
  rintro e w4 ⟨rfl, hb4⟩
  go_wp2
  go_ret
  exact Asked.calm Hq.out (HB3.out.trans (hb4.mono HB3.out.size)) (by rw [HQ.out, Bool.true_and])
set_option maxHeartbeats 4000000 in
set_option maxRecDepth 1000000 in
theorem inl1 {W0 : World} {qb : Nat} {D : Qn → Prop} (hT : TabU W0) (t n a : ByteArray) (A1 : Option Addr) (n1 c1 : Nat) (i : Option Addr) (A2 : Option Addr) (n2 c2 : Nat) (d : Nat) (w : World) (ht : t.size ≤ 4000000) :
    Asks W0 qb D 65 #[pt qb, exV 1 t n a A1 n1 c1 i A2 n2 c2, .int .i64 d] w (isNum t && bareB ⟨#[]⟩ n a n1 i n2) 0 := by
  intro qs hq hn
  have Hq := Lib.hid hq
  have hTw : TabU w := hT.below hq.below
  have hB : ∀ W, TabU W → _ := fun W h => isNumber_any t W ht
  have HB := Lib.hid hB
  have HT := Lib.hid hTw
  have hbare := fun W => bare_any 1 ⟨#[]⟩ n a A1 n1 c1 i A2 n2 c2 W
  obtain ⟨bb, hbb⟩ : ∃ b, bareB ⟨#[]⟩ n a n1 i n2 = b := ⟨_, rfl⟩
  rw [hbb] at hbare ⊢
  have HBare := Lib.hid hbare
  clear hq hn hTw hB hbare hbb
  unfold pt exV
  go_enter Tryd.func65, Tryd.ntmps65
  go_wp2_with fail
  go_at_call 80
  refine (HB.out _ (HT.out.below ?hb0)).mono ?_
  case hb0 => repeat' first | exact Below.refl _ _ | apply Below.setCell | apply Below.alloc | (simp; done) | (simp; omega)
  rintro e w3 ⟨rfl, hb3⟩
  obtain ⟨q, hq⟩ : ∃ q, isNum t = q := ⟨_, rfl⟩
  rw [show isNum t = q from hq]
  have HQ := Lib.hid hq
  obtain ⟨hcc, hff⟩ := bcell hb3
  have hB3 : Below w.heap.size w w3 := by
    refine Below.trans ?_ (hb3.mono (by simp; omega))
    repeat' first | exact Below.refl _ _ | apply Below.setCell | apply Below.alloc | (simp; done) | (simp; omega)
  have HB3 := Lib.hid hB3
  clear hq hb3 hB3
  cases q
  case false =>
    go_wp2
    go_ret
    exact Asked.calm Hq.out HB3.out (by rw [HQ.out]; rfl)
  go_wp2_with fail
  go_at_call 81
  refine (HBare.out _).mono ?_
  rintro e w4 ⟨rfl, hb4⟩
  go_wp2
  go_ret
  exact Asked.calm Hq.out (HB3.out.trans (hb4.mono HB3.out.size)) (by rw [HQ.out, Bool.true_and])
set_option maxHeartbeats 4000000 in
set_option maxRecDepth 1000000 in
theorem inl2 {W0 : World} {qb : Nat} {D : Qn → Prop} (t n a : ByteArray) (A1 : Option Addr) (n1 c1 : Nat) (i : Option Addr) (A2 : Option Addr) (n2 c2 : Nat) (d : Nat) (w : World) (hn9 : n.size ≤ 4000000) :
    Asks W0 qb D 65 #[pt qb, exV 2 t n a A1 n1 c1 i A2 n2 c2, .int .i64 d] w (isNameV n && bareB t ⟨#[]⟩ a n1 i n2) 0 := by
  intro qs hq hn
  have Hq := Lib.hid hq
  have hN := fun W => isName_any n W (by omega)
  obtain ⟨q, hqq⟩ : ∃ q, isNameV n = q := ⟨_, rfl⟩
  rw [hqq] at hN ⊢
  have HN := Lib.hid hN
  have hbare := fun W => bare_any 2 t ⟨#[]⟩ a A1 n1 c1 i A2 n2 c2 W
  obtain ⟨bb, hbb⟩ : ∃ b, bareB t ⟨#[]⟩ a n1 i n2 = b := ⟨_, rfl⟩
  rw [hbb] at hbare ⊢
  have HBare := Lib.hid hbare
  clear hq hn hN hqq hbare hbb
  unfold pt exV
  go_enter Tryd.func65, Tryd.ntmps65
  go_wp2_with fail
  go_at_call 25
  refine (HN.out _).mono ?_
  rintro e w3 ⟨rfl, rfl⟩
  cases q
  case false =>
    go_wp2
    go_ret
    exact Asked.calm Hq.out (by repeat' first | exact Below.refl _ _ | apply Below.setCell | apply Below.alloc | (simp; done) | (simp; omega)) (by rfl)
  go_wp2_with fail
  go_at_call 81
  refine (HBare.out _).mono ?_
  rintro e w4 ⟨rfl, hb4⟩
  go_wp2
  go_ret
  refine Asked.calm Hq.out (Below.trans ?_ (hb4.mono (by simp; omega))) (by rw [Bool.true_and])
  repeat' first | exact Below.refl _ _ | apply Below.setCell | apply Below.alloc | (simp; done) | (simp; omega)
set_option maxHeartbeats 4000000 in
set_option maxRecDepth 1000000 in
theorem inl3 {W0 : World} {qb : Nat} {D : Qn → Prop} (t n a : ByteArray) (A1 : Option Addr) (n1 c1 : Nat) (i : Option Addr) (A2 : Option Addr) (n2 c2 : Nat) (d : Nat) (w : World) (hn9 : n.size ≤ 4000000) (ha9 : a.size ≤ 4000000) :
    Asks W0 qb D 65 #[pt qb, exV 3 t n a A1 n1 c1 i A2 n2 c2, .int .i64 d] w (isNameV n && (emp a || isNameV a) && bareB t ⟨#[]⟩ ⟨#[]⟩ n1 i n2) 0 := by
  intro qs hq hn
  have Hq := Lib.hid hq
  have hN := fun W => isName_any n W (by omega)
  have hA := fun W => isName_any a W (by omega)
  obtain ⟨q, hqq⟩ : ∃ q, isNameV n = q := ⟨_, rfl⟩
  rw [hqq] at hN ⊢
  obtain ⟨q2, hqa⟩ : ∃ q, isNameV a = q := ⟨_, rfl⟩
  rw [hqa] at hA ⊢
  have HN := Lib.hid hN
  have HA := Lib.hid hA
  have hbare := fun W => bare_any 3 t ⟨#[]⟩ ⟨#[]⟩ A1 n1 c1 i A2 n2 c2 W
  obtain ⟨bb, hbb⟩ : ∃ b, bareB t ⟨#[]⟩ ⟨#[]⟩ n1 i n2 = b := ⟨_, rfl⟩
  rw [hbb] at hbare ⊢
  have HBare := Lib.hid hbare
  clear hq hn hN hA hqq hqa hbare hbb
  unfold pt exV
  unfold emp
  cases q
  case false =>
    go_enter Tryd.func65, Tryd.ntmps65
    go_wp2_with fail
    go_at_call 25
    refine (HN.out _).mono ?_
    rintro e w3 ⟨rfl, rfl⟩
    go_wp2
    go_ret
    exact Asked.calm Hq.out (by repeat' first | exact Below.refl _ _ | apply Below.setCell | apply Below.alloc | (simp; done) | (simp; omega)) (by rfl)
  cases he : a.toList.isEmpty
  case true =>
    go_enter Tryd.func65, Tryd.ntmps65
    go_wp2_with fail
    go_at_call 25
    refine (HN.out _).mono ?_
    rintro e w3 ⟨rfl, rfl⟩
    go_wp2_with fail
    go_at_call 81
    refine (HBare.out _).mono ?_
    rintro e w4 ⟨rfl, hb4⟩
    go_wp2
    go_ret
    refine Asked.calm Hq.out (Below.trans ?_ (hb4.mono (by simp; omega))) (by simp)
    repeat' first | exact Below.refl _ _ | apply Below.setCell | apply Below.alloc | (simp; done) | (simp; omega)

  cases q2
  case false =>
    go_enter Tryd.func65, Tryd.ntmps65
    go_wp2_with fail
    go_at_call 25
    refine (HN.out _).mono ?_
    rintro e w3 ⟨rfl, rfl⟩
    go_wp2_with fail
    go_at_call 25
    refine (HA.out _).mono ?_
    rintro e w3 ⟨rfl, rfl⟩
    go_wp2
    go_ret
    exact Asked.calm Hq.out (by repeat' first | exact Below.refl _ _ | apply Below.setCell | apply Below.alloc | (simp; done) | (simp; omega)) (by rfl)
  case true =>
    go_enter Tryd.func65, Tryd.ntmps65
    go_wp2_with fail
    go_at_call 25
    refine (HN.out _).mono ?_
    rintro e w3 ⟨rfl, rfl⟩
    go_wp2_with fail
    go_at_call 25
    refine (HA.out _).mono ?_
    rintro e w3 ⟨rfl, rfl⟩
    go_wp2_with fail
    go_at_call 81
    refine (HBare.out _).mono ?_
    rintro e w4 ⟨rfl, hb4⟩
    go_wp2
    go_ret
    refine Asked.calm Hq.out (Below.trans ?_ (hb4.mono (by simp; omega))) (by simp)
    repeat' first | exact Below.refl _ _ | apply Below.setCell | apply Below.alloc | (simp; done) | (simp; omega)

set_option maxHeartbeats 4000000 in
set_option maxRecDepth 1000000 in
theorem inlX {W0 : World} {qb : Nat} {D : Qn → Prop} (k : Int) (hk : k < 0 ∨ 6 < k) (t n a : ByteArray) (A1 : Option Addr) (n1 c1 : Nat) (i : Option Addr) (A2 : Option Addr) (n2 c2 : Nat) (d : Nat) (w : World) :
    Asks W0 qb D 65 #[pt qb, exV k t n a A1 n1 c1 i A2 n2 c2, .int .i64 d] w false 0 := by
  intro qs hq hn
  have Hq := Lib.hid hq
  have k0 : (k == 0) = false := beq_eq_false_iff_ne.2 (by omega)
  have k1 : (k == 1) = false := beq_eq_false_iff_ne.2 (by omega)
  have k2 : (k == 2) = false := beq_eq_false_iff_ne.2 (by omega)
  have k3 : (k == 3) = false := beq_eq_false_iff_ne.2 (by omega)
  have k4 : (k == 4) = false := beq_eq_false_iff_ne.2 (by omega)
  have k5 : (k == 5) = false := beq_eq_false_iff_ne.2 (by omega)
  have k6 : (k == 6) = false := beq_eq_false_iff_ne.2 (by omega)
  clear hq hn hk
  unfold pt exV
  go_enter Tryd.func65, Tryd.ntmps65
  go_wp2
  go_ret
  exact Asked.calm Hq.out (by repeat' first | exact Below.refl _ _ | apply Below.setCell | apply Below.alloc | (simp; done) | (simp; omega)) rfl
set_option maxHeartbeats 4000000 in
set_option maxRecDepth 1000000 in
theorem inl6 {W0 : World} {qb : Nat} {D : Qn → Prop} (e : Option EX) (t n a : ByteArray) (A1 : Option Addr) (n1 c1 : Nat) (i : Option Addr) (A2 : Option Addr) (n2 c2 : Nat) (d : Nat) (w : World) (hd : d ≤ 20) (hi : OAt W0 e (.pointer i)) (hD : ∀ ex, e = some ex → D (.may .brc ex (d + 1))) :
    Asks W0 qb D 65 #[pt qb, exV 6 t n a A1 n1 c1 i A2 n2 c2, .int .i64 d] w (okO .brc e (d + 1) && bareB t n a n1 none n2) (sizeO e) := by
  intro qs hq hn
  have Hq := Lib.hid hq
  have Hn := Lib.hid hn
  have Hd := Lib.hid hd
  have hold := hq.old
  have hlt := hq.lt
  have hbare := fun W => bare_any 6 t n a A1 n1 c1 none A2 n2 c2 W
  obtain ⟨bb, hbb⟩ : ∃ b, bareB t n a n1 none n2 = b := ⟨_, rfl⟩
  rw [hbb] at hbare ⊢
  have HBare := Lib.hid hbare
  have HD := Lib.hid hD
  clear hq hn hbare hbb hd hD
  cases e with
  | none =>
    simp only [OAt] at hi
    cases hi
    have h0 : okO .brc none (d + 1) = false := by rw [okO]
    rw [h0]
    clear h0
    unfold pt exV
    go_enter Tryd.func65, Tryd.ntmps65
    go_wp2
    go_ret
    exact Asked.calm Hq.out (by repeat' first | exact Below.refl _ _ | apply Below.setCell | apply Below.alloc | (simp; done) | (simp; omega)) rfl
  | some ex =>
    have hi2 := hi
    simp only [OAt] at hi2
    obtain ⟨pb, po, pc7, hpp, _⟩ := hi2
    cases hpp
    have h0 : okO .brc (some ex) (d + 1) = okE .brc ex (d + 1) := by rw [okO]
    rw [h0]
    have hsz : sizeO (some ex) = ex.size := by rw [sizeO]
    rw [hsz] at Hn
    have HI := Lib.hid hi
    clear h0 hi
    unfold pt exV
    go_enter Tryd.func65, Tryd.ntmps65
    go_wp2_with fail
    go_at_call 42
    refine (later_q (W0 := W0) (qb := qb) (qs := qs) 85 #[pt w.heap.size, pt (w.heap.size + 1 + 1 + 1 + 1), pt (w.heap.size + 1 + 1)] (.may .brc ex (d + 1)) ?hf ?hq (by have := Hn.out; exact this)).mono ?_
    case hq =>
      refine Hq.out.later ?_
      repeat' first | exact Below.refl _ _ | apply Below.setCell | apply Below.alloc | (simp; done) | (simp; omega)
    case hf =>
      refine ⟨_, _, _, _, .pointer (some ⟨pb, po, none⟩), d, .inr rfl, rfl, Hd.out, rfl, ?_, ?_, ?_, HI.out⟩
      · repeat' first | exact BoxAt.new' _ _ _ _ (by simp; done) | (refine BoxAt.setOther ?_ _ _ (by simp; done)) | apply BoxAt.alloc
      · repeat' first | exact BoxAt.new' _ _ _ _ (by simp; done) | (refine BoxAt.setOther ?_ _ _ (by simp; done)) | apply BoxAt.alloc
      · repeat' first | exact BoxAt.new' _ _ _ _ (by simp; done) | (refine BoxAt.setOther ?_ _ _ (by simp; done)) | apply BoxAt.alloc
    rintro e w5 ⟨rfl, h5, s5⟩
    have hne : w.heap.size + 1 + 1 + 1 ≠ qb := by omega
    have hco := by
      refine fun o => s5.cell (k := w.heap.size + 1 + 1 + 1) (t := 36) ?_ (by decide) hne o
      repeat' first | exact CellsOf.new' _ _ _ _ (by simp; done) | apply CellsOf.setCell | apply CellsOf.alloc
    have hcs := hco
    clear hco
    have q0 := hcs 0
    have q1 := hcs 1
    have q2 := hcs 2
    have q3 := hcs 3
    have q4 := hcs 4
    have q5 := hcs 5
    have q6 := hcs 6
    have hB5 : StepQ W0.heap.size qb w w5 := by
      refine StepQ.trans ((StepQ.refl _ _ _).later ?_ hold) s5
      repeat' first | exact Below.refl _ _ | apply Below.setCell | apply Below.alloc | (simp; done) | (simp; omega)
    have HB5 := Lib.hid hB5
    have H5 := Lib.hid h5
    clear hcs s5 h5 hB5
    go_wp2_with fail
    go_at_call 81
    refine (HBare.out _).mono ?_
    rintro e w6 ⟨rfl, hb6⟩
    go_wp2
    go_ret
    exact ⟨bb, [.may .brc ex (d + 1)], rfl, H5.out.later hb6, HB5.out.later hb6 H5.out.old, by rw [hsz]; exact Nat.le_refl _, by simp [answers, Qn.ans, Bool.and_comm], by intro x hx; have := List.mem_singleton.1 hx; subst this; exact HD.out ex rfl⟩
set_option maxHeartbeats 4000000 in
set_option maxRecDepth 1000000 in
theorem inl4 {W0 : World} {qb : Nat} {D : Qn → Prop} (bA : Bool) (nA : Nat) (t n a : ByteArray) (A1 : Option Addr) (n1 c1 : Nat) (i : Option Addr) (A2 : Option Addr) (n2 c2 : Nat) (d : Nat) (w : World) (hn9 : n.size ≤ 4000000)
    (hA : ∀ w', Asks W0 qb D 83 #[pt qb, .slice A1 n1 c1, .int .i64 d] w' bA nA) :
    Asks W0 qb D 65 #[pt qb, exV 4 t n a A1 n1 c1 i A2 n2 c2, .int .i64 d] w (isNameV n && bA && bareB t ⟨#[]⟩ a 0 i n2) nA := by
  intro qs hq hn
  have Hq := Lib.hid hq
  have Hn := Lib.hid hn
  have HA := Lib.hid hA
  have hold := hq.old
  have hlt := hq.lt
  have hN := fun W => isName_any n W (by omega)
  obtain ⟨q, hqq⟩ : ∃ q, isNameV n = q := ⟨_, rfl⟩
  rw [hqq] at hN ⊢
  have HN := Lib.hid hN
  have hbare := fun W => bare_any 4 t ⟨#[]⟩ a none 0 0 i A2 n2 c2 W
  obtain ⟨bb, hbb⟩ : ∃ b, bareB t ⟨#[]⟩ a 0 i n2 = b := ⟨_, rfl⟩
  rw [hbb] at hbare ⊢
  have HBare := Lib.hid hbare
  clear hq hn hN hqq hbare hbb hA
  unfold pt exV
  cases q
  case false =>
    go_enter Tryd.func65, Tryd.ntmps65
    go_wp2_with fail
    go_at_call 25
    refine (HN.out _).mono ?_
    rintro e w3 ⟨rfl, rfl⟩
    go_wp2
    go_ret
    exact Asked.calm Hq.out (by repeat' first | exact Below.refl _ _ | apply Below.setCell | apply Below.alloc | (simp; done) | (simp; omega)) (by rfl)
  go_enter Tryd.func65, Tryd.ntmps65
  go_wp2_with fail
  go_at_call 25
  refine (HN.out _).mono ?_
  rintro e w3 ⟨rfl, rfl⟩
  go_wp2_with fail
  go_at_call 83
  refine (HA.out _ qs ?hq Hn.out).mono ?_
  case hq =>
    refine Hq.out.later ?_
    repeat' first | exact Below.refl _ _ | apply Below.setCell | apply Below.alloc | (simp; done) | (simp; omega)
  rintro e w5 ⟨r, new, rfl, h5, s5, ht5, hb5, hD5⟩
  have hne : w.heap.size + 1 + 1 + 1 ≠ qb := by omega
  have hco := by
    refine fun o => s5.cell (k := w.heap.size + 1 + 1 + 1) (t := 36) ?_ (by decide) hne o
    repeat' first | exact CellsOf.new' _ _ _ _ (by simp; done) | apply CellsOf.setCell | apply CellsOf.alloc
  have hcs := hco
  have q0 := hcs 0
  have q1 := hcs 1
  have q2 := hcs 2
  have q3 := hcs 3
  have q4 := hcs 4
  have q5 := hcs 5
  have q6 := hcs 6
  have hB5 : StepQ W0.heap.size qb w w5 := by
    refine StepQ.trans ((StepQ.refl _ _ _).later ?_ hold) s5
    repeat' first | exact Below.refl _ _ | apply Below.setCell | apply Below.alloc | (simp; done) | (simp; omega)
  have HB5 := Lib.hid hB5
  have H5 := Lib.hid h5
  have Hb5 := Lib.hid hb5
  clear hcs hco s5 h5 hB5 hb5
  cases r
  case false =>
    go_wp2
    go_ret
    exact ⟨false, new, rfl, H5.out, HB5.out, ht5, by rw [Hb5.out]; simp, hD5⟩
  go_wp2_with fail
  go_at_call 81
  refine (HBare.out _).mono ?_
  rintro e w6 ⟨rfl, hb6⟩
  go_wp2
  go_ret
  exact ⟨bb, new, rfl, H5.out.later hb6, HB5.out.later hb6 H5.out.old, ht5, by rw [Hb5.out]; simp [Bool.and_comm], hD5⟩
set_option maxHeartbeats 4000000 in
set_option maxRecDepth 1000000 in
theorem inl5 {W0 : World} {qb : Nat} {D : Qn → Prop} (bA : Bool) (nA : Nat) (t n a : ByteArray) (A1 : Option Addr) (n1 c1 : Nat) (i : Option Addr) (A2 : Option Addr) (n2 c2 : Nat) (d : Nat) (w : World) (hn9 : n.size ≤ 4000000)
    (hA : ∀ w', Asks W0 qb D 83 #[pt qb, .slice A1 n1 c1, .int .i64 d] w' bA nA) :
    Asks W0 qb D 65 #[pt qb, exV 5 t n a A1 n1 c1 i A2 n2 c2, .int .i64 d] w (isNameV n && bigV n && bA && bareB t ⟨#[]⟩ a 0 i n2) nA := by
  intro qs hq hn
  have Hq := Lib.hid hq
  have Hn := Lib.hid hn
  have HA := Lib.hid hA
  have hold := hq.old
  have hlt := hq.lt
  have hN := fun W => isName_any n W (by omega)
  obtain ⟨q, hqq⟩ : ∃ q, isNameV n = q := ⟨_, rfl⟩
  rw [hqq] at hN ⊢
  have HN := Lib.hid hN
  have hG := fun W => big_any n W (by omega)
  obtain ⟨g, hgg⟩ : ∃ q, bigV n = q := ⟨_, rfl⟩
  rw [hgg] at hG ⊢
  have HG := Lib.hid hG
  clear hG hgg
  have hbare := fun W => bare_any 5 t ⟨#[]⟩ a none 0 0 i A2 n2 c2 W
  obtain ⟨bb, hbb⟩ : ∃ b, bareB t ⟨#[]⟩ a 0 i n2 = b := ⟨_, rfl⟩
  rw [hbb] at hbare ⊢
  have HBare := Lib.hid hbare
  clear hq hn hN hqq hbare hbb hA
  unfold pt exV
  cases q
  case false =>
    go_enter Tryd.func65, Tryd.ntmps65
    go_wp2_with fail
    go_at_call 25
    refine (HN.out _).mono ?_
    rintro e w3 ⟨rfl, rfl⟩
    go_wp2
    go_ret
    exact Asked.calm Hq.out (by repeat' first | exact Below.refl _ _ | apply Below.setCell | apply Below.alloc | (simp; done) | (simp; omega)) (by rfl)
  cases g
  case false =>
    go_enter Tryd.func65, Tryd.ntmps65
    go_wp2_with fail
    go_at_call 25
    refine (HN.out _).mono ?_
    rintro e w3 ⟨rfl, rfl⟩
    go_wp2_with fail
    go_at_call 84
    refine (HG.out _).mono ?_
    rintro e w3 ⟨rfl, rfl⟩
    go_wp2
    go_ret
    exact Asked.calm Hq.out (by repeat' first | exact Below.refl _ _ | apply Below.setCell | apply Below.alloc | (simp; done) | (simp; omega)) (by rfl)
  go_enter Tryd.func65, Tryd.ntmps65
  go_wp2_with fail
  go_at_call 25
  refine (HN.out _).mono ?_
  rintro e w3 ⟨rfl, rfl⟩
  go_wp2_with fail
  go_at_call 84
  refine (HG.out _).mono ?_
  rintro e w3 ⟨rfl, rfl⟩
  go_wp2_with fail
  go_at_call 83
  refine (HA.out _ qs ?hq Hn.out).mono ?_
  case hq =>
    refine Hq.out.later ?_
    repeat' first | exact Below.refl _ _ | apply Below.setCell | apply Below.alloc | (simp; done) | (simp; omega)
  rintro e w5 ⟨r, new, rfl, h5, s5, ht5, hb5, hD5⟩
  have hne : w.heap.size + 1 + 1 + 1 ≠ qb := by omega
  have hco := by
    refine fun o => s5.cell (k := w.heap.size + 1 + 1 + 1) (t := 36) ?_ (by decide) hne o
    repeat' first | exact CellsOf.new' _ _ _ _ (by simp; done) | apply CellsOf.setCell | apply CellsOf.alloc
  have hcs := hco
  have q0 := hcs 0
  have q1 := hcs 1
  have q2 := hcs 2
  have q3 := hcs 3
  have q4 := hcs 4
  have q5 := hcs 5
  have q6 := hcs 6
  have hB5 : StepQ W0.heap.size qb w w5 := by
    refine StepQ.trans ((StepQ.refl _ _ _).later ?_ hold) s5
    repeat' first | exact Below.refl _ _ | apply Below.setCell | apply Below.alloc | (simp; done) | (simp; omega)
  have HB5 := Lib.hid hB5
  have H5 := Lib.hid h5
  have Hb5 := Lib.hid hb5
  clear hcs hco s5 h5 hB5 hb5
  cases r
  case false =>
    go_wp2
    go_ret
    exact ⟨false, new, rfl, H5.out, HB5.out, ht5, by rw [Hb5.out]; simp, hD5⟩
  go_wp2_with fail
  go_at_call 81
  refine (HBare.out _).mono ?_
  rintro e w6 ⟨rfl, hb6⟩
  go_wp2
  go_ret
  exact ⟨bb, new, rfl, H5.out.later hb6, HB5.out.later hb6 H5.out.old, ht5, by rw [Hb5.out]; simp [Bool.and_comm], hD5⟩
end Go.Proofs.YtbolmffldmegeaaDoor
