/-
  Package ast: isFilled, isNumber, isBare.
-/
import Derived.Test.YtbolmffldmegeaaDoorApa
namespace Go.Proofs.YtbolmffldmegeaaDoor
open Go.RowKit
set_option linter.unusedVariables false
set_option linter.unusedSimpArgs false

theorem Asked.calm' {W0 : World} {qb : Nat} {D : Qn → Prop} {qs : List Qn} {w w' : World} {b r : Bool} {n : Nat} (hq : QsAt W0 qb qs w) (hs : Below w.heap.size w w') (hb : b = r) : Asked W0 qb D qs w b n (.returned (.bool r)) w' :=
  Asked.plain (hq.later hs) ((StepQ.refl _ _ _).later hs hq.old) hb
theorem isFilled_asks {W0 : World} {qb : Nat} {D : Qn → Prop} (hT : TabU W0) (l : List EL) (HCA : ∀ t p, EL.mk t p ∈ l → validB t = true → CaTo t) {v : Value} (hv : PatAt W0 l v) (d : Nat) (hd : d ≤ 20) (hD : ∀ t e, EL.mk t (some e) ∈ l → D (.may .brc e (d + 1))) (w : World) :
    Asks W0 qb D 27 #[pt qb, v, .int .i64 d] w (!l.isEmpty && patB l d) (sizeEs l) := by
  intro qs hq hn
  have hp := isPattern_asks hT l HCA hv d hd hD w (qb := qb) qs hq hn
  have hv' := hv
  obtain ⟨A, c, rfl, hc1, hc2, _⟩ := hv'
  have Hq := Lib.hid hq
  have HP := Lib.hid hp
  by_cases h0 : 0 < l.length
  · have hie : l.isEmpty = false := by cases l with | nil => simp at h0 | cons _ _ => rfl
    rw [hie]
    have h1 : decide ((0 : Int) < (l.length : Int)) = true := decide_eq_true (by omega)
    have h2 : decide (0 < l.length) = true := decide_eq_true h0
    clear hq hn hp hv hd hc1 hc2 hie hD HCA
    unfold pt
    go_enter Tryd.func27, Tryd.ntmps27
    go_wp2_with fail
    go_at_call 26
    refine HP.out.mono ?_
    rintro e w' ⟨r, new, rfl, h1, h2, h3, h4, h5⟩
    have H4 := Lib.hid h4
    clear h4
    go_wp2
    go_ret
    exact ⟨r, new, by simp, h1, h2, h3, by rw [H4.out]; simp, h5⟩
  · have hie : l.isEmpty = true := by cases l with | nil => rfl | cons _ _ => simp at h0
    rw [hie]
    have h1 : decide ((0 : Int) < (l.length : Int)) = false := decide_eq_false (by omega)
    have h2 : decide (0 < l.length) = false := decide_eq_false h0
    clear hq hn hp hv hd hc1 hc2 hie hD HCA HP
    unfold pt
    go_enter Tryd.func27, Tryd.ntmps27
    go_wp2
    go_ret
    exact Asked.plain Hq.out (StepQ.refl _ _ _) rfl
theorem isNumber_any (s : ByteArray) (w : World) (hs : s.size ≤ 4000000) :
    Calls Tryd.prog 80 #[.string s] w fun e w' => e = .returned (.bool (isNum s)) ∧ Below w.heap.size w w' := by
  have hN := number_any s 0 w (by omega)
  have hv : isNum s = (!s.toList.isEmpty && (numI s.data.toList 0 == (s.size : Int))) := by unfold isNum; rw [Lib.toList_data]
  rw [hv]
  generalize numI s.data.toList 0 = k at *
  cases he : s.toList.isEmpty
  · have HN := Lib.hid hN
    clear hN hv
    go_enter Tryd.func80, Tryd.ntmps80
    go_wp2_with fail
    go_at_call 97
    refine HN.out.mono ?_
    rintro e w' ⟨rfl, hb⟩
    go_wp2
    go_ret
    exact ⟨rfl, hb⟩
  · clear hN hv
    go_enter Tryd.func80, Tryd.ntmps80
    go_wp2
    go_ret
    exact ⟨rfl, Below.refl _ _⟩
/-- An expression as it is handed on. -/
def exV (k : Int) (t n a : ByteArray) (A1 : Option Addr) (n1 c1 : Nat) (i : Option Addr) (A2 : Option Addr) (n2 c2 : Nat) : Value :=
  .agg #[.int .i64 k, .string t, .string n, .string a, .slice A1 n1 c1, .pointer i, .slice A2 n2 c2]
set_option maxHeartbeats 2000000 in
set_option maxRecDepth 100000 in
theorem isBare_any (k : Int) (t n a : ByteArray) (A1 : Option Addr) (n1 c1 : Nat) (i : Option Addr) (A2 : Option Addr) (n2 c2 : Nat) (w : World) :
    Calls Tryd.prog 81 #[exV k t n a A1 n1 c1 i A2 n2 c2] w fun e w' => e = .returned (.bool (emp t && (emp n && (emp a && (decide (n1 = 0) && (i.isNone && decide (n2 = 0))))))) ∧ Below w.heap.size w w' := by
  unfold exV emp
  cases ht : t.toList.isEmpty
  case false =>
    go_enter Tryd.func81, Tryd.ntmps81
    go_wp2
    go_ret
    exact ⟨ret_bool (by simp), (Below.refl _ _).alloc (Nat.le_refl _) _⟩
  cases hn : n.toList.isEmpty
  case false =>
    go_enter Tryd.func81, Tryd.ntmps81
    go_wp2
    go_ret
    exact ⟨ret_bool (by simp), (Below.refl _ _).alloc (Nat.le_refl _) _⟩
  cases ha : a.toList.isEmpty
  case false =>
    go_enter Tryd.func81, Tryd.ntmps81
    go_wp2
    go_ret
    exact ⟨ret_bool (by simp), (Below.refl _ _).alloc (Nat.le_refl _) _⟩
  by_cases h1 : n1 = 0
  case neg =>
    have z1 : ((n1 : Int) == 0) = false := beq_eq_false_iff_ne.2 (by omega)
    rw [decide_eq_false h1]
    go_enter Tryd.func81, Tryd.ntmps81
    go_wp2
    go_ret
    exact ⟨ret_bool (by simp), (Below.refl _ _).alloc (Nat.le_refl _) _⟩
  have z1 : ((n1 : Int) == 0) = true := beq_iff_eq.2 (by omega)
  rw [decide_eq_true h1]
  clear h1
  cases i
  case some q =>
    go_enter Tryd.func81, Tryd.ntmps81
    go_wp2
    go_ret
    exact ⟨ret_bool (by simp), (Below.refl _ _).alloc (Nat.le_refl _) _⟩
  by_cases h2 : n2 = 0
  case neg =>
    have z2 : ((n2 : Int) == 0) = false := beq_eq_false_iff_ne.2 (by omega)
    rw [decide_eq_false h2]
    go_enter Tryd.func81, Tryd.ntmps81
    go_wp2
    go_ret
    exact ⟨ret_bool (by simp), (Below.refl _ _).alloc (Nat.le_refl _) _⟩
  have z2 : ((n2 : Int) == 0) = true := beq_iff_eq.2 (by omega)
  rw [decide_eq_true h2]
  clear h2
  · go_enter Tryd.func81, Tryd.ntmps81
    go_wp2
    go_ret
    exact ⟨ret_bool (by simp), (Below.refl _ _).alloc (Nat.le_refl _) _⟩
end Go.Proofs.YtbolmffldmegeaaDoor
