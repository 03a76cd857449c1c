/-
  Package ast: what stands in the list of questions; what a call asks.
-/
import Derived.Test.YtbolmffldmegeaaDoorAsp
import Derived.Test.YtbolmffldmegeaaDoorAq2
namespace Go.Proofs.YtbolmffldmegeaaDoor
open Go.RowKit
set_option linter.unusedVariables false

def pt (k : Nat) : Value := .pointer (some ⟨k, 0, none⟩)
/-- That function value asks that. -/
def IsQ (W0 : World) (qb : Nat) (fv : Value) : Qn → World → Prop
  | .same a b, w => ∃ k1 k2 k3 pa pb, fv = .func (.func 52) #[] #[pt k1, pt k2, pt k3] ∧
      BoxAt w k1 #[pt qb] 52 ∧ BoxAt w k2 #[pa] 33 ∧ BoxAt w k3 #[pb] 33 ∧ OAt W0 (some a) pa ∧ OAt W0 (some b) pb
  | .pats a b, w => ∃ k1 k2 k3 b1 o1 b2 o2 u1 u2, fv = .func (.func 91) #[] #[pt k1, pt k2, pt k3] ∧
      BoxAt w k1 #[pt qb] 52 ∧ BoxAt w k2 #[.pointer (some ⟨b1, o1, none⟩)] 105 ∧ BoxAt w k3 #[.pointer (some ⟨b2, o2, none⟩)] 105 ∧
      b1 < W0.heap.size ∧ b2 < W0.heap.size ∧ W0.cell? ⟨b1, o1 + 2, none⟩ = some u1 ∧ W0.cell? ⟨b2, o2 + 2, none⟩ = some u2 ∧ PatAt W0 a u1 ∧ PatAt W0 b u2
  | .may .brc e d, w => ∃ N k1 k2 k3 p d', (N = 43 ∨ N = 85) ∧ d = d' + 1 ∧ d' ≤ 20 ∧ fv = .func (.func N) #[] #[pt k1, pt k2, pt k3] ∧
      BoxAt w k1 #[pt qb] 52 ∧ BoxAt w k2 #[p] 33 ∧ BoxAt w k3 #[.int .i64 (d' : Nat)] 3 ∧ OAt W0 (some e) p
  | .may .inl e d, w => ∃ k1 k2 k3 p, d ≤ 20 ∧ fv = .func (.func 98) #[] #[pt k1, pt k2, pt k3] ∧
      BoxAt w k1 #[pt qb] 52 ∧ BoxAt w k2 #[p] 33 ∧ BoxAt w k3 #[.int .i64 (d : Nat)] 3 ∧ OAt W0 (some e) p
  | .may .ask _ _, _ => False
theorem ne_of_box {w : World} {k qb : Nat} {cs cs' : Array Value} {t t' : TypeId} (h : BoxAt w k cs t) (h' : BoxAt w qb cs' t') (ht : t ≠ t') : k ≠ qb := by
  rintro rfl
  unfold BoxAt at h h'
  rw [h] at h'
  cases h'
  exact ht rfl
theorem IsQ.step {W0 : World} {qb : Nat} {fv : Value} {q : Qn} {w w' : World} {B : Nat} {cs : Array Value} (h : IsQ W0 qb fv q w) (hq : BoxAt w qb cs 46) (hs : StepQ B qb w w') : IsQ W0 qb fv q w' := by
  have go : ∀ {k c t}, BoxAt w k c t → t ≠ 46 → t ≠ 27 → BoxAt w' k c t := fun hb h1 h2 => hb.step hs (ne_of_box hb hq h1) h2
  match q, h with
  | .same a b, ⟨k1, k2, k3, pa, pb, e, b1, b2, b3, r⟩ => exact ⟨k1, k2, k3, pa, pb, e, go b1 (by decide) (by decide), go b2 (by decide) (by decide), go b3 (by decide) (by decide), r⟩
  | .pats a b, ⟨k1, k2, k3, x1, o1, x2, o2, u1, u2, e, b1, b2, b3, r⟩ => exact ⟨k1, k2, k3, x1, o1, x2, o2, u1, u2, e, go b1 (by decide) (by decide), go b2 (by decide) (by decide), go b3 (by decide) (by decide), r⟩
  | .may .brc a d, ⟨N, k1, k2, k3, p, d', hN, hd, hd2, e, b1, b2, b3, r⟩ => exact ⟨N, k1, k2, k3, p, d', hN, hd, hd2, e, go b1 (by decide) (by decide), go b2 (by decide) (by decide), go b3 (by decide) (by decide), r⟩
  | .may .inl a d, ⟨k1, k2, k3, p, hd, e, b1, b2, b3, r⟩ => exact ⟨k1, k2, k3, p, hd, e, go b1 (by decide) (by decide), go b2 (by decide) (by decide), go b3 (by decide) (by decide), r⟩
/-- They ask these, one by one. -/
def QZip (W0 : World) (qb : Nat) (w : World) : List Value → List Qn → Prop
  | [], [] => True
  | f :: fs, q :: qs => IsQ W0 qb f q w ∧ QZip W0 qb w fs qs
  | _, _ => False
theorem QZip.len {W0 : World} {qb : Nat} {w : World} : ∀ {fs : List Value} {qs : List Qn}, QZip W0 qb w fs qs → fs.length = qs.length
  | [], [], _ => rfl
  | f :: fs, q :: qs, h => by have := QZip.len h.2; simp [this]
  | [], q :: qs, h => h.elim
  | f :: fs, [], h => h.elim
theorem QZip.step {W0 : World} {qb : Nat} {w w' : World} {B : Nat} {cs : Array Value} (hq : BoxAt w qb cs 46) (hs : StepQ B qb w w') : ∀ {fs : List Value} {qs : List Qn}, QZip W0 qb w fs qs → QZip W0 qb w' fs qs
  | [], [], _ => trivial
  | f :: fs, q :: qs, h => ⟨h.1.step hq hs, QZip.step hq hs h.2⟩
  | [], q :: qs, h => h.elim
  | f :: fs, [], h => h.elim
theorem QZip.snoc {W0 : World} {qb : Nat} {w : World} {f : Value} {q : Qn} (hf : IsQ W0 qb f q w) : ∀ {fs : List Value} {qs : List Qn}, QZip W0 qb w fs qs → QZip W0 qb w (fs ++ [f]) (qs ++ [q])
  | [], [], _ => ⟨hf, trivial⟩
  | f :: fs, q :: qs, h => ⟨h.1, QZip.snoc hf h.2⟩
  | [], q :: qs, h => h.elim
  | f :: fs, [], h => h.elim
theorem QZip.pop {W0 : World} {qb : Nat} {w : World} {q : Qn} : ∀ {qs : List Qn} {fs : List Value}, QZip W0 qb w fs (qs ++ [q]) → ∃ fs' f, fs = fs' ++ [f] ∧ QZip W0 qb w fs' qs ∧ IsQ W0 qb f q w
  | [], [f], h => ⟨[], f, rfl, trivial, h.1⟩
  | [], [], h => h.elim
  | [], _ :: _ :: _, h => h.2.elim
  | q' :: qs, [], h => h.elim
  | q' :: qs, f :: fs, h => by
    obtain ⟨fs', g, rfl, h1, h2⟩ := QZip.pop (qs := qs) (fs := fs) h.2
    exact ⟨f :: fs', g, rfl, ⟨h.1, h1⟩, h2⟩

def qMax : Nat := 4000000
/-- The list at block qb asks these; what lies below is as it was at first. -/
def QsAt (W0 : World) (qb : Nat) (qs : List Qn) (w : World) : Prop := ∃ fvs, QAt W0.heap.size qb fvs w ∧ QZip W0 qb w fvs qs ∧ Below W0.heap.size W0 w
theorem QsAt.below {W0 : World} {qb : Nat} {qs : List Qn} {w : World} (h : QsAt W0 qb qs w) : Below W0.heap.size W0 w := by obtain ⟨_, _, _, h⟩ := h; exact h
theorem QsAt.box {W0 : World} {qb : Nat} {qs : List Qn} {w : World} (h : QsAt W0 qb qs w) : ∃ v, BoxAt w qb #[v] 46 := by obtain ⟨_, ⟨_, v, hb, _⟩, _⟩ := h; exact ⟨v, hb⟩
theorem QsAt.lt {W0 : World} {qb : Nat} {qs : List Qn} {w : World} (h : QsAt W0 qb qs w) : W0.heap.size ≤ qb ∧ qb < w.heap.size := by obtain ⟨_, ⟨h1, v, hb, _⟩, _⟩ := h; exact ⟨h1, hb.lt⟩
theorem QsAt.old {W0 : World} {qb : Nat} {qs : List Qn} {w : World} (h : QsAt W0 qb qs w) : W0.heap.size ≤ w.heap.size := h.below.size
theorem QsAt.alloc {W0 : World} {qb : Nat} {qs : List Qn} {w : World} (h : QsAt W0 qb qs w) (o : Obj) : QsAt W0 qb qs (w.alloc o) := by
  obtain ⟨v, hb⟩ := h.box
  have ho := h.old
  obtain ⟨fvs, h1, h2, h3⟩ := h
  exact ⟨fvs, h1.alloc o, h2.step hb ((StepQ.refl W0.heap.size _ _).alloc ho o), h3.alloc ho o⟩
theorem QsAt.drew {W0 : World} {qb : Nat} {qs : List Qn} {w : World} (h : QsAt W0 qb qs w) : QsAt W0 qb qs w.drew := by
  obtain ⟨v, hb⟩ := h.box
  obtain ⟨fvs, h1, h2, h3⟩ := h
  exact ⟨fvs, h1.drew, h2.step hb ((StepQ.refl W0.heap.size _ _).drew), h3.drew⟩

/-- What a call that asks leaves: b holds just if it says so and all that it has put off holds. -/
def Asked (W0 : World) (qb : Nat) (D : Qn → Prop) (qs : List Qn) (w : World) (b : Bool) (n : Nat) (e : Ending) (w' : World) : Prop :=
  ∃ r qs', e = .returned (.bool r) ∧ QsAt W0 qb (qs ++ qs') w' ∧ StepQ W0.heap.size qb w w' ∧ total qs' ≤ n ∧ b = (r && answers qs') ∧ ∀ q ∈ qs', D q
def Asks (W0 : World) (qb : Nat) (D : Qn → Prop) (f : FuncId) (args : Array Value) (w : World) (b : Bool) (n : Nat) : Prop :=
  ∀ qs, QsAt W0 qb qs w → total qs + n ≤ qMax → Calls Tryd.prog f args w (Asked W0 qb D qs w b n)
theorem Asks.at_ {W0 : World} {qb : Nat} {D : Qn → Prop} {f : FuncId} {args : Array Value} {w : World} {b : Bool} {n : Nat} (h : Asks W0 qb D f args w b n) {qs : List Qn} (hq : QsAt W0 qb qs w) (hn : total qs + n ≤ qMax) : Calls Tryd.prog f args w (Asked W0 qb D qs w b n) := h qs hq hn
/-- Nothing put off. -/
theorem Asked.plain {W0 : World} {qb : Nat} {D : Qn → Prop} {qs : List Qn} {w w' : World} {b r : Bool} {n : Nat} (hq : QsAt W0 qb qs w') (hs : StepQ W0.heap.size qb w w') (hb : b = r) : Asked W0 qb D qs w b n (.returned (.bool r)) w' :=
  ⟨r, [], rfl, by simpa using hq, hs, Nat.zero_le _, by simp [answers, hb], by simp⟩
/-- As a call behind some steps gives it. -/
theorem Asked.pre {W0 : World} {qb : Nat} {D : Qn → Prop} {qs : List Qn} {w w1 w' : World} {b : Bool} {n m : Nat} {e : Ending} (hs : StepQ W0.heap.size qb w w1) (h : Asked W0 qb D qs w1 b n e w') (hn : n ≤ m) : Asked W0 qb D qs w b m e w' := by
  obtain ⟨r, qs', h1, h2, h3, h4, h5, h6⟩ := h
  exact ⟨r, qs', h1, h2, hs.trans h3, Nat.le_trans h4 hn, h5, h6⟩
/-- 'later', of a question that the function value asks. -/
theorem later_q {W0 : World} {qb : Nat} {qs : List Qn} {w : World} (N : FuncId) (caps : Array Value) (q : Qn) (hf : IsQ W0 qb (.func (.func N) #[] caps) q w) (hq : QsAt W0 qb qs w) (hn : total qs + q.size ≤ qMax) :
    Calls Tryd.prog 42 #[pt qb, .func (.func N) #[] caps] w fun e w' => e = .returned (.bool true) ∧ QsAt W0 qb (qs ++ [q]) w' ∧ StepQ W0.heap.size qb w w' := by
  obtain ⟨v, hb⟩ := hq.box
  have ho := hq.old
  obtain ⟨fvs, h1, h2, h3⟩ := hq
  have hl := h2.len
  have := total_length qs
  refine (later_any N caps h1 ho (by unfold qMax at hn; omega)).mono ?_
  rintro e w' ⟨rfl, h4, h5⟩
  exact ⟨rfl, ⟨_, h4, (h2.step hb h5).snoc (hf.step hb h5), h3.trans h5.below⟩, h5⟩
end Go.Proofs.YtbolmffldmegeaaDoor
