/-
  Several texts put together (part 4): what the law and the program call, walked; their contracts.
-/
import Derived.Maps.Own
import Derived.Maps.OwnOps
import Derived.Maps.OwnSet
import Derived.Maps.Views
import Derived.WideMake
import Derived.StillTailTactics
import Derived.Deep.RegionHeld3
import Derived.Deep.QuietTactic
import Derived.BigQuiet
import Derived.Test.YtmceblemiboedaaDoorM3
/-
  Package ast: areArgs.
-/
namespace Go.Proofs.YtmceblemiboedaaDoor
open Go.RowKit Go.Maps
set_option linter.unusedVariables false
set_option linter.unusedSimpArgs false

theorem keyLaw : Keyed Tryd.prog 9 := string_keyed Tryd.underlying9
theorem zeroUnit (w : World) : (zeroValue 110).run Tryd.prog w = .ok (.agg #[]) w := by kernel_rfl
/-- The map holds just these names. -/
def NamesAt (W : World) (b n : Nat) (seen : List ByteArray) : Prop :=
  ∃ D : DataW Unit, W.ownsMap Tryd.prog 9 (unitElem (H := Unit)) b n D ∧ (∀ p : ByteArray, Maps.has D (.string p.data.toList) = memB p seen) ∧ Maps.size D = seen.length
theorem NamesAt.later {W W1 : World} {b n : Nat} {seen : List ByteArray} (h : NamesAt W b n seen) (hb : Below W.heap.size W W1) : NamesAt W1 b n seen := by
  obtain ⟨D, ⟨es, clock, h1, h2⟩, h3⟩ := h
  exact ⟨D, ⟨es, clock, (hb.block b (Array.getElem?_eq_some_iff.1 h1).1).trans h1, h2⟩, h3⟩
theorem NamesAt.made (w : World) : NamesAt (w.alloc (.map #[] 0)) w.heap.size 0 [] :=
  ⟨.map [], World.ownsMap_made w _ _ _, fun p => by simp [Maps.has, memB], rfl⟩
theorem NamesAt.mono {W : World} {b n m : Nat} {seen : List ByteArray} (h : NamesAt W b n seen) (hm : n ≤ m) : NamesAt W b m seen := by
  obtain ⟨D, h1, h3⟩ := h
  exact ⟨D, h1.mono hm, h3⟩
theorem NamesAt.step {B qb : Nat} {W W1 : World} {b n : Nat} {seen : List ByteArray} {cs : Array Value} (h : NamesAt W b n seen) (hq : BoxAt W qb cs 46) (hs : StepQ B qb W W1) : NamesAt W1 b n seen := by
  obtain ⟨D, ⟨es, clock, h1, h2⟩, h3⟩ := h
  refine ⟨D, ⟨es, clock, hs.kept b _ h1 ?_ (by intro c fz e; cases e), h2⟩, h3⟩
  intro e
  have e2 := Option.some.inj e
  subst e2
  unfold BoxAt at hq
  rw [h1] at hq
  cases hq
theorem names_put {D : DataW Unit} (hm : Tidy D) {seen : List ByteArray} (h : ∀ p : ByteArray, Maps.has D (.string p.data.toList) = memB p seen) (hz : Maps.size D = seen.length) (q : ByteArray) (hq : memB q seen = false) (u : DataW Unit) :
    (∀ p : ByteArray, Maps.has (D.put (.string q.data.toList) u) (.string p.data.toList) = memB p (q :: seen)) ∧ Maps.size (D.put (.string q.data.toList) u) = (q :: seen).length := by
  constructor
  · intro p
    by_cases e : p = q
    · subst e
      rw [has_put_same hm.isMap (by simp [WideAt.IsKeyLit])]
      simp [memB]
    · rw [has_put_other (by intro e2; exact e (bytes_eq (by injection e2))), h p]
      simp [memB, e]
  · rw [size_put hm, h q, hq, hz]
    simp
theorem args_get {W0 : World} {l : List AR} {v : Value} (h : LieAt (AsAt W0 l) v l.length) {i : Nat} (hi : i < l.length) : ∃ b o c, v = .slice (some ⟨b, o, none⟩) l.length c ∧ b < W0.heap.size ∧
    ∀ j t e, l[j]? = some (.mk t e) → W0.cell? ⟨b, o + j * 8, none⟩ = some (.string t) ∧ ∃ c7, CellsAt W0 b (o + j * 8 + 1) c7 ∧ ExAt W0 e c7 := by
  obtain ⟨A, c, rfl, _, _, h2⟩ := h
  obtain ⟨b, o, rfl, h3⟩ := h2 (by omega)
  have h0 : l[0]? = some l[0] := List.getElem?_eq_getElem (by omega)
  refine ⟨b, o, c, rfl, ?_, fun j t d hj => ⟨(h3.get j hj).2.1, (h3.get j hj).2.2⟩⟩
  cases e : l[0]'(by omega) with
  | mk t d => rw [e] at h0; exact (h3.get 0 h0).1
theorem sizeAs_length : ∀ l : List AR, l.length ≤ sizeAs l
  | [] => Nat.zero_le _
  | .mk n e :: r => by have := sizeAs_length r; have := e.size_pos; rw [sizeAs, List.length_cons]; omega
theorem sizeAs_append : ∀ a b : List AR, sizeAs (a ++ b) = sizeAs a + sizeAs b
  | [], b => by rw [List.nil_append, sizeAs]; omega
  | .mk n e :: r, b => by rw [List.cons_append, sizeAs, sizeAs, sizeAs_append r b]; omega
theorem sizeAs_take (l : List AR) (i : Nat) : sizeAs (l.take i) ≤ sizeAs l := by
  have := sizeAs_append (l.take i) (l.drop i)
  rw [List.take_append_drop] at this
  omega
/-- A map's store keeps all blocks of cells. -/
theorem grown_cells {w w' : World} {b : Nat} (hg : w.grownBy w' (some b)) (hm : ∃ es c, w.heap[b]? = some (.map es c)) {k : Nat} {cs : Array Value} {t : TypeId} {fz : Nat × Nat} (h : w.heap[k]? = some (.cells cs t fz)) : w'.heap[k]? = some (.cells cs t fz) := by
  rw [hg.block k (Array.getElem?_eq_some_iff.1 h).1 ?_]
  · exact h
  · intro e
    obtain ⟨es, c, hm⟩ := hm
    have := Option.some.inj e
    subst this
    rw [h] at hm
    cases hm
theorem QsAt.mapped {W0 : World} {qb : Nat} {qs : List Qn} {w w' : World} {b : Nat} (h : QsAt W0 qb qs w) (hg : w.grownBy w' (some b)) (hm : ∃ es c, w.heap[b]? = some (.map es c)) (hB : W0.heap.size ≤ b) : QsAt W0 qb qs w' := by
  have ho := h.old
  obtain ⟨fvs, ⟨h1, v, h2, h3⟩, h4, h5⟩ := h
  refine ⟨fvs, ⟨h1, v, grown_cells hg hm h2, ?_⟩, h4.mono (fun _ hx => grown_cells hg hm hx), h5.grown hg ho (fun k e => by have := Option.some.inj e; omega)⟩
  obtain ⟨g1, g2⟩ := h3
  refine ⟨g1, ?_⟩
  rcases g2 with g2 | ⟨g, cap, cur, e, hgg, hh, r⟩
  · exact .inl g2
  · exact .inr ⟨g, cap, cur, e, hgg, grown_cells hg hm hh, r⟩
theorem StepQ.mapped {B qb : Nat} {a w w' : World} {b : Nat} (h : StepQ B qb a w) (hg : w.grownBy w' (some b)) (hb : a.heap.size ≤ b) (hB : B ≤ w.heap.size) (hBb : B ≤ b) : StepQ B qb a w' :=
  ⟨h.below.grown hg hB (fun k e => by have := Option.some.inj e; omega), fun k o hk h1 h2 => by
    have h3 := h.kept k o hk h1 h2
    have hlt := (Array.getElem?_eq_some_iff.1 hk).1
    rw [hg.block k (Array.getElem?_eq_some_iff.1 h3).1 (by intro e; have := Option.some.inj e; omega)]
    exact h3⟩
theorem owns_map {w : World} {b n : Nat} {D : DataW Unit} (h : w.ownsMap Tryd.prog 9 (unitElem (H := Unit)) b n D) : ∃ es c, w.heap[b]? = some (.map es c) := by
  obtain ⟨es, clock, h1, _⟩ := h
  exact ⟨es, clock, h1⟩
theorem total_zero {qs : List Qn} (h : total qs ≤ 0) : qs = [] := by
  cases qs with
  | nil => rfl
  | cons q r => have := q.size_pos; simp only [total] at h; omega
/-- What areArgs holds in the midst of a round. -/
structure ArgMid (W0 : World) (qb : Nat) (w : World) (d : Nat) (qs2 : List Qn) (n : Nat) (seen : List ByteArray) (kp : Nat) (P : Value) (W : World) : Prop where
  qs : QsAt W0 qb qs2 W
  st : StepQ W0.heap.size qb w W
  k0 : BoxAt W w.heap.size #[pt qb] 52
  k1 : BoxAt W (w.heap.size + 1) #[.int .i64 d] 3
  kp : BoxAt W kp #[P] 33
  nm : NamesAt W (w.heap.size + 1 + 1) n seen
theorem ArgMid.later {W0 : World} {qb : Nat} {w : World} {d : Nat} {qs2 : List Qn} {n : Nat} {seen : List ByteArray} {kp : Nat} {P : Value} {W W' : World} (h : ArgMid W0 qb w d qs2 n seen kp P W) (hb : Below W.heap.size W W') : ArgMid W0 qb w d qs2 n seen kp P W' :=
  ⟨h.qs.later hb, h.st.later hb h.qs.old, h.k0.later hb, h.k1.later hb, h.kp.later hb, h.nm.later hb⟩
theorem ArgMid.drew {W0 : World} {qb : Nat} {w : World} {d : Nat} {qs2 : List Qn} {n : Nat} {seen : List ByteArray} {kp : Nat} {P : Value} {W : World} (h : ArgMid W0 qb w d qs2 n seen kp P W) : ArgMid W0 qb w d qs2 n seen kp P W.drew := h.later (Below.refl _ _).drew
theorem ArgMid.cells {W0 : World} {qb : Nat} {w : World} {d : Nat} {qs2 : List Qn} {n : Nat} {seen : List ByteArray} {kp : Nat} {P : Value} {b o : Nat} {x0 x1 x2 x3 x4 x5 x6 : Value} (hb : b < W0.heap.size) (hc : CellsAt W0 b o ⟨x0, x1, x2, x3, x4, x5, x6⟩) {W : World} (h : ArgMid W0 qb w d qs2 n seen kp P W) :
    W.cell? ⟨w.heap.size, 0, none⟩ = some (.pointer (some ⟨qb, 0, none⟩)) ∧ W.cell? ⟨w.heap.size + 1, 0, none⟩ = some (.int .i64 d) ∧ W.cell? ⟨kp, 0, none⟩ = some P ∧
    W.cell? ⟨b, o, none⟩ = some x0 ∧ W.cell? ⟨b, o + 1, none⟩ = some x1 ∧ W.cell? ⟨b, o + 2, none⟩ = some x2 ∧ W.cell? ⟨b, o + 3, none⟩ = some x3 ∧ W.cell? ⟨b, o + 4, none⟩ = some x4 ∧ W.cell? ⟨b, o + 5, none⟩ = some x5 ∧ W.cell? ⟨b, o + 6, none⟩ = some x6 ∧
    ArgMid W0 qb w d qs2 n seen kp P W := by
  obtain ⟨c0, c1, c2, c3, c4, c5, c6⟩ := hc
  have g := h.qs.below
  exact ⟨h.k0.cell 0, h.k1.cell 0, h.kp.cell 0, (g.cell (p := ⟨b, _, none⟩) hb).trans c0, (g.cell (p := ⟨b, _, none⟩) hb).trans c1, (g.cell (p := ⟨b, _, none⟩) hb).trans c2, (g.cell (p := ⟨b, _, none⟩) hb).trans c3, (g.cell (p := ⟨b, _, none⟩) hb).trans c4, (g.cell (p := ⟨b, _, none⟩) hb).trans c5, (g.cell (p := ⟨b, _, none⟩) hb).trans c6, h⟩
theorem isNone_of {W : World} {i : Option EX} {p : Option Addr} (h : OAt W i (.pointer p)) : p.isNone = i.isNone := by
  cases i with
  | none => simp only [OAt] at h; cases h; rfl
  | some e => simp only [OAt] at h; obtain ⟨_, _, _, e, _⟩ := h; cases e; rfl
theorem len0 {α : Type} (l : List α) : decide (l.length = 0) = l.isEmpty := by cases l <;> simp
theorem inl01 {W0 : World} {qb : Nat} {D : Qn → Prop} (hT : TabU W0) (k : Int) (hk : k = 0 ∨ k = 1) (t n a : ByteArray) (al : List AR) (A1 : Option Addr) (c1 : Nat) (ie : Option EX) (i : Option Addr) (hi : OAt W0 ie (.pointer i)) (vs : List VA) (A2 : Option Addr) (c2 : Nat) (d : Nat) (w : World) (ht : t.size ≤ 4000000) :
    Asks W0 qb D 65 #[pt qb, exV k t n a A1 al.length c1 i A2 vs.length c2, .int .i64 d] w (okE .inl (.mk k t n a al ie vs) d) 0 := by
  have hin := isNone_of hi
  rcases hk with rfl | rfl
  · have h := inl0 (qb := qb) (D := D) hT t n a A1 al.length c1 i A2 vs.length c2 d w ht
    have e : okE .inl (.mk 0 t n a al ie vs) d = (validB t && bareB ⟨#[]⟩ n a al.length i vs.length) := by
      rw [okE]
      unfold inlP bareB
      rw [emp_nil, len0, len0, hin]
      simp [Bool.and_assoc]
    rw [e]; exact h
  · have h := inl1 (qb := qb) (D := D) hT t n a A1 al.length c1 i A2 vs.length c2 d w ht
    have e : okE .inl (.mk 1 t n a al ie vs) d = (isNum t && bareB ⟨#[]⟩ n a al.length i vs.length) := by
      rw [okE]
      unfold inlP bareB
      rw [emp_nil, len0, len0, hin]
      simp [Bool.and_assoc]
    rw [e]; exact h
theorem key_str (t : ByteArray) (ht : t.size ≤ 4000000) : keyOf Tryd.prog 9 (.string t) = some (.string t.data.toList) := by
  rw [Go.WideMaps.keyOf_string_mk Tryd.underlying9 (by unfold maxLen; omega)]
set_option maxHeartbeats 4000000 in
set_option maxRecDepth 1000000 in
theorem areArgs_asks {W0 : World} {qb : Nat} {D : Qn → Prop} (hT : TabU W0) (l : List AR) {v : Value} (hv : LieAt (AsAt W0 l) v l.length) (d : Nat) (hd : d ≤ 20) (hD : ∀ t e, AR.mk t e ∈ l → D (.may .inl e d)) (w : World) :
    Asks W0 qb D 83 #[pt qb, v, .int .i64 d] w (argNames [] l && okAs l d) (sizeAs l) := by
  intro qs hq hn
  have Hq := Lib.hid hq
  have Hn := Lib.hid hn
  have hv' := hv
  obtain ⟨A, c, rfl, hc1, hc2, _⟩ := hv'
  have HV := Lib.hid hv
  have hold := hq.old
  have hlen : (l.length : Int) ≤ 4000000 := by have := sizeAs_length l; unfold qMax at hn; omega
  have Hd := Lib.hid hd
  have HD := Lib.hid hD
  have hmm := @run_makeMap_plain Tryd.prog
  clear hq hn hv hd hc1 hc2 hD
  unfold pt
  go_enter Tryd.func83, Tryd.ntmps83
  go_wp2
  go_loopw [17] (fun t17 wr => ∃ (i : Nat) (qs' : List Qn) (seen : List ByteArray), t17 = .int .i64 i ∧ i ≤ l.length ∧ Hid (QsAt W0 qb (qs ++ qs') wr) ∧ Hid (StepQ W0.heap.size qb w wr) ∧ Hid (BoxAt wr w.heap.size #[pt qb] 52) ∧ Hid (BoxAt wr (w.heap.size + 1) #[.int .i64 d] 3) ∧
      Hid (NamesAt wr (w.heap.size + 1 + 1) i seen) ∧ Hid (total qs' ≤ sizeAs (l.take i)) ∧ Hid ((argNames [] l && okAs l d) = (argNames seen (l.drop i) && okAs (l.drop i) d && answers qs')) ∧ Hid (∀ q ∈ qs', D q)) (fun t17 _ => l.length - (intOf t17).toNat)
  case atStart =>
    refine ⟨0, [], [], rfl, Nat.zero_le _, ?_, ?_, ?_, ?_, ?_, ?_, ?_, ?_⟩
    · unfold Hid
      rw [List.append_nil]
      refine Hq.out.later ?_
      repeat' first | with_reducible exact Below.refl _ _ | with_reducible apply Below.setCell | with_reducible apply Below.alloc | (simp; done) | (simp; omega)
    · unfold Hid
      refine (StepQ.refl _ _ _).later ?_ hold
      repeat' first | with_reducible exact Below.refl _ _ | with_reducible apply Below.setCell | with_reducible apply Below.alloc | (simp; done) | (simp; omega)
    · exact ((BoxAt.new' _ _ _ _ rfl).alloc _).alloc _
    · exact (BoxAt.new' _ _ _ _ (by simp)).alloc _
    · have := NamesAt.made ((w.alloc (.cells #[pt qb] 52)).alloc (.cells #[.int .i64 d] 3))
      rw [World.size_alloc, World.size_alloc] at this
      exact this
    · unfold Hid; simp [total]
    · unfold Hid; simp [answers]
    · unfold Hid; simp
  case round =>
    obtain ⟨i, qs', seen, rfl, hi, Hqs, Hst, Hk0, Hk1, Hnm, Htot, Hans, HDq⟩ := hrel
    have hi0 : (i : Int) ≤ 4000000 := by omega
    have hbel := Hqs.out.below
    have hszW := Hqs.out.old
    have hlx := Hk1.out.lt
    have hcq : wr.cell? ⟨w.heap.size, 0, none⟩ = some (.pointer (some ⟨qb, 0, none⟩)) := Hk0.out.cell 0
    have hcd : wr.cell? ⟨w.heap.size + 1, 0, none⟩ = some (.int .i64 d) := Hk1.out.cell 0
    have hl0 : w.heap.size < wr.heap.size := by omega
    have hl1 : w.heap.size < wr.heap.size + 1 := by omega
    have hl2 : w.heap.size + 1 < wr.heap.size + 1 := by omega
    by_cases hlt : i < l.length
    · obtain ⟨b, o, c', e, hb, hcs⟩ := args_get HV.out hlt
      cases e
      obtain ⟨t, ex, hel⟩ : ∃ t p, l[i]? = some (.mk t p) := by
        cases e : l[i] with
        | mk t p => exact ⟨t, p, by rw [List.getElem?_eq_getElem hlt, e]⟩
      obtain ⟨c0, c7, hc7, hex⟩ := hcs i t ex hel
      rw [← hbel.cell (p := ⟨b, o + i * 8, none⟩) hb] at c0
      have hbw : b < wr.heap.size := by omega
      have hbw1 : b < wr.heap.size + 1 := by omega
      have hlt' : decide ((i : Int) < (l.length : Int)) = true := decide_eq_true (by omega)
      have hlt3 : ((i : Nat) : Int) < (l.length : Int) := by omega
      have hszt : sizeAs (l.take (i + 1)) = sizeAs (l.take i) + (t.size + ex.size) := by
        rw [take_snoc l i _ hel, sizeAs_append, sizeAs, sizeAs, Nat.add_zero]
      have hszl := sizeAs_take l (i + 1)
      have hqm : total qs + sizeAs l ≤ 4000000 := Hn.out
      have htot := Htot.out
      have hans := Hans.out
      rw [drop_cons l i _ hel] at hans
      have Hans2 := Lib.hid hans
      have Hszt := Lib.hid hszt
      have Hel := Lib.hid hel
      have HC7 := Lib.hid hc7
      have HEx := Lib.hid hex
      clear hans Hans hszt hel hcs hc7 hex hmm
      obtain ⟨Dm, hown, hhas, hsize⟩ := Hnm.out
      have hownL : ∀ W', Below wr.heap.size wr W' → W'.ownsMap Tryd.prog 9 (unitElem (H := Unit)) (w.heap.size + 1 + 1) i Dm := fun W' hb' => by
        obtain ⟨es, clock, h1, h2⟩ := hown
        exact ⟨es, clock, (hb'.block _ (Array.getElem?_eq_some_iff.1 h1).1).trans h1, h2⟩
      have HO := Lib.hid hownL
      have Hhas := Lib.hid hhas
      have HOwn := Lib.hid hown
      obtain ⟨sz, hsz⟩ : ∃ sz, Maps.size Dm = sz := ⟨_, rfl⟩
      have Hsz := Lib.hid (hsz.symm.trans hsize)
      have Hszm := Lib.hid hsz
      clear hown hhas hownL hsize hsz
      have hsz4 : sz ≤ 4000000 ∨ True := .inr trivial
      clear hsz4
      cases he : t.toList.isEmpty
      case true =>
        have hemp : emp t = true := he
        by_cases h0 : 0 < sz
        · have hd : decide ((0 : Int) < (sz : Int)) = true := decide_eq_true (by omega)
          have hd' : decide (0 < sz) = true := decide_eq_true h0
          have hfalse : (argNames [] l && okAs l d) = (false && answers qs') := by
            have h1 : seen.isEmpty = false := by
              have := Hsz.out
              cases seen with
              | nil => simp at this; omega
              | cons x r => rfl
            rw [Hans2.out]
            cases ex with
            | mk k t2 n2 a2 al2 i2 vs2 => rw [argNames, hemp, h1]; rfl
          have Hf := Lib.hid hfalse
          clear hfalse hemp
          go_wp2
          go_region
          go_wp2_with (at_len; refine wpList_len_own _ rfl _ 109 rfl 9 110 Tryd.underlying109 (unitElem (H := Unit)) (w.heap.size + 1 + 1) i Dm rfl (HO.out _ (by repeat' first | with_reducible exact Below.refl _ _ | with_reducible apply Below.setCell | with_reducible apply Below.alloc | with_reducible apply Below.drew | (simp; done) | (simp; omega))) ?_; rw [Hszm.out])
          go_ret
          refine ⟨false, qs', rfl, Hqs.out.later ?_, Hst.out.later ?_ hszW, Nat.le_trans htot (sizeAs_take l i), Hf.out, HDq.out⟩
          · repeat' first | with_reducible exact Below.refl _ _ | with_reducible apply Below.setCell | with_reducible apply Below.alloc | with_reducible apply Below.drew | (simp; done) | (simp; omega)
          · repeat' first | with_reducible exact Below.refl _ _ | with_reducible apply Below.setCell | with_reducible apply Below.alloc | with_reducible apply Below.drew | (simp; done) | (simp; omega)
        · have hd : decide ((0 : Int) < (sz : Int)) = false := decide_eq_false (by omega)
          have hd' : decide (0 < sz) = false := decide_eq_false h0
          go_wp2
          go_region
          go_wp2_with (at_len; refine wpList_len_own _ rfl _ 109 rfl 9 110 Tryd.underlying109 (unitElem (H := Unit)) (w.heap.size + 1 + 1) i Dm rfl (HO.out _ (by repeat' first | with_reducible exact Below.refl _ _ | with_reducible apply Below.setCell | with_reducible apply Below.alloc | with_reducible apply Below.drew | (simp; done) | (simp; omega))) ?_; rw [Hszm.out])
          go_wp2_with fail
          go_at_call 42
          generalize hW1 : World.drew _ = W1
          have hbW : Below wr.heap.size wr W1 := by
            rw [← hW1]
            repeat' first | with_reducible exact Below.refl _ _ | with_reducible apply Below.setCell | with_reducible apply Below.alloc | with_reducible apply Below.drew | (simp; done) | (simp; omega)
          have hkv : BoxAt W1 wr.heap.size #[.pointer (some ⟨b, o + i * 8 + 1, none⟩)] 33 := by
            rw [← hW1]
            exact BoxAt.new' _ _ _ _ rfl
          have HbW := Lib.hid hbW
          have Hkv := Lib.hid hkv
          clear hbW hkv hW1
          refine (later_q (W0 := W0) (qb := qb) (qs := qs ++ qs') 98 #[pt w.heap.size, pt wr.heap.size, pt (w.heap.size + 1)] (.may .inl ex d)
            ⟨_, _, _, .pointer (some ⟨b, o + i * 8 + 1, none⟩), Hd.out, rfl, Hk0.out.later HbW.out, Hkv.out, Hk1.out.later HbW.out, by simp only [OAt]; exact ⟨b, _, c7, rfl, hb, HC7.out, HEx.out⟩⟩ (Hqs.out.later HbW.out) (by
              rw [total_append]
              have := Hszt.out
              show total qs + total qs' + ex.size ≤ 4000000
              omega)).mono ?_
          rintro e w5 ⟨rfl, h5, s5⟩
          have H5 := Lib.hid h5
          have S5 := Lib.hid s5
          obtain ⟨qv, hqx⟩ := (Hqs.out.later HbW.out).box
          have hn5 : NamesAt w5 (w.heap.size + 1 + 1) (i + 1) seen := ((NamesAt.later ⟨Dm, HOwn.out, Hhas.out, by rw [Hszm.out]; exact Hsz.out⟩ HbW.out).step hqx s5).mono (by omega)
          have hk05 := (Hk0.out.later HbW.out).step s5 (ne_of_box (Hk0.out.later HbW.out) hqx (by decide)) (by decide)
          have hk15 := (Hk1.out.later HbW.out).step s5 (ne_of_box (Hk1.out.later HbW.out) hqx (by decide)) (by decide)
          have Hn5 := Lib.hid hn5
          have Hk05 := Lib.hid hk05
          have Hk15 := Lib.hid hk15
          clear h5 s5 hqx hn5 hk05 hk15
          go_wp2
          go_roundw
          case rel =>
            refine ⟨i + 1, qs' ++ [.may .inl ex d], seen, by go_num, hlt, ?_, (Hst.out.later HbW.out hszW).trans S5.out, Hk05.out, Hk15.out, Hn5.out, ?_, ?_, ?_⟩
            · rw [← List.append_assoc]; exact H5.out
            · have := Hszt.out
              show _ ≤ _
              rw [total_append]
              show total qs' + (ex.size + 0) ≤ _
              omega
            · have h1 : seen.isEmpty = true := by
                have := Hsz.out
                cases seen with
                | nil => rfl
                | cons x r => simp at this; omega
              show _ = _
              rw [Hans2.out, okAs, answers_append]
              have h2 : argNames seen (AR.mk t ex :: l.drop (i + 1)) = argNames seen (l.drop (i + 1)) := by
                cases ex with
                | mk k t2 n2 a2 al2 i2 vs2 => rw [argNames, hemp, h1]; simp
              rw [h2]
              simp only [answers, List.all_cons, List.all_nil, Bool.and_true, Qn.ans]
              cases argNames seen (l.drop (i + 1)) <;> cases okE .inl ex d <;> cases okAs (l.drop (i + 1)) d <;> cases qs'.all Qn.ans <;> rfl
            · intro x hx
              rcases List.mem_append.1 hx with h1 | h1
              · exact HDq.out x h1
              · have := List.mem_singleton.1 h1
                subst this
                exact HD.out t ex (List.mem_of_getElem? Hel.out)
          case measure => simp [intOf]; omega
      have hemp : emp t = false := he
      obtain ⟨k, t2, n2, a2, al2, i2, vs2, rfl⟩ : ∃ k t2 n2 a2 al2 i2 vs2, ex = .mk k t2 n2 a2 al2 i2 vs2 := by cases ex; exact ⟨_, _, _, _, _, _, _, rfl⟩
      obtain ⟨A1, c1, pi, A2, c2, rfl, hA, hin, hVs⟩ := cells_ex HEx.out
      have hts : t.size ≤ 4000000 := by have := Hszt.out; omega
      have hts2 : t2.size ≤ 4000000 := by
        have := Hszt.out
        rw [EX.size] at this
        omega
      have hkey := key_str t hts
      obtain ⟨q0, q1, q2, q3, q4, q5, q6⟩ := HC7.out
      rw [← hbel.cell (p := ⟨b, _, none⟩) hb] at q0 q1 q2 q3 q4 q5 q6
      have hans3 := Hans2.out
      rw [argNames, hemp, okAs] at hans3
      simp only [Bool.false_eq_true, if_false] at hans3
      have Hans3 := Lib.hid hans3
      obtain ⟨z, hz⟩ : ∃ z, memB t seen = z := ⟨_, rfl⟩
      have hh := Hhas.out t
      rw [hz] at hh
      have Hh := Lib.hid hh
      have Hz := Lib.hid hz
      have HKey := Lib.hid hkey
      clear hans3 hkey hh hz Hans2 hA hVs
      have hNq := isName_any t
      obtain ⟨g, hg⟩ : ∃ g, isNameV t = g := ⟨_, rfl⟩
      have hN : ∀ W, Calls Tryd.prog 25 #[.string t] W fun e w' => e = .returned (.bool g) ∧ w' = W := fun W => (isName_any t W (by omega)).mono fun e w' h => ⟨by rw [← hg]; exact h.1, h.2.symm⟩
      have HN := Lib.hid hN
      have Hg := Lib.hid hg
      clear hN hg hNq
      rcases (by by_cases h0 : k = 0; exact .inl h0; by_cases h1 : k = 1; exact .inr (.inl h1); exact .inr (.inr ⟨h0, h1⟩) : k = 0 ∨ k = 1 ∨ (k ≠ 0 ∧ k ≠ 1)) with hk | hk | hk
      · have hk0 : (k == 0) = true := beq_iff_eq.2 hk
        have hpl : (k == 0 || k == 1) = true := by rw [hk0]; rfl
        have Hpl := Lib.hid hpl
        have Hk := Lib.hid hk
        clear hpl hk
        cases z
        case true =>
          go_wp2
          go_region
          go_wp2_with (at_lookup; refine wpList_lookup_own_unit _ rfl _ _ 109 rfl 9 110 keyLaw Tryd.underlying109 (zeroUnit _) (w.heap.size + 1 + 1) i Dm rfl (HO.out _ (by repeat' first | with_reducible exact Below.refl _ _ | with_reducible apply Below.setCell | with_reducible apply Below.alloc | with_reducible apply Below.drew | (simp; done) | (simp; omega))) _ (.string t.data.toList) rfl HKey.out ?_; rw [Hh.out])
          go_quiet (fail)
          go_wp2
          go_ret
          refine ⟨false, qs', rfl, Hqs.out.later ?_, Hst.out.later ?_ hszW, Nat.le_trans htot (sizeAs_take l i), by rw [Hans3.out, Hz.out]; simp, HDq.out⟩
          · refine Go.below_drewN ?_ _
            repeat' first | with_reducible exact Below.refl _ _ | with_reducible apply Below.setCell | with_reducible apply Below.alloc | with_reducible apply Below.drew | (simp; done) | (simp; omega)
          · refine Go.below_drewN ?_ _
            repeat' first | with_reducible exact Below.refl _ _ | with_reducible apply Below.setCell | with_reducible apply Below.alloc | with_reducible apply Below.drew | (simp; done) | (simp; omega)
        cases g
        case false =>
          go_wp2
          go_region
          go_wp2_with (at_lookup; refine wpList_lookup_own_unit _ rfl _ _ 109 rfl 9 110 keyLaw Tryd.underlying109 (zeroUnit _) (w.heap.size + 1 + 1) i Dm rfl (HO.out _ (by repeat' first | with_reducible exact Below.refl _ _ | with_reducible apply Below.setCell | with_reducible apply Below.alloc | with_reducible apply Below.drew | (simp; done) | (simp; omega))) _ (.string t.data.toList) rfl HKey.out ?_; rw [Hh.out])
          go_quiet ((go_at_call 25; exact (HN.out _).mono fun _ _ h => ⟨h.1, _, h.2⟩))
          go_wp2
          go_ret
          refine ⟨false, qs', rfl, Hqs.out.later ?_, Hst.out.later ?_ hszW, Nat.le_trans htot (sizeAs_take l i), by rw [Hans3.out, Hg.out]; simp, HDq.out⟩
          · refine Go.below_drewN ?_ _
            repeat' first | with_reducible exact Below.refl _ _ | with_reducible apply Below.setCell | with_reducible apply Below.alloc | with_reducible apply Below.drew | (simp; done) | (simp; omega)
          · refine Go.below_drewN ?_ _
            repeat' first | with_reducible exact Below.refl _ _ | with_reducible apply Below.setCell | with_reducible apply Below.alloc | with_reducible apply Below.drew | (simp; done) | (simp; omega)
        go_wp2
        go_region
        go_wp2_with (at_lookup; refine wpList_lookup_own_unit _ rfl _ _ 109 rfl 9 110 keyLaw Tryd.underlying109 (zeroUnit _) (w.heap.size + 1 + 1) i Dm rfl (HO.out _ (by repeat' first | with_reducible exact Below.refl _ _ | with_reducible apply Below.setCell | with_reducible apply Below.alloc | with_reducible apply Below.drew | (simp; done) | (simp; omega))) _ (.string t.data.toList) rfl HKey.out ?_; rw [Hh.out])
        have hIn := fun W => inl01 (qb := qb) (D := D) hT k (by have := Hk.out; omega) t2 n2 a2 al2 A1 c1 i2 pi hin vs2 A2 c2 d W hts2
        obtain ⟨bI, hbI⟩ : ∃ b, okE .inl (.mk k t2 n2 a2 al2 i2 vs2) d = b := ⟨_, rfl⟩
        rw [hbI] at hIn
        have hInM : ∀ W, ArgMid W0 qb w d (qs ++ qs') i seen wr.heap.size (.pointer (some ⟨b, o + i * 8 + 1, none⟩)) W → Calls Tryd.prog 65 #[.pointer (some ⟨qb, 0, none⟩), .agg #[.int .i64 k, .string t2, .string n2, .string a2, .slice A1 al2.length c1, .pointer pi, .slice A2 vs2.length c2], .int .i64 d] W fun e W' => e = .returned (.bool bI) ∧ ArgMid W0 qb w d (qs ++ qs') i seen wr.heap.size (.pointer (some ⟨b, o + i * 8 + 1, none⟩)) W' := by
          intro W hm
          refine (hIn W (qs ++ qs') hm.qs (by rw [total_append]; have := Hszt.out; unfold qMax; omega)).mono ?_
          rintro e W' ⟨r, new, rfl, h1, h2, h3, h4, h5⟩
          have hnew := total_zero h3
          subst hnew
          rw [List.append_nil] at h1
          obtain ⟨qv, hqx⟩ := hm.qs.box
          exact ⟨by rw [h4]; simp [answers], ⟨h1, hm.st.trans h2, hm.k0.step h2 (ne_of_box hm.k0 hqx (by decide)) (by decide), hm.k1.step h2 (ne_of_box hm.k1 hqx (by decide)) (by decide), hm.kp.step h2 (ne_of_box hm.kp hqx (by decide)) (by decide), hm.nm.step hqx h2⟩⟩
        have hStart : ArgMid W0 qb w d (qs ++ qs') i seen wr.heap.size (.pointer (some ⟨b, o + i * 8 + 1, none⟩)) ((wr.alloc (.cells #[.pointer (some ⟨b, o + i * 8 + 1, none⟩)] 33)).alloc (.cells #[] 110)).drew := by
          have hb2 : Below wr.heap.size wr ((wr.alloc (.cells #[.pointer (some ⟨b, o + i * 8 + 1, none⟩)] 33)).alloc (.cells #[] 110)).drew := (((Below.refl _ _).alloc (Nat.le_refl _) _).alloc (by simp) _).drew
          exact ⟨Hqs.out.later hb2, Hst.out.later hb2 hszW, Hk0.out.later hb2, Hk1.out.later hb2, (BoxAt.new' wr _ _ _ rfl).alloc _, Hnm.out.later hb2⟩
        have HIn := Lib.hid hInM
        have HStart := Lib.hid hStart
        have HbI := Lib.hid hbI
        clear hIn hInM hStart hbI q0 q1 q2 q3 q4 q5 q6
        go_region_held3 (fun w' => w'.cell? ⟨w.heap.size, 0, none⟩ = some (.pointer (some ⟨qb, 0, none⟩)) ∧ w'.cell? ⟨w.heap.size + 1, 0, none⟩ = some (.int .i64 d) ∧ w'.cell? ⟨wr.heap.size, 0, none⟩ = some (.pointer (some ⟨b, o + i * 8 + 1, none⟩)) ∧
            w'.cell? ⟨b, o + i * 8 + 1, none⟩ = some (.int .i64 k) ∧ w'.cell? ⟨b, o + i * 8 + 1 + 1, none⟩ = some (.string t2) ∧ w'.cell? ⟨b, o + i * 8 + 1 + 2, none⟩ = some (.string n2) ∧ w'.cell? ⟨b, o + i * 8 + 1 + 3, none⟩ = some (.string a2) ∧ w'.cell? ⟨b, o + i * 8 + 1 + 4, none⟩ = some (.slice A1 al2.length c1) ∧ w'.cell? ⟨b, o + i * 8 + 1 + 5, none⟩ = some (.pointer pi) ∧ w'.cell? ⟨b, o + i * 8 + 1 + 6, none⟩ = some (.slice A2 vs2.length c2) ∧
            ArgMid W0 qb w d (qs ++ qs') i seen wr.heap.size (.pointer (some ⟨b, o + i * 8 + 1, none⟩)) w')
          (first | (exact ArgMid.cells hb HC7.out (by assumption)) | (exact ArgMid.cells hb HC7.out HStart.out) | (exact ArgMid.cells hb HC7.out (HStart.out.drew)) | go_keep)
          (first | (go_at_call 25; refine (HN.out _).mono ?_; rintro e w' ⟨rfl, rfl⟩) | (go_at_call 65; refine (HIn.out _ (by assumption)).mono ?_; rintro e w' ⟨rfl, hmid⟩) | (go_at_call 65; refine (HIn.out _ HStart.out.drew).mono ?_; rintro e w' ⟨rfl, hmid⟩))
        rename_i hmE
        have HmE := Lib.hid hmE.2.2.2.2.2.2.2.2.2.2
        clear hmE
        cases bI
        case false =>
          go_wp2
          go_ret
          exact ⟨false, qs', rfl, HmE.out.qs, HmE.out.st, Nat.le_trans htot (sizeAs_take l i), by rw [Hans3.out, HbI.out]; simp, HDq.out⟩
        have hnm := HmE.out.nm
        obtain ⟨D5, hown5, hhas5, hsz5⟩ := hnm
        have HOwn5 := Lib.hid hown5
        have Hhas5 := Lib.hid hhas5
        have Hsz5 := Lib.hid hsz5
        have him : i < maxLen := by unfold maxLen; omega
        have HIm := Lib.hid him
        clear hown5 hhas5 hsz5 him
        go_wp2_with (at_mapUpdate; refine wpList_mapUpdate_own _ rfl _ _ _ 109 rfl 9 110 keyLaw Tryd.underlying109 (unitElem (H := Unit)) (w.heap.size + 1 + 1) i D5 rfl HOwn5.out HIm.out _ _ _ rfl rfl HKey.out _ [] unitElem_mk ?_; intro w6 hown6 hg6)
        have hmp := owns_map HOwn5.out
        have hput := names_put (HOwn5.out.tidy keyLaw) Hhas5.out Hsz5.out t Hz.out (.agg [])
        have r1 := HmE.out.qs.mapped hg6 hmp (by omega)
        have r2 := HmE.out.st.mapped hg6 (by omega) HmE.out.qs.old (by omega)
        have r3 : BoxAt w6 w.heap.size #[pt qb] 52 := grown_cells hg6 hmp HmE.out.k0
        have r4 : BoxAt w6 (w.heap.size + 1) #[.int .i64 d] 3 := grown_cells hg6 hmp HmE.out.k1
        have r5 : NamesAt w6 (w.heap.size + 1 + 1) (i + 1) (t :: seen) := ⟨_, hown6, hput.1, hput.2⟩
        go_roundw
        case rel =>
          refine ⟨i + 1, qs', t :: seen, by go_num, hlt, r1, r2, r3, r4, r5, ?_, ?_, HDq.out⟩
          · have := Hszt.out
            show _ ≤ _
            omega
          · show _ = _
            rw [Hans3.out, Hz.out, Hg.out, Hpl.out, HbI.out]
            simp
        case measure => simp [intOf]; omega
      · have hk0 : (k == 0) = false := beq_eq_false_iff_ne.2 (by omega)
        have hk1 : (k == 1) = true := beq_iff_eq.2 hk
        have hpl : (k == 0 || k == 1) = true := by rw [hk1]; simp
        have Hpl := Lib.hid hpl
        have Hk := Lib.hid hk
        clear hpl hk
        cases z
        case true =>
          go_wp2
          go_region
          go_wp2_with (at_lookup; refine wpList_lookup_own_unit _ rfl _ _ 109 rfl 9 110 keyLaw Tryd.underlying109 (zeroUnit _) (w.heap.size + 1 + 1) i Dm rfl (HO.out _ (by repeat' first | with_reducible exact Below.refl _ _ | with_reducible apply Below.setCell | with_reducible apply Below.alloc | with_reducible apply Below.drew | (simp; done) | (simp; omega))) _ (.string t.data.toList) rfl HKey.out ?_; rw [Hh.out])
          go_quiet (fail)
          go_wp2
          go_ret
          refine ⟨false, qs', rfl, Hqs.out.later ?_, Hst.out.later ?_ hszW, Nat.le_trans htot (sizeAs_take l i), by rw [Hans3.out, Hz.out]; simp, HDq.out⟩
          · refine Go.below_drewN ?_ _
            repeat' first | with_reducible exact Below.refl _ _ | with_reducible apply Below.setCell | with_reducible apply Below.alloc | with_reducible apply Below.drew | (simp; done) | (simp; omega)
          · refine Go.below_drewN ?_ _
            repeat' first | with_reducible exact Below.refl _ _ | with_reducible apply Below.setCell | with_reducible apply Below.alloc | with_reducible apply Below.drew | (simp; done) | (simp; omega)
        cases g
        case false =>
          go_wp2
          go_region
          go_wp2_with (at_lookup; refine wpList_lookup_own_unit _ rfl _ _ 109 rfl 9 110 keyLaw Tryd.underlying109 (zeroUnit _) (w.heap.size + 1 + 1) i Dm rfl (HO.out _ (by repeat' first | with_reducible exact Below.refl _ _ | with_reducible apply Below.setCell | with_reducible apply Below.alloc | with_reducible apply Below.drew | (simp; done) | (simp; omega))) _ (.string t.data.toList) rfl HKey.out ?_; rw [Hh.out])
          go_quiet ((go_at_call 25; exact (HN.out _).mono fun _ _ h => ⟨h.1, _, h.2⟩))
          go_wp2
          go_ret
          refine ⟨false, qs', rfl, Hqs.out.later ?_, Hst.out.later ?_ hszW, Nat.le_trans htot (sizeAs_take l i), by rw [Hans3.out, Hg.out]; simp, HDq.out⟩
          · refine Go.below_drewN ?_ _
            repeat' first | with_reducible exact Below.refl _ _ | with_reducible apply Below.setCell | with_reducible apply Below.alloc | with_reducible apply Below.drew | (simp; done) | (simp; omega)
          · refine Go.below_drewN ?_ _
            repeat' first | with_reducible exact Below.refl _ _ | with_reducible apply Below.setCell | with_reducible apply Below.alloc | with_reducible apply Below.drew | (simp; done) | (simp; omega)
        go_wp2
        go_region
        go_wp2_with (at_lookup; refine wpList_lookup_own_unit _ rfl _ _ 109 rfl 9 110 keyLaw Tryd.underlying109 (zeroUnit _) (w.heap.size + 1 + 1) i Dm rfl (HO.out _ (by repeat' first | with_reducible exact Below.refl _ _ | with_reducible apply Below.setCell | with_reducible apply Below.alloc | with_reducible apply Below.drew | (simp; done) | (simp; omega))) _ (.string t.data.toList) rfl HKey.out ?_; rw [Hh.out])
        have hIn := fun W => inl01 (qb := qb) (D := D) hT k (by have := Hk.out; omega) t2 n2 a2 al2 A1 c1 i2 pi hin vs2 A2 c2 d W hts2
        obtain ⟨bI, hbI⟩ : ∃ b, okE .inl (.mk k t2 n2 a2 al2 i2 vs2) d = b := ⟨_, rfl⟩
        rw [hbI] at hIn
        have hInM : ∀ W, ArgMid W0 qb w d (qs ++ qs') i seen wr.heap.size (.pointer (some ⟨b, o + i * 8 + 1, none⟩)) W → Calls Tryd.prog 65 #[.pointer (some ⟨qb, 0, none⟩), .agg #[.int .i64 k, .string t2, .string n2, .string a2, .slice A1 al2.length c1, .pointer pi, .slice A2 vs2.length c2], .int .i64 d] W fun e W' => e = .returned (.bool bI) ∧ ArgMid W0 qb w d (qs ++ qs') i seen wr.heap.size (.pointer (some ⟨b, o + i * 8 + 1, none⟩)) W' := by
          intro W hm
          refine (hIn W (qs ++ qs') hm.qs (by rw [total_append]; have := Hszt.out; unfold qMax; omega)).mono ?_
          rintro e W' ⟨r, new, rfl, h1, h2, h3, h4, h5⟩
          have hnew := total_zero h3
          subst hnew
          rw [List.append_nil] at h1
          obtain ⟨qv, hqx⟩ := hm.qs.box
          exact ⟨by rw [h4]; simp [answers], ⟨h1, hm.st.trans h2, hm.k0.step h2 (ne_of_box hm.k0 hqx (by decide)) (by decide), hm.k1.step h2 (ne_of_box hm.k1 hqx (by decide)) (by decide), hm.kp.step h2 (ne_of_box hm.kp hqx (by decide)) (by decide), hm.nm.step hqx h2⟩⟩
        have hStart : ArgMid W0 qb w d (qs ++ qs') i seen wr.heap.size (.pointer (some ⟨b, o + i * 8 + 1, none⟩)) ((wr.alloc (.cells #[.pointer (some ⟨b, o + i * 8 + 1, none⟩)] 33)).alloc (.cells #[] 110)).drew := by
          have hb2 : Below wr.heap.size wr ((wr.alloc (.cells #[.pointer (some ⟨b, o + i * 8 + 1, none⟩)] 33)).alloc (.cells #[] 110)).drew := (((Below.refl _ _).alloc (Nat.le_refl _) _).alloc (by simp) _).drew
          exact ⟨Hqs.out.later hb2, Hst.out.later hb2 hszW, Hk0.out.later hb2, Hk1.out.later hb2, (BoxAt.new' wr _ _ _ rfl).alloc _, Hnm.out.later hb2⟩
        have HIn := Lib.hid hInM
        have HStart := Lib.hid hStart
        have HbI := Lib.hid hbI
        clear hIn hInM hStart hbI q0 q1 q2 q3 q4 q5 q6
        go_region_held3 (fun w' => w'.cell? ⟨w.heap.size, 0, none⟩ = some (.pointer (some ⟨qb, 0, none⟩)) ∧ w'.cell? ⟨w.heap.size + 1, 0, none⟩ = some (.int .i64 d) ∧ w'.cell? ⟨wr.heap.size, 0, none⟩ = some (.pointer (some ⟨b, o + i * 8 + 1, none⟩)) ∧
            w'.cell? ⟨b, o + i * 8 + 1, none⟩ = some (.int .i64 k) ∧ w'.cell? ⟨b, o + i * 8 + 1 + 1, none⟩ = some (.string t2) ∧ w'.cell? ⟨b, o + i * 8 + 1 + 2, none⟩ = some (.string n2) ∧ w'.cell? ⟨b, o + i * 8 + 1 + 3, none⟩ = some (.string a2) ∧ w'.cell? ⟨b, o + i * 8 + 1 + 4, none⟩ = some (.slice A1 al2.length c1) ∧ w'.cell? ⟨b, o + i * 8 + 1 + 5, none⟩ = some (.pointer pi) ∧ w'.cell? ⟨b, o + i * 8 + 1 + 6, none⟩ = some (.slice A2 vs2.length c2) ∧
            ArgMid W0 qb w d (qs ++ qs') i seen wr.heap.size (.pointer (some ⟨b, o + i * 8 + 1, none⟩)) w')
          (first | (exact ArgMid.cells hb HC7.out (by assumption)) | (exact ArgMid.cells hb HC7.out HStart.out) | (exact ArgMid.cells hb HC7.out (HStart.out.drew)) | go_keep)
          (first | (go_at_call 25; refine (HN.out _).mono ?_; rintro e w' ⟨rfl, rfl⟩) | (go_at_call 65; refine (HIn.out _ (by assumption)).mono ?_; rintro e w' ⟨rfl, hmid⟩) | (go_at_call 65; refine (HIn.out _ HStart.out.drew).mono ?_; rintro e w' ⟨rfl, hmid⟩))
        rename_i hmE
        have HmE := Lib.hid hmE.2.2.2.2.2.2.2.2.2.2
        clear hmE
        cases bI
        case false =>
          go_wp2
          go_ret
          exact ⟨false, qs', rfl, HmE.out.qs, HmE.out.st, Nat.le_trans htot (sizeAs_take l i), by rw [Hans3.out, HbI.out]; simp, HDq.out⟩
        have hnm := HmE.out.nm
        obtain ⟨D5, hown5, hhas5, hsz5⟩ := hnm
        have HOwn5 := Lib.hid hown5
        have Hhas5 := Lib.hid hhas5
        have Hsz5 := Lib.hid hsz5
        have him : i < maxLen := by unfold maxLen; omega
        have HIm := Lib.hid him
        clear hown5 hhas5 hsz5 him
        go_wp2_with (at_mapUpdate; refine wpList_mapUpdate_own _ rfl _ _ _ 109 rfl 9 110 keyLaw Tryd.underlying109 (unitElem (H := Unit)) (w.heap.size + 1 + 1) i D5 rfl HOwn5.out HIm.out _ _ _ rfl rfl HKey.out _ [] unitElem_mk ?_; intro w6 hown6 hg6)
        have hmp := owns_map HOwn5.out
        have hput := names_put (HOwn5.out.tidy keyLaw) Hhas5.out Hsz5.out t Hz.out (.agg [])
        have r1 := HmE.out.qs.mapped hg6 hmp (by omega)
        have r2 := HmE.out.st.mapped hg6 (by omega) HmE.out.qs.old (by omega)
        have r3 : BoxAt w6 w.heap.size #[pt qb] 52 := grown_cells hg6 hmp HmE.out.k0
        have r4 : BoxAt w6 (w.heap.size + 1) #[.int .i64 d] 3 := grown_cells hg6 hmp HmE.out.k1
        have r5 : NamesAt w6 (w.heap.size + 1 + 1) (i + 1) (t :: seen) := ⟨_, hown6, hput.1, hput.2⟩
        go_roundw
        case rel =>
          refine ⟨i + 1, qs', t :: seen, by go_num, hlt, r1, r2, r3, r4, r5, ?_, ?_, HDq.out⟩
          · have := Hszt.out
            show _ ≤ _
            omega
          · show _ = _
            rw [Hans3.out, Hz.out, Hg.out, Hpl.out, HbI.out]
            simp
        case measure => simp [intOf]; omega
      · have hk0 : (k == 0) = false := beq_eq_false_iff_ne.2 hk.1
        have hk1 : (k == 1) = false := beq_eq_false_iff_ne.2 hk.2
        have hpl : (k == 0 || k == 1) = false := by rw [hk0, hk1]; rfl
        have Hpl := Lib.hid hpl
        have Hk := Lib.hid hk
        clear hpl hk
        cases z
        case true =>
          go_wp2
          go_region
          go_wp2_with (at_lookup; refine wpList_lookup_own_unit _ rfl _ _ 109 rfl 9 110 keyLaw Tryd.underlying109 (zeroUnit _) (w.heap.size + 1 + 1) i Dm rfl (HO.out _ (by repeat' first | with_reducible exact Below.refl _ _ | with_reducible apply Below.setCell | with_reducible apply Below.alloc | with_reducible apply Below.drew | (simp; done) | (simp; omega))) _ (.string t.data.toList) rfl HKey.out ?_; rw [Hh.out])
          go_quiet (fail)
          go_wp2
          go_ret
          refine ⟨false, qs', rfl, Hqs.out.later ?_, Hst.out.later ?_ hszW, Nat.le_trans htot (sizeAs_take l i), by rw [Hans3.out, Hz.out]; simp, HDq.out⟩
          · refine Go.below_drewN ?_ _
            repeat' first | with_reducible exact Below.refl _ _ | with_reducible apply Below.setCell | with_reducible apply Below.alloc | with_reducible apply Below.drew | (simp; done) | (simp; omega)
          · refine Go.below_drewN ?_ _
            repeat' first | with_reducible exact Below.refl _ _ | with_reducible apply Below.setCell | with_reducible apply Below.alloc | with_reducible apply Below.drew | (simp; done) | (simp; omega)
        cases g
        case false =>
          go_wp2
          go_region
          go_wp2_with (at_lookup; refine wpList_lookup_own_unit _ rfl _ _ 109 rfl 9 110 keyLaw Tryd.underlying109 (zeroUnit _) (w.heap.size + 1 + 1) i Dm rfl (HO.out _ (by repeat' first | with_reducible exact Below.refl _ _ | with_reducible apply Below.setCell | with_reducible apply Below.alloc | with_reducible apply Below.drew | (simp; done) | (simp; omega))) _ (.string t.data.toList) rfl HKey.out ?_; rw [Hh.out])
          go_quiet ((go_at_call 25; exact (HN.out _).mono fun _ _ h => ⟨h.1, _, h.2⟩))
          go_wp2
          go_ret
          refine ⟨false, qs', rfl, Hqs.out.later ?_, Hst.out.later ?_ hszW, Nat.le_trans htot (sizeAs_take l i), by rw [Hans3.out, Hg.out]; simp, HDq.out⟩
          · refine Go.below_drewN ?_ _
            repeat' first | with_reducible exact Below.refl _ _ | with_reducible apply Below.setCell | with_reducible apply Below.alloc | with_reducible apply Below.drew | (simp; done) | (simp; omega)
          · refine Go.below_drewN ?_ _
            repeat' first | with_reducible exact Below.refl _ _ | with_reducible apply Below.setCell | with_reducible apply Below.alloc | with_reducible apply Below.drew | (simp; done) | (simp; omega)
        go_wp2
        go_region
        go_wp2_with (at_lookup; refine wpList_lookup_own_unit _ rfl _ _ 109 rfl 9 110 keyLaw Tryd.underlying109 (zeroUnit _) (w.heap.size + 1 + 1) i Dm rfl (HO.out _ (by repeat' first | with_reducible exact Below.refl _ _ | with_reducible apply Below.setCell | with_reducible apply Below.alloc | with_reducible apply Below.drew | (simp; done) | (simp; omega))) _ (.string t.data.toList) rfl HKey.out ?_; rw [Hh.out])
        go_quiet ((go_at_call 25; exact (HN.out _).mono fun _ _ h => ⟨h.1, _, h.2⟩))
        go_wp2
        go_ret
        refine ⟨false, qs', rfl, Hqs.out.later ?_, Hst.out.later ?_ hszW, Nat.le_trans htot (sizeAs_take l i), by rw [Hans3.out, Hpl.out]; simp, HDq.out⟩
        · refine Go.below_drewN ?_ _
          repeat' first | with_reducible exact Below.refl _ _ | with_reducible apply Below.setCell | with_reducible apply Below.alloc | with_reducible apply Below.drew | (simp; done) | (simp; omega)
        · refine Go.below_drewN ?_ _
          repeat' first | with_reducible exact Below.refl _ _ | with_reducible apply Below.setCell | with_reducible apply Below.alloc | with_reducible apply Below.drew | (simp; done) | (simp; omega)
    · obtain rfl : i = l.length := by omega
      have hans := Hans.out
      rw [List.drop_length, argNames, okAs, Bool.true_and, Bool.true_and] at hans
      have htot := Htot.out
      rw [List.take_length] at htot
      have hlt' : decide ((l.length : Int) < (l.length : Int)) = false := decide_eq_false (by omega)
      have HA := Lib.hid hans
      clear hans Hans hmm
      go_wp2
      go_ret
      exact ⟨true, qs', rfl, Hqs.out, Hst.out, htot, by rw [HA.out]; rfl, HDq.out⟩
end Go.Proofs.YtmceblemiboedaaDoor

/-
  Package ast: isSelect.
-/
namespace Go.Proofs.YtmceblemiboedaaDoor
open Go.RowKit
set_option linter.unusedVariables false
set_option linter.unusedSimpArgs false

def varOk (d : Nat) : VA → Bool | .mk k _ v => (isNameV k || isNum k) && (!v.isEmpty && patB v d)
theorem vars_all : ∀ (vs : List VA) (d : Nat), (vs.all (fun v => (isNameV (vaKey v) || isNum (vaKey v)) && !(vaVal v).isEmpty && patL (vaVal v)) && okVs vs d) = vs.all (varOk d)
  | [], d => by simp [okVs]
  | .mk k b v :: r, d => by
    rw [List.all_cons, List.all_cons, okVs, ← vars_all r d]
    show _ = ((isNameV k || isNum k) && (!v.isEmpty && (patL v && okEs v (d + 1))) && _)
    simp only [vaKey, vaVal]
    generalize (isNameV k || isNum k) = A
    cases A <;> cases v.isEmpty <;> cases patL v <;> cases okEs v (d + 1) <;> simp
theorem vars_get {W0 : World} {l : List VA} {v : Value} (h : LieAt (VsAt W0 l) v l.length) {i : Nat} (hi : i < l.length) : ∃ b o c, v = .slice (some ⟨b, o, none⟩) l.length c ∧ b < W0.heap.size ∧
    ∀ j t d p, l[j]? = some (.mk t d p) → W0.cell? ⟨b, o + j * 3, none⟩ = some (.string t) ∧ W0.cell? ⟨b, o + j * 3 + 1, none⟩ = some (.bool d) ∧ ∃ u, W0.cell? ⟨b, o + j * 3 + 2, none⟩ = some u ∧ PatAt W0 p u := by
  obtain ⟨A, c, rfl, _, _, h2⟩ := h
  obtain ⟨b, o, rfl, h3⟩ := h2 (by omega)
  have h0 : l[0]? = some l[0] := List.getElem?_eq_getElem (by omega)
  refine ⟨b, o, c, rfl, ?_, fun j t d p hj => ⟨(h3.get j hj).2.1, (h3.get j hj).2.2.1, (h3.get j hj).2.2.2⟩⟩
  cases e : l[0]'(by omega) with
  | mk t d p => rw [e] at h0; exact (h3.get 0 h0).1
theorem sizeVs_length : ∀ l : List VA, l.length ≤ sizeVs l
  | [] => Nat.zero_le _
  | .mk k d v :: r => by have := sizeVs_length r; rw [sizeVs, List.length_cons]; omega
theorem sizeVs_append : ∀ a b : List VA, sizeVs (a ++ b) = sizeVs a + sizeVs b
  | [], b => by rw [List.nil_append, sizeVs]; omega
  | .mk k d v :: r, b => by rw [List.cons_append, sizeVs, sizeVs, sizeVs_append r b]; omega
theorem sizeVs_take (l : List VA) (i : Nat) : sizeVs (l.take i) ≤ sizeVs l := by
  have := sizeVs_append (l.take i) (l.drop i)
  rw [List.take_append_drop] at this
  omega
/-- What is asked of a Select's own fields. -/
def selB (t n a : ByteArray) (n1 : Nat) (vs : List VA) (d : Nat) (bI : Bool) : Bool := vs.all (varOk d) && (vs.countP vaDflt == 1) && bareB t n a n1 none 0 && bI
set_option maxHeartbeats 4000000 in
set_option maxRecDepth 1000000 in
theorem isSelect_asks {W0 : World} {qb : Nat} {D : Qn → Prop} (hT : TabU W0) (k : Int) (t n a : ByteArray) (A1 : Option Addr) (n1 c1 : Nat) (i : Option Addr) (vs : List VA) (A2 : Option Addr) (c2 : Nat) (hV : LieAt (VsAt W0 vs) (.slice A2 vs.length c2) vs.length) (d : Nat) (hd : d ≤ 20) (w : World)
    (hp : ∀ key b l, VA.mk key b l ∈ vs → (∀ t p, EL.mk t p ∈ l → validB t = true → CaTo t) ∧ ∀ t e, EL.mk t (some e) ∈ l → D (.may .brc e (d + 1)))
    (ie : Option EX) (hi : OAt W0 ie (.pointer i)) (bI : Bool) (hbI : ie = none → bI = false)
    (hI : ∀ k t n a A1 n1 c1 p A2 n2 c2 b o, i = some ⟨b, o, none⟩ → CellsAt W0 b o ⟨.int .i64 k, .string t, .string n, .string a, .slice A1 n1 c1, .pointer p, .slice A2 n2 c2⟩ → ∀ W, Asks W0 qb D 82 #[pt qb, exV k t n a A1 n1 c1 p A2 n2 c2, .int .i64 d] W bI (sizeO ie)) :
    Asks W0 qb D 64 #[pt qb, exV k t n a A1 n1 c1 i A2 vs.length c2, .int .i64 d] w (selB t n a n1 vs d bI) (sizeVs vs + sizeO ie) := by
  intro qs hq hn
  have Hq := Lib.hid hq
  have Hn := Lib.hid hn
  have hold := hq.old
  have hltq := hq.lt
  have HV := Lib.hid hV
  have HP := Lib.hid hp
  have HI := Lib.hid hI
  have HO := Lib.hid hi
  have Hd := Lib.hid hd
  have HbI := Lib.hid hbI
  have hvl : (vs.length : Int) ≤ 4000000 := by have := sizeVs_length vs; unfold qMax at hn; omega
  have hbare := fun W => bare_any k t n a A1 n1 c1 none none 0 0 W
  obtain ⟨bb, hbb⟩ : ∃ b, bareB t n a n1 none 0 = b := ⟨_, rfl⟩
  rw [hbb] at hbare
  have HBare := Lib.hid hbare
  have HBb := Lib.hid hbb
  clear hq hn hV hp hI hd hbI hbare hbb hi
  unfold pt exV
  go_enter Tryd.func64, Tryd.ntmps64
  go_wp2
  go_loopw [7, 14] (fun t7 t14 wr => ∃ (j : Nat) (qs' : List Qn), t14 = .int .i64 j ∧ t7 = .int .i64 ((vs.take j).countP vaDflt : Nat) ∧ j ≤ vs.length ∧ Hid (QsAt W0 qb (qs ++ qs') wr) ∧ Hid (StepQ W0.heap.size qb w wr) ∧
      Hid (BoxAt wr w.heap.size #[.int .i64 k, .string t, .string n, .string a, .slice A1 n1 c1, .pointer i, .slice A2 vs.length c2] 36) ∧
      Hid (total qs' ≤ sizeVs (vs.take j)) ∧ Hid (vs.all (varOk d) = ((vs.drop j).all (varOk d) && answers qs')) ∧ Hid (∀ q ∈ qs', D q)) (fun _ t14 _ => vs.length - (intOf t14).toNat)
  case atStart => exact ⟨0, [], rfl, rfl, Nat.zero_le _, by rw [List.append_nil]; exact Hq.out.alloc _, (StepQ.refl _ _ _).alloc hold _, BoxAt.new' _ _ _ _ rfl, by unfold Hid; simp [total], by unfold Hid; simp [answers], by unfold Hid; simp⟩
  case round =>
    obtain ⟨j, qs', rfl, rfl, hj, Hqs, Hs, Hb, Htot, Hans, HDq⟩ := hrel
    have hj0 : (j : Int) ≤ 4000000 := by omega
    have hbel := Hqs.out.below
    have hszW := Hqs.out.old
    have hbx := Hb.out
    have hlx := hbx.lt
    have hcnt : (vs.take j).countP vaDflt ≤ j := Nat.le_trans List.countP_le_length (List.length_take_le _ _)
    have hcz : (((vs.take j).countP vaDflt : Nat) : Int) ≤ 4000000 := by omega
    by_cases hlt : j < vs.length
    · obtain ⟨b, o, c', e, hb, hcs⟩ := vars_get HV.out hlt
      cases e
      obtain ⟨key, df, p, hel⟩ : ∃ t d p, vs[j]? = some (.mk t d p) := by
        cases e : vs[j] with
        | mk t d p => exact ⟨t, d, p, by rw [List.getElem?_eq_getElem hlt, e]⟩
      obtain ⟨c0, cd, uv, cu, hpat⟩ := hcs j key df p hel
      rw [← hbel.cell (p := ⟨b, o + j * 3, none⟩) hb] at c0
      rw [← hbel.cell (p := ⟨b, o + j * 3 + 1, none⟩) hb] at cd
      rw [← hbel.cell (p := ⟨b, o + j * 3 + 2, none⟩) hb] at cu
      have hp' := hpat
      obtain ⟨A3, c3, rfl, _, _, _⟩ := hp'
      have hlt' : decide ((j : Int) < (vs.length : Int)) = true := decide_eq_true (by omega)
      have hlt3 : ((j : Nat) : Int) < (vs.length : Int) := by omega
      have hpo := HP.out key df p (List.mem_of_getElem? hel)
      have hszt : sizeVs (vs.take (j + 1)) = sizeVs (vs.take j) + (1 + key.size + sizeEs p) := by
        rw [take_snoc vs j _ hel, sizeVs_append, sizeVs, sizeVs, Nat.add_zero]
      have hszl := sizeVs_take vs (j + 1)
      have hqm : total qs + (sizeVs vs + sizeO ie) ≤ 4000000 := Hn.out
      have htot := Htot.out
      have hks : key.size ≤ 4000000 := by omega
      have hF : ∀ W, Asks W0 qb D 27 #[.pointer (some ⟨qb, 0, none⟩), .slice A3 p.length c3, .int .i64 d] W (!p.isEmpty && patB p d) (sizeEs p) := fun W => isFilled_asks hT p hpo.1 hpat d Hd.out hpo.2 W
      have HF := Lib.hid hF
      have hans := Hans.out
      rw [drop_cons vs j _ hel, List.all_cons, show varOk d (.mk key df p) = ((isNameV key || isNum key) && (!p.isEmpty && patB p d)) from rfl] at hans
      have Hans2 := Lib.hid hans
      have hq2 := Hqs.out.alloc (.cells #[.string key, .bool df, .slice A3 p.length c3] 65)
      have hs2 := Hs.out.alloc hszW (.cells #[.string key, .bool df, .slice A3 p.length c3] 65)
      have hb2 := Hb.out.alloc (.cells #[.string key, .bool df, .slice A3 p.length c3] 65)
      have hv2 := BoxAt.new' wr wr.heap.size #[.string key, .bool df, .slice A3 p.length c3] 65 rfl
      have hcnt2 : (vs.take (j + 1)).countP vaDflt = (vs.take j).countP vaDflt + (if df then 1 else 0) := by
        rw [take_snoc vs j _ hel, List.countP_append]
        cases df <;> simp [vaDflt]
      have Hcnt2 := Lib.hid hcnt2
      have Hq2 := Lib.hid hq2
      have Hs2 := Lib.hid hs2
      have Hb2 := Lib.hid hb2
      have Hv2 := Lib.hid hv2
      have Hszt := Lib.hid hszt
      have hN := fun W => isName_any key W (by omega)
      have hM := fun W => isNumber_any key W hks
      obtain ⟨g, hg⟩ : ∃ g, isNameV key = g := ⟨_, rfl⟩
      obtain ⟨m, hm⟩ : ∃ m, isNum key = m := ⟨_, rfl⟩
      rw [hg] at hN
      rw [hm] at hM
      have HN := Lib.hid hN
      have HM := Lib.hid hM
      have Hg := Lib.hid hg
      have Hm := Lib.hid hm
      obtain ⟨cn, hcn⟩ : ∃ cn, (vs.take j).countP vaDflt = cn := ⟨_, rfl⟩
      rw [hcn] at hcz ⊢
      have Hcn := Lib.hid hcn
      clear hF hans Hans hq2 hs2 hb2 hv2 hszt hpo hpat hcs hbel hN hM hg hm hcnt2 hel hbx hcn hcnt
      cases g
      case false =>
        cases m
        case false =>
          go_wp2_with fail
          go_at_call 25
          refine (HN.out _).mono ?_
          rintro e w' ⟨rfl, rfl⟩
          go_wp2_with fail
          go_at_call 80
          refine (HM.out _).mono ?_
          rintro e w' ⟨rfl, hbn⟩
          have Hbn := Lib.hid hbn
          clear hbn
          go_wp2
          go_ret
          exact ⟨false, qs', rfl, Hq2.out.later Hbn.out, Hs2.out.later Hbn.out Hq2.out.old, by have := sizeVs_take vs j; omega, by
            unfold selB
            rw [Hans2.out, Hg.out, Hm.out]; simp, HDq.out⟩
        go_wp2_with fail
        go_at_call 25
        refine (HN.out _).mono ?_
        rintro e w' ⟨rfl, rfl⟩
        go_wp2_with fail
        go_at_call 80
        refine (HM.out _).mono ?_
        rintro e w' ⟨rfl, hbn⟩
        have Hq3 := Lib.hid (Hq2.out.later hbn)
        have Hs3 := Lib.hid (Hs2.out.later hbn Hq2.out.old)
        have Hb3 := Lib.hid (Hb2.out.later hbn)
        have hv3 := Hv2.out.later hbn
        have Hv3 := Lib.hid hv3
        have y2 := hv3.cell 2
        have ylt := hv3.lt
        simp at y2
        clear hbn hv3
        go_wp2_with fail
        go_at_call 27
        refine (HF.out _ (qs ++ qs') Hq3.out (by rw [total_append]; have := Hszt.out; unfold qMax; omega)).mono ?_
        rintro e w5 ⟨r, new2, rfl, h1, h2, h3, h4, h5⟩
        have hs5 := Hs3.out.trans h2
        have hb5 := BoxAt.step Hb3.out h2 (by omega) (by decide)
        have hv5 := BoxAt.step Hv3.out h2 (by omega) (by decide)
        have hD5 : ∀ q ∈ qs' ++ new2, D q := fun x hx => by
          rcases List.mem_append.1 hx with h | h
          · exact HDq.out x h
          · exact h5 x h
        have ht5 : total (qs' ++ new2) ≤ sizeVs (vs.take (j + 1)) := by rw [total_append, Hszt.out]; omega
        have ha5 : vs.all (varOk d) = (r && (vs.drop (j + 1)).all (varOk d) && answers (qs' ++ new2)) := by
          rw [Hans2.out, Hg.out, Hm.out, h4, answers_append]
          cases r <;> cases (vs.drop (j + 1)).all (varOk d) <;> cases answers qs' <;> simp
        rw [List.append_assoc] at h1
        have H1 := Lib.hid h1
        have Hs5 := Lib.hid hs5
        have Hb5 := Lib.hid hb5
        have Hd5 := Lib.hid hD5
        have Ht5 := Lib.hid ht5
        have Ha5 := Lib.hid ha5
        have e1 := hv5.cell 1
        simp at e1
        clear h1 h2 h3 h4 h5 hs5 hb5 hv5 hD5 ht5 ha5
        cases r
        case false =>
          go_wp2
          go_ret
          exact ⟨false, _, rfl, H1.out, Hs5.out, by have := Ht5.out; omega, by
            have := Ha5.out
            simp only [Bool.false_and] at this
            unfold selB
            simp [this], Hd5.out⟩
        cases df
        case false =>
          go_wp2
          go_roundw
          case rel => exact ⟨j + 1, qs' ++ new2, by go_num, by rw [Hcnt2.out, Hcn.out]; simp, hlt, H1.out, Hs5.out, Hb5.out, Ht5.out, by unfold Hid; rw [Ha5.out, Bool.true_and], Hd5.out⟩
          case measure => simp [intOf]; omega
        case true =>
          go_wp2
          go_roundw
          case rel => exact ⟨j + 1, qs' ++ new2, by go_num, by rw [Hcnt2.out, Hcn.out]; simp, hlt, H1.out, Hs5.out, Hb5.out, Ht5.out, by unfold Hid; rw [Ha5.out, Bool.true_and], Hd5.out⟩
          case measure => simp [intOf]; omega
      have Hq3 := Hq2
      have Hs3 := Hs2
      have Hb3 := Hb2
      have Hv3 := Hv2
      go_wp2_with fail
      go_at_call 25
      refine (HN.out _).mono ?_
      rintro e w' ⟨rfl, rfl⟩
      go_wp2_with fail
      go_at_call 27
      refine (HF.out _ (qs ++ qs') Hq3.out (by rw [total_append]; have := Hszt.out; unfold qMax; omega)).mono ?_
      rintro e w5 ⟨r, new2, rfl, h1, h2, h3, h4, h5⟩
      have hs5 := Hs3.out.trans h2
      have hb5 := BoxAt.step Hb3.out h2 (by omega) (by decide)
      have hv5 := BoxAt.step Hv3.out h2 (by omega) (by decide)
      have hD5 : ∀ q ∈ qs' ++ new2, D q := fun x hx => by
        rcases List.mem_append.1 hx with h | h
        · exact HDq.out x h
        · exact h5 x h
      have ht5 : total (qs' ++ new2) ≤ sizeVs (vs.take (j + 1)) := by rw [total_append, Hszt.out]; omega
      have ha5 : vs.all (varOk d) = (r && (vs.drop (j + 1)).all (varOk d) && answers (qs' ++ new2)) := by
        rw [Hans2.out, Hg.out, h4, answers_append]
        cases r <;> cases (vs.drop (j + 1)).all (varOk d) <;> cases answers qs' <;> simp
      rw [List.append_assoc] at h1
      have H1 := Lib.hid h1
      have Hs5 := Lib.hid hs5
      have Hb5 := Lib.hid hb5
      have Hd5 := Lib.hid hD5
      have Ht5 := Lib.hid ht5
      have Ha5 := Lib.hid ha5
      have e1 := hv5.cell 1
      simp at e1
      clear h1 h2 h3 h4 h5 hs5 hb5 hv5 hD5 ht5 ha5
      cases r
      case false =>
        go_wp2
        go_ret
        exact ⟨false, _, rfl, H1.out, Hs5.out, by have := Ht5.out; omega, by
          have := Ha5.out
          simp only [Bool.false_and] at this
          unfold selB
          simp [this], Hd5.out⟩
      cases df
      case false =>
        go_wp2
        go_roundw
        case rel => exact ⟨j + 1, qs' ++ new2, by go_num, by rw [Hcnt2.out, Hcn.out]; simp, hlt, H1.out, Hs5.out, Hb5.out, Ht5.out, by unfold Hid; rw [Ha5.out, Bool.true_and], Hd5.out⟩
        case measure => simp [intOf]; omega
      case true =>
        go_wp2
        go_roundw
        case rel => exact ⟨j + 1, qs' ++ new2, by go_num, by rw [Hcnt2.out, Hcn.out]; simp, hlt, H1.out, Hs5.out, Hb5.out, Ht5.out, by unfold Hid; rw [Ha5.out, Bool.true_and], Hd5.out⟩
        case measure => simp [intOf]; omega
    · obtain rfl : j = vs.length := by omega
      have hans := Hans.out
      rw [List.drop_length, List.all_nil, Bool.true_and] at hans
      have htot := Htot.out
      rw [List.take_length] at htot
      have hlt' : decide ((vs.length : Int) < (vs.length : Int)) = false := decide_eq_false (by omega)
      have hqm : total qs + (sizeVs vs + sizeO ie) ≤ 4000000 := Hn.out
      rw [List.take_length] at hcz ⊢
      obtain ⟨cn, hcn⟩ : ∃ cn, vs.countP vaDflt = cn := ⟨_, rfl⟩
      rw [hcn] at hcz ⊢
      have e0 := hbx.cell 0
      have e1 := hbx.cell 1
      have e2 := hbx.cell 2
      have e3 := hbx.cell 3
      have e4 := hbx.cell 4
      have e5 := hbx.cell 5
      have e6 := hbx.cell 6
      simp at e0 e1 e2 e3 e4 e5 e6
      have Hans2 := Lib.hid hans
      have Hcn := Lib.hid hcn
      clear hans Hans hcn hbx hcnt
      have hsel : ∀ r : Bool, ((cn == 1) && bb && bI) = r → selB t n a n1 vs d bI = (r && answers qs') := by
        intro r hr
        unfold selB
        rw [Hans2.out, Hcn.out, HBb.out, ← hr]
        cases answers qs' <;> cases (cn == 1) <;> cases bb <;> cases bI <;> rfl
      have HSel := Lib.hid hsel
      clear hsel
      by_cases h1 : cn = 1
      case neg =>
        have hz : ((cn : Int) == 1) = false := beq_eq_false_iff_ne.2 (by omega)
        have hz' : (cn == 1) = false := beq_eq_false_iff_ne.2 h1
        have Hz' := Lib.hid hz'
        clear h1 hz'
        go_wp2
        go_ret
        refine ⟨false, qs', rfl, Hqs.out.later ?_, Hs.out.later ?_ hszW, by omega, HSel.out false (by rw [Hz'.out]; rfl), HDq.out⟩
        · repeat' first | with_reducible exact Below.refl _ _ | with_reducible apply Below.setCell | with_reducible apply Below.alloc | with_reducible apply Below.drew | (simp; done) | (simp; omega)
        · repeat' first | with_reducible exact Below.refl _ _ | with_reducible apply Below.setCell | with_reducible apply Below.alloc | with_reducible apply Below.drew | (simp; done) | (simp; omega)
      have hz : ((cn : Int) == 1) = true := beq_iff_eq.2 (by omega)
      have hz' : (cn == 1) = true := beq_iff_eq.2 h1
      have Hz' := Lib.hid hz'
      clear h1 hz'
      go_wp2_with fail
      go_at_call 81
      refine (HBare.out _).mono ?_
      rintro e w6 ⟨rfl, hb6⟩
      have hb36 : Below wr.heap.size wr w6 := by
        refine Below.trans ?_ (hb6.mono (by simp))
        repeat' first | with_reducible exact Below.refl _ _ | with_reducible apply Below.setCell | with_reducible apply Below.alloc | with_reducible apply Below.drew | (simp; done) | (simp; omega)
      have f5 := (Hb.out.later hb36).cell 5
      simp at f5
      have HB6 := Lib.hid hb36
      clear hb6 hb36 e0 e1 e2 e3 e4 e5 e6
      cases bb
      case false =>
        go_wp2
        go_ret
        exact ⟨false, qs', rfl, Hqs.out.later HB6.out, Hs.out.later HB6.out hszW, by omega, HSel.out false (by simp), HDq.out⟩
      cases ie with
      | none =>
        have hi0 := HO.out
        simp only [OAt] at hi0
        cases hi0
        have hbi := HbI.out rfl
        have Hbi := Lib.hid hbi
        clear hbi
        go_wp2
        go_ret
        exact ⟨false, qs', rfl, Hqs.out.later HB6.out, Hs.out.later HB6.out hszW, by omega, HSel.out false (by rw [Hbi.out]; simp), HDq.out⟩
      | some ix =>
        have hi0 := HO.out
        simp only [OAt] at hi0
        obtain ⟨pb, po, pc, hpp, hpb, hpc, hpe⟩ := hi0
        cases hpp
        obtain ⟨k', t', n', a', al', i', vs', rfl⟩ : ∃ k t n a al i vs, ix = .mk k t n a al i vs := by cases ix; exact ⟨_, _, _, _, _, _, _, rfl⟩
        obtain ⟨A1', c1', pi', A2', c2', rfl, _, _, _⟩ := cells_ex hpe
        have HII := Lib.hid (HI.out k' t' n' a' A1' al'.length c1' pi' A2' vs'.length c2' pb po rfl hpc w6)
        obtain ⟨x0, x1, x2, x3, x4, x5, x6⟩ := hpc
        have hbel6 := (Hqs.out.later HB6.out).below
        rw [← hbel6.cell (p := ⟨pb, _, none⟩) hpb] at x0 x1 x2 x3 x4 x5 x6
        have HQ6 := Lib.hid (Hqs.out.later HB6.out)
        have HS6 := Lib.hid (Hs.out.later HB6.out hszW)
        unfold exV pt at HII
        clear hbel6 hpe
        go_wp2_with fail
        go_at_call 82
        refine (HII.out (qs ++ qs') HQ6.out (by rw [total_append]; unfold qMax; omega)).mono ?_
        rintro e w7 ⟨r, new2, rfl, g1, g2, g3, g4, g5⟩
        rw [List.append_assoc] at g1
        have G1 := Lib.hid g1
        have G2 := Lib.hid (HS6.out.trans g2)
        have G4 := Lib.hid g4
        have G5 := Lib.hid g5
        clear g1 g2 g4 g5
        go_wp2
        go_ret
        refine ⟨r, qs' ++ new2, by simp, G1.out, G2.out, by rw [total_append]; omega, ?_, ?_⟩
        · rw [HSel.out _ rfl, answers_append, G4.out, Hz'.out]
          cases r <;> cases answers qs' <;> simp
        · intro x hx
          rcases List.mem_append.1 hx with h | h
          · exact HDq.out x h
          · exact G5.out x h
end Go.Proofs.YtmceblemiboedaaDoor

/-
  Package ast: isAsked.
-/
namespace Go.Proofs.YtmceblemiboedaaDoor
open Go.RowKit
set_option linter.unusedVariables false
set_option linter.unusedSimpArgs false

set_option maxHeartbeats 2000000 in
set_option maxRecDepth 1000000 in
theorem ask_plain {W0 : World} {qb : Nat} {D : Qn → Prop} (k : Int) (hk : k = 0 ∨ k = 1 ∨ k = 2 ∨ k = 5) (t n a : ByteArray) (A1 : Option Addr) (n1 c1 : Nat) (i : Option Addr) (A2 : Option Addr) (n2 c2 : Nat) (d : Nat) (w : World) (bI : Bool) (m : Nat)
    (hI : ∀ W, Asks W0 qb D 65 #[pt qb, exV k t n a A1 n1 c1 i A2 n2 c2, .int .i64 d] W bI m) :
    Asks W0 qb D 82 #[pt qb, exV k t n a A1 n1 c1 i A2 n2 c2, .int .i64 d] w bI m := by
  intro qs hq hn
  have Hq := Lib.hid hq
  have HI := Lib.hid (hI (w.alloc (.cells #[.int .i64 k, .string t, .string n, .string a, .slice A1 n1 c1, .pointer i, .slice A2 n2 c2] 36)) qs (hq.later ((Below.refl _ _).alloc (Nat.le_refl _) _)) hn)
  have hold := hq.old
  clear hq hn hI
  unfold pt exV
  unfold pt exV at HI
  rcases hk with rfl | rfl | rfl | rfl
  all_goals
    go_enter Tryd.func82, Tryd.ntmps82
    go_wp2_with fail
    go_at_call 65
    refine HI.out.mono ?_
    rintro e w2 ⟨r, new, rfl, h1, h2, h3, h4, h5⟩
    have H4 := Lib.hid h4
    have H2 := Lib.hid (((StepQ.refl _ _ _).alloc hold _).trans h2)
    clear h4 h2
    go_wp2
    go_ret
    exact ⟨r, new, rfl, h1, H2.out, h3, H4.out, h5⟩
set_option maxHeartbeats 2000000 in
set_option maxRecDepth 1000000 in
theorem ask_term {W0 : World} {qb : Nat} {D : Qn → Prop} (t n a : ByteArray) (ha : a.size ≤ 4000000) (A1 : Option Addr) (n1 c1 : Nat) (i : Option Addr) (A2 : Option Addr) (n2 c2 : Nat) (d : Nat) (w : World) (bI : Bool) (m : Nat)
    (hI : ∀ W, Asks W0 qb D 65 #[pt qb, exV 4 t n ⟨#[]⟩ A1 n1 c1 i A2 n2 c2, .int .i64 d] W bI m) :
    Asks W0 qb D 82 #[pt qb, exV 4 t n a A1 n1 c1 i A2 n2 c2, .int .i64 d] w (isNameV a && bI) m := by
  intro qs hq hn
  have Hq := Lib.hid hq
  have Hn := Lib.hid hn
  have HI := Lib.hid hI
  have hold := hq.old
  have hN := fun W => isName_any a W (by omega)
  obtain ⟨q, hqq⟩ : ∃ q, isNameV a = q := ⟨_, rfl⟩
  rw [hqq] at hN ⊢
  have HN := Lib.hid hN
  clear hq hn hI hN hqq
  unfold pt exV
  unfold pt exV at HI
  cases q
  case false =>
    go_enter Tryd.func82, Tryd.ntmps82
    go_wp2_with fail
    go_at_call 25
    refine (HN.out _).mono ?_
    rintro e w' ⟨rfl, rfl⟩
    go_wp2
    go_ret
    exact Asked.calm Hq.out (by repeat' first | with_reducible exact Below.refl _ _ | with_reducible apply Below.setCell | with_reducible apply Below.alloc | (simp; done) | (simp; omega)) rfl
  go_enter Tryd.func82, Tryd.ntmps82
  go_wp2_with fail
  go_at_call 25
  refine (HN.out _).mono ?_
  rintro e w' ⟨rfl, rfl⟩
  go_wp2_with fail
  go_at_call 65
  refine (HI.out _ qs ?hq Hn.out).mono ?_
  case hq =>
    refine Hq.out.later ?_
    repeat' first | with_reducible exact Below.refl _ _ | with_reducible apply Below.setCell | with_reducible apply Below.alloc | (simp; done) | (simp; omega)
  rintro e w2 ⟨r, new, rfl, h1, h2, h3, h4, h5⟩
  have hst : StepQ W0.heap.size qb w w2 := by
    refine StepQ.trans ((StepQ.refl _ _ _).later ?_ hold) h2
    repeat' first | with_reducible exact Below.refl _ _ | with_reducible apply Below.setCell | with_reducible apply Below.alloc | (simp; done) | (simp; omega)
  have H4 := Lib.hid h4
  have H2 := Lib.hid hst
  clear h4 h2 hst
  go_wp2
  go_ret
  exact ⟨r, new, by simp, h1, H2.out, h3, by rw [H4.out]; simp, h5⟩
set_option maxHeartbeats 2000000 in
set_option maxRecDepth 1000000 in
theorem ask_none {W0 : World} {qb : Nat} {D : Qn → Prop} (k : Int) (hk : k < 0 ∨ k = 3 ∨ 5 < k) (t n a : ByteArray) (A1 : Option Addr) (n1 c1 : Nat) (i : Option Addr) (A2 : Option Addr) (n2 c2 : Nat) (d : Nat) (w : World) :
    Asks W0 qb D 82 #[pt qb, exV k t n a A1 n1 c1 i A2 n2 c2, .int .i64 d] w false 0 := by
  intro qs hq hn
  have Hq := Lib.hid hq
  have k0 : (k == 0) = false := beq_eq_false_iff_ne.2 (by omega)
  have k1 : (k == 1) = false := beq_eq_false_iff_ne.2 (by omega)
  have k2 : (k == 2) = false := beq_eq_false_iff_ne.2 (by omega)
  have k4 : (k == 4) = false := beq_eq_false_iff_ne.2 (by omega)
  have k5 : (k == 5) = false := beq_eq_false_iff_ne.2 (by omega)
  clear hq hn hk
  unfold pt exV
  go_enter Tryd.func82, Tryd.ntmps82
  go_wp2
  go_ret
  exact Asked.calm Hq.out (by repeat' first | with_reducible exact Below.refl _ _ | with_reducible apply Below.setCell | with_reducible apply Below.alloc | (simp; done) | (simp; omega)) rfl
end Go.Proofs.YtmceblemiboedaaDoor

/-
  Package ast: each question is asked as it is said.
-/
namespace Go.Proofs.YtmceblemiboedaaDoor
open Go.RowKit
set_option linter.unusedVariables false
set_option linter.unusedSimpArgs false

/-- strings.ContainsAny, for braces, of whatever text of signs. -/
def CaAll : Prop := ∀ s : ByteArray, s.size ≤ 4000000 → validB s = true → CaTo s
/-- All questions but those of sameness. -/
def Ad (q : Qn) : Prop := match q with | .may .brc _ _ => True | .may .inl _ _ => True | _ => False
theorem ar_size {l : List AR} {n : ByteArray} {e : EX} (h : AR.mk n e ∈ l) : e.size ≤ sizeAs l := by
  induction l with
  | nil => cases h
  | cons x r ih =>
    cases x with
    | mk n' e' =>
      rw [sizeAs]
      rcases List.mem_cons.1 h with h | h
      · cases h; omega
      · have := ih h; omega
theorem el_size {l : List EL} {t : ByteArray} {p : Option EX} (h : EL.mk t p ∈ l) : t.size ≤ sizeEs l := by
  induction l with
  | nil => cases h
  | cons x r ih =>
    cases x with
    | mk t' p' =>
      rw [sizeEs]
      rcases List.mem_cons.1 h with h | h
      · cases h; omega
      · have := ih h; omega
theorem va_size {l : List VA} {k : ByteArray} {d : Bool} {v : List EL} (h : VA.mk k d v ∈ l) : sizeEs v ≤ sizeVs l := by
  induction l with
  | nil => cases h
  | cons x r ih =>
    cases x with
    | mk k' d' v' =>
      rw [sizeVs]
      rcases List.mem_cons.1 h with h | h
      · cases h; omega
      · have := ih h; omega
/-- An expression in whose place no Select stands. -/
theorem inline_asks {W0 : World} {qb : Nat} (hT : TabU W0) (k : Int) (t n a : ByteArray) (al : List AR) (ie : Option EX) (vs : List VA) (hsz : (EX.mk k t n a al ie vs).size ≤ 4000000) (A1 : Option Addr) (c1 : Nat) (hA : LieAt (AsAt W0 al) (.slice A1 al.length c1) al.length) (i : Option Addr) (hi : OAt W0 ie (.pointer i)) (A2 : Option Addr) (c2 : Nat) (d : Nat) (hd : d ≤ 20) (w : World) :
    Asks W0 qb Ad 65 #[pt qb, exV k t n a A1 al.length c1 i A2 vs.length c2, .int .i64 d] w (okE .inl (.mk k t n a al ie vs) d) (sizeAs al + sizeO ie) := by
  have hin := isNone_of hi
  have hsz2 := hsz
  rw [EX.size] at hsz2
  have up : ∀ {b : Bool} {m : Nat}, m ≤ sizeAs al + sizeO ie → Asks W0 qb Ad 65 #[pt qb, exV k t n a A1 al.length c1 i A2 vs.length c2, .int .i64 d] w b m → Asks W0 qb Ad 65 #[pt qb, exV k t n a A1 al.length c1 i A2 vs.length c2, .int .i64 d] w b (sizeAs al + sizeO ie) :=
    fun hm h qs hq hn => (h qs hq (by omega)).mono fun e w' hh => Asked.pre (StepQ.refl _ _ _) hh hm
  have hargs : ∀ w', Asks W0 qb Ad 83 #[pt qb, .slice A1 al.length c1, .int .i64 d] w' (argNames [] al && okAs al d) (sizeAs al) := fun w' => areArgs_asks hT al hA d hd (fun _ _ _ => trivial) w'
  by_cases h0 : k = 0
  · subst h0
    exact up (Nat.zero_le _) (inl01 hT 0 (.inl rfl) t n a al A1 c1 ie i hi vs A2 c2 d w (by omega))
  by_cases h1 : k = 1
  · subst h1
    exact up (Nat.zero_le _) (inl01 hT 1 (.inr rfl) t n a al A1 c1 ie i hi vs A2 c2 d w (by omega))
  by_cases h2 : k = 2
  · subst h2
    have h := inl2 (W0 := W0) (qb := qb) (D := Ad) t n a A1 al.length c1 i A2 vs.length c2 d w (by omega)
    have e : okE .inl (.mk 2 t n a al ie vs) d = (isNameV n && bareB t ⟨#[]⟩ a al.length i vs.length) := by
      rw [okE]; unfold inlP bareB; rw [emp_nil, len0, len0, hin]; simp [Bool.and_assoc]
    rw [e]; exact up (Nat.zero_le _) h
  by_cases h3 : k = 3
  · subst h3
    have h := inl3 (W0 := W0) (qb := qb) (D := Ad) t n a A1 al.length c1 i A2 vs.length c2 d w (by omega) (by omega)
    have e : okE .inl (.mk 3 t n a al ie vs) d = (isNameV n && (emp a || isNameV a) && bareB t ⟨#[]⟩ ⟨#[]⟩ al.length i vs.length) := by
      rw [okE]; unfold inlP bareB; rw [emp_nil, len0, len0, hin]; simp [Bool.and_assoc]
    rw [e]; exact up (Nat.zero_le _) h
  by_cases h4 : k = 4
  · subst h4
    have h := inl4 (W0 := W0) (qb := qb) (D := Ad) (argNames [] al && okAs al d) (sizeAs al) t n a A1 al.length c1 i A2 vs.length c2 d w (by omega) hargs
    have e : okE .inl (.mk 4 t n a al ie vs) d = (isNameV n && (argNames [] al && okAs al d) && bareB t ⟨#[]⟩ a 0 i vs.length) := by
      rw [okE]; unfold inlP bareB; rw [emp_nil, len0, hin]; simp [Bool.and_assoc]
    rw [e]; exact up (by omega) h
  by_cases h5 : k = 5
  · subst h5
    have h := inl5 (W0 := W0) (qb := qb) (D := Ad) (argNames [] al && okAs al d) (sizeAs al) t n a A1 al.length c1 i A2 vs.length c2 d w (by omega) hargs
    have e : okE .inl (.mk 5 t n a al ie vs) d = (isNameV n && bigV n && (argNames [] al && okAs al d) && bareB t ⟨#[]⟩ a 0 i vs.length) := by
      rw [okE]; unfold inlP bareB; rw [emp_nil, len0, hin]; simp [Bool.and_assoc]
    rw [e]; exact up (by omega) h
  by_cases h6 : k = 6
  · subst h6
    have h := inl6 (W0 := W0) (qb := qb) (D := Ad) ie t n a A1 al.length c1 i A2 vs.length c2 d w hd hi (fun _ _ => trivial)
    have e : okE .inl (.mk 6 t n a al ie vs) d = (okO .brc ie (d + 1) && bareB t n a al.length none vs.length) := by
      rw [okE]; unfold inlP bareB; rw [len0, len0]; simp [Bool.and_assoc]
    rw [e]; exact up (by omega) h
  · have h := inlX (W0 := W0) (qb := qb) (D := Ad) k (by omega) t n a A1 al.length c1 i A2 vs.length c2 d w
    have e : okE .inl (.mk k t n a al ie vs) d = false := by
      rw [okE]; unfold inlP; simp [h0, h1, h2, h3, h4, h5, h6]
    rw [e]; exact up (Nat.zero_le _) h
theorem asked_asks {W0 : World} {qb : Nat} (hT : TabU W0) (k : Int) (t n a : ByteArray) (al : List AR) (ie : Option EX) (vs : List VA) (hsz : (EX.mk k t n a al ie vs).size ≤ 4000000) (A1 : Option Addr) (c1 : Nat) (hA : LieAt (AsAt W0 al) (.slice A1 al.length c1) al.length) (i : Option Addr) (hi : OAt W0 ie (.pointer i)) (A2 : Option Addr) (c2 : Nat) (d : Nat) (hd : d ≤ 20) (w : World) :
    Asks W0 qb Ad 82 #[pt qb, exV k t n a A1 al.length c1 i A2 vs.length c2, .int .i64 d] w (okE .ask (.mk k t n a al ie vs) d) (sizeAs al + sizeO ie) := by
  have hsz2 := hsz
  rw [EX.size] at hsz2
  by_cases h4 : k = 4
  · subst h4
    have hsz4 : (EX.mk 4 t n ⟨#[]⟩ al ie vs).size ≤ 4000000 := by
      rw [EX.size]
      have : (⟨#[]⟩ : ByteArray).size = 0 := rfl
      omega
    have h := ask_term (W0 := W0) (qb := qb) (D := Ad) t n a (by omega) A1 al.length c1 i A2 vs.length c2 d w _ _ (fun W => inline_asks hT 4 t n ⟨#[]⟩ al ie vs hsz4 A1 c1 hA i hi A2 c2 d hd W)
    have e : okE .ask (.mk 4 t n a al ie vs) d = (isNameV a && okE .inl (.mk 4 t n ⟨#[]⟩ al ie vs) d) := by
      rw [okE, okE]
      rfl
    rw [e]; exact h
  by_cases h5 : k = 0 ∨ k = 1 ∨ k = 2 ∨ k = 5
  · have h := ask_plain (W0 := W0) (qb := qb) (D := Ad) k h5 t n a A1 al.length c1 i A2 vs.length c2 d w _ _ (fun W => inline_asks hT k t n a al ie vs hsz A1 c1 hA i hi A2 c2 d hd W)
    have e : okE .ask (.mk k t n a al ie vs) d = okE .inl (.mk k t n a al ie vs) d := by
      rw [okE, okE]
      simp only [if_neg h4, if_pos h5]
    rw [e]; exact h
  · have h := ask_none (W0 := W0) (qb := qb) (D := Ad) k (by omega) t n a A1 al.length c1 i A2 vs.length c2 d w
    have e : okE .ask (.mk k t n a al ie vs) d = false := by
      rw [okE]
      simp only [if_neg h4, if_neg h5]
    rw [e]
    intro qs hq hn
    exact (h qs hq (by omega)).mono fun e w' hh => Asked.pre (StepQ.refl _ _ _) hh (Nat.zero_le _)
end Go.Proofs.YtmceblemiboedaaDoor

/-
  Package ast: each question is asked as it is said: all of them.
-/
namespace Go.Proofs.YtmceblemiboedaaDoor
open Go.RowKit
set_option linter.unusedVariables false
set_option linter.unusedSimpArgs false

set_option maxHeartbeats 1000000 in
set_option maxRecDepth 100000 in
theorem arg_call {W0 : World} {qb : Nat} {D : Qn → Prop} (k1 k2 k3 b o : Nat) (d : Nat) (hd : d ≤ 20) (w : World) (qs : List Qn) (B : Bool) (m : Nat) (hq : QsAt W0 qb qs w)
    (h1 : BoxAt w k1 #[pt qb] 52) (h2 : BoxAt w k2 #[.pointer (some ⟨b, o, none⟩)] 33) (h3 : BoxAt w k3 #[.int .i64 d] 3)
    (k : Int) (t n a : ByteArray) (A1 : Option Addr) (n1 c1 : Nat) (i : Option Addr) (A2 : Option Addr) (n2 c2 : Nat) (hb : b < W0.heap.size) (hc : CellsAt W0 b o ⟨.int .i64 k, .string t, .string n, .string a, .slice A1 n1 c1, .pointer i, .slice A2 n2 c2⟩)
    (h : Calls Tryd.prog 65 #[pt qb, exV k t n a A1 n1 c1 i A2 n2 c2, .int .i64 d] w.drew (Asked W0 qb D qs w.drew B m)) :
    Calls Tryd.prog 98 #[pt k1, pt k2, pt k3] w (Asked W0 qb D qs w B m) := by
  have hbel := hq.below
  obtain ⟨c0, c1', c2', c3, c4, c5, c6⟩ := hc
  rw [← hbel.cell (p := ⟨b, _, none⟩) hb] at c0 c1' c2' c3 c4 c5 c6
  have e1 := h1.cell 0
  have e2 := h2.cell 0
  have e3 := h3.cell 0
  have H := Lib.hid h
  clear h h1 h2 h3 hbel hq
  unfold pt exV at *
  simp at e1 e2 e3
  go_enter Tryd.func98, Tryd.ntmps98
  go_wp2
  go_still_tail 5, (by kernel_rfl)
  change wpList _ _ _ _ _ w.drew
  go_wp2_with fail
  go_at_call 65
  refine H.out.mono ?_
  rintro e w2 ⟨r, new, rfl, g1, g2, g3, g4, g5⟩
  have G2 := Lib.hid ((StepQ.refl _ _ _).drew.trans g2)
  have G4 := Lib.hid g4
  clear g2 g4
  go_wp2
  go_ret
  exact ⟨r, new, rfl, g1, G2.out, g3, G4.out, g5⟩
theorem up_asks {W0 : World} {qb : Nat} {D : Qn → Prop} {f : FuncId} {args : Array Value} {w : World} {b : Bool} {m m' : Nat} (hm : m ≤ m') (h : Asks W0 qb D f args w b m) : Asks W0 qb D f args w b m' :=
  fun qs hq hn => (h qs hq (by omega)).mono fun e w' hh => Asked.pre (StepQ.refl _ _ _) hh hm
set_option maxRecDepth 100000 in
theorem all_qc {W0 : World} {qb : Nat} (HCA : CaAll) (hT : TabU W0) : QC W0 qb Ad := by
  rintro q hq0 fv w qs hIs hq hn
  match q, hq0, hIs, hn with
  | .same a b, h, _, _ => exact h.elim
  | .pats a b, h, _, _ => exact h.elim
  | .may .ask e d, h, _, _ => exact h.elim
  | .may .inl e d, _, hIs, hn =>
    obtain ⟨k1, k2, k3, p, hd, rfl, b1, b2, b3, hO⟩ := hIs
    simp only [OAt] at hO
    obtain ⟨b, o, c, rfl, hb, hc, hE⟩ := hO
    refine ⟨_, _, rfl, enters_arg, ?_⟩
    cases e with
    | mk k t n a al i vs =>
      obtain ⟨A1, c1, pi, A2, c2, rfl, hA, hi, hV⟩ := cells_ex hE
      have hsz : total qs + (EX.mk k t n a al i vs).size ≤ 4000000 := hn
      have hs1 : (EX.mk k t n a al i vs).size - 1 = t.size + n.size + a.size + sizeAs al + sizeO i + sizeVs vs := by rw [EX.size]; omega
      refine arg_call k1 k2 k3 b o d hd w qs _ _ hq b1 b2 b3 k t n a A1 al.length c1 pi A2 vs.length c2 hb hc ?_
      show Calls _ _ _ _ (Asked W0 qb Ad qs w.drew (okE .inl (.mk k t n a al i vs) d) ((EX.mk k t n a al i vs).size - 1))
      rw [hs1]
      exact up_asks (by omega) (inline_asks hT k t n a al i vs (by omega) A1 c1 hA pi hi A2 c2 d hd w.drew) qs hq.drew (by rw [← hs1]; unfold qMax; omega)
  | .may .brc e d, _, hIs, hn =>
    obtain ⟨N, k1, k2, k3, p, d', hN, rfl, hd, rfl, b1, b2, b3, hO⟩ := hIs
    simp only [OAt] at hO
    obtain ⟨b, o, c, rfl, hb, hc, hE⟩ := hO
    refine ⟨N, _, rfl, by rcases hN with rfl | rfl; exact enters_pat; exact enters_inl, ?_⟩
    refine brc_call hN k1 k2 k3 _ d' hd w qs _ _ b1 b2 b3 ?_
    cases e with
    | mk k t n a al i vs =>
      obtain ⟨A1, c1, pi, A2, c2, rfl, hA, hi, hV⟩ := cells_ex hE
      have hsz : total qs + (EX.mk k t n a al i vs).size ≤ 4000000 := hn
      have hs1 : (EX.mk k t n a al i vs).size - 1 = t.size + n.size + a.size + sizeAs al + sizeO i + sizeVs vs := by rw [EX.size]; omega
      have hss : sizeVs vs + sizeO i ≤ 4000000 := by omega
      have hvs : ∀ key bb l, VA.mk key bb l ∈ vs → (∀ t p, EL.mk t p ∈ l → validB t = true → CaTo t) ∧ ∀ t e, EL.mk t (some e) ∈ l → Ad (.may .brc e (d' + 1 + 1)) := fun key bb l hm =>
        ⟨fun t p ht hv => HCA t (by have := el_size ht; have := va_size hm; omega) hv, fun _ _ _ => trivial⟩
      have hok : okE .brc (.mk k t n a al i vs) (d' + 1) = (decide (d' + 1 ≤ 20) && (if k = 7 then selB t n a al.length vs (d' + 1) (okO .ask i (d' + 1)) else okE .inl (.mk k t n a al i vs) (d' + 1))) := by
        rw [okE, okE]
        congr 1
        by_cases h7 : k = 7
        · rw [if_pos h7, if_pos h7]
          unfold selB varsL bareB
          rw [← vars_all, len0]
          generalize (vs.all fun v => (isNameV (vaKey v) || isNum (vaKey v)) && !(vaVal v).isEmpty && patL (vaVal v)) = X
          generalize (vs.countP vaDflt == 1) = Y
          cases X <;> cases Y <;> cases emp t <;> cases emp n <;> cases emp a <;> cases al.isEmpty <;> cases okVs vs (d' + 1) <;> simp
        · rw [if_neg h7, if_neg h7]
      show Calls _ _ _ _ (Asked W0 qb Ad qs w (okE .brc (.mk k t n a al i vs) (d' + 1)) ((EX.mk k t n a al i vs).size - 1))
      rw [hok, hs1]
      refine inBraces_asks k t n a A1 al.length c1 pi A2 vs.length c2 b o hb hc (d' + 1) (by omega) w _ _ (fun h7 hd20 => ?_) (fun h7 hd20 => ?_) qs hq (by rw [← hs1]; unfold qMax; omega)
      · rw [if_pos h7]
        refine up_asks (by omega) (isSelect_asks hT k t n a A1 al.length c1 pi vs A2 c2 hV (d' + 1) hd20 w hvs i hi (okO .ask i (d' + 1)) (fun h => by rw [h, okO]) ?_)
        intro k' t' n' a' A1' n1' c1' p' A2' n2' c2' b' o' hpi hc' W
        subst hpi
        cases i with
        | none => simp only [OAt] at hi; cases hi
        | some ix =>
          simp only [OAt] at hi
          obtain ⟨b2', o2', cc, hpp, hb', hcc, hEx⟩ := hi
          cases hpp
          have hcu := hc'.uniq hcc
          cases ix with
          | mk kx tx nx ax alx ix2 vsx =>
            obtain ⟨B1, e1, px, B2, e2, rfl, hAx, hix, _⟩ := cells_ex hEx
            injection hcu with q1 q2 q3 q4 q5 q6 q7
            cases q1; cases q2; cases q3; cases q4; cases q5; cases q6; cases q7
            have hxs : sizeO (some (EX.mk k' t' n' a' alx ix2 vsx)) = (EX.mk k' t' n' a' alx ix2 vsx).size := by rw [sizeO]
            have hx2 : sizeAs alx + sizeO ix2 ≤ (EX.mk k' t' n' a' alx ix2 vsx).size := by rw [EX.size]; omega
            rw [okO, hxs]
            exact up_asks hx2 (asked_asks hT k' t' n' a' alx ix2 vsx (by omega) A1' c1' hAx p' hix A2' c2' (d' + 1) hd20 W)
      · rw [if_neg h7]
        exact up_asks (by omega) (inline_asks hT k t n a al i vs (by omega) A1 c1 hA pi hi A2 c2 (d' + 1) hd20 w)
end Go.Proofs.YtmceblemiboedaaDoor

/-
  Package ast: isMessage.
-/
namespace Go.Proofs.YtmceblemiboedaaDoor
open Go.RowKit
set_option linter.unusedVariables false
set_option linter.unusedSimpArgs false

/-- An attribute. -/
inductive AT where
  | mk (name : ByteArray) (value : List EL)
def sizeTs : List AT → Nat
  | [] => 0
  | .mk n v :: r => 1 + n.size + sizeEs v + sizeTs r
def TsAt (W : World) : List AT → Nat → Nat → Prop
  | [], _, _ => True
  | .mk n v :: r, b, o => b < W.heap.size ∧ W.cell? ⟨b, o, none⟩ = some (.string n) ∧ (∃ u, W.cell? ⟨b, o + 1, none⟩ = some u ∧ PatAt W v u) ∧ TsAt W r b (o + 2)
theorem TsAt.get {W : World} : ∀ {l : List AT} {b o : Nat} (j : Nat) {t : ByteArray} {v : List EL}, TsAt W l b o → l[j]? = some (.mk t v) →
    b < W.heap.size ∧ W.cell? ⟨b, o + j * 2, none⟩ = some (.string t) ∧ ∃ u, W.cell? ⟨b, o + j * 2 + 1, none⟩ = some u ∧ PatAt W v u
  | [], b, o, j, t, p, h, hj => by simp at hj
  | .mk t' p' :: r, b, o, 0, t, p, h, hj => by
    rw [TsAt] at h
    simp at hj
    obtain ⟨rfl, rfl⟩ := hj
    obtain ⟨h0, h1, h2, _⟩ := h
    exact ⟨h0, by simpa using h1, by simpa using h2⟩
  | .mk t' p' :: r, b, o, j + 1, t, p, h, hj => by
    rw [TsAt] at h
    have := TsAt.get j h.2.2.2 (by simpa using hj)
    rw [show o + (j + 1) * 2 = o + 2 + j * 2 by omega]
    exact this
def attrOk : AT → Bool | .mk n v => isNameV n && (!v.isEmpty && patB v 0)
theorem ats_get {W0 : World} {l : List AT} {v : Value} (h : LieAt (TsAt W0 l) v l.length) {i : Nat} (hi : i < l.length) : ∃ b o c, v = .slice (some ⟨b, o, none⟩) l.length c ∧ b < W0.heap.size ∧
    ∀ j t p, l[j]? = some (.mk t p) → W0.cell? ⟨b, o + j * 2, none⟩ = some (.string t) ∧ ∃ u, W0.cell? ⟨b, o + j * 2 + 1, none⟩ = some u ∧ PatAt W0 p u := by
  obtain ⟨A, c, rfl, _, _, h2⟩ := h
  obtain ⟨b, o, rfl, h3⟩ := h2 (by omega)
  have h0 : l[0]? = some l[0] := List.getElem?_eq_getElem (by omega)
  refine ⟨b, o, c, rfl, ?_, fun j t p hj => ⟨(h3.get j hj).2.1, (h3.get j hj).2.2⟩⟩
  cases e : l[0]'(by omega) with
  | mk t p => rw [e] at h0; exact (h3.get 0 h0).1
theorem sizeTs_length : ∀ l : List AT, l.length ≤ sizeTs l
  | [] => Nat.zero_le _
  | .mk t p :: r => by have := sizeTs_length r; rw [sizeTs, List.length_cons]; omega
theorem sizeTs_append : ∀ a b : List AT, sizeTs (a ++ b) = sizeTs a + sizeTs b
  | [], b => by rw [List.nil_append, sizeTs]; omega
  | .mk t p :: r, b => by rw [List.cons_append, sizeTs, sizeTs, sizeTs_append r b]; omega
theorem sizeTs_take (l : List AT) (i : Nat) : sizeTs (l.take i) ≤ sizeTs l := by
  have := sizeTs_append (l.take i) (l.drop i)
  rw [List.take_append_drop] at this
  omega
/-- May a message, or a term, be? -/
def msgB (ty level : Int) (text name : ByteArray) (val : List EL) (ats : List AT) : Bool :=
  (level == 0) && emp text && isNameV name && patB val 0 && ats.all attrOk && (!val.isEmpty || (ty == 1) && !ats.isEmpty)
/-- An entry as it is handed on. -/
def entV (ty level : Int) (text name : ByteArray) (v u : Value) (fr tu : Int) : Value := .agg #[.int .i64 ty, .int .i64 level, .string text, .string name, v, u, .int .i64 fr, .int .i64 tu]
/-- What may be put off of a pattern: D lets it in; its texts are looked through. -/
structure PatOk (D : Qn → Prop) (l : List EL) (d : Nat) : Prop where
  ca : ∀ t p, EL.mk t p ∈ l → validB t = true → CaTo t
  dd : ∀ t e, EL.mk t (some e) ∈ l → D (.may .brc e (d + 1))
set_option maxHeartbeats 4000000 in
set_option maxRecDepth 1000000 in
theorem isMessage_asks {W0 : World} {qb : Nat} {D : Qn → Prop} (hT : TabU W0) (ty level : Int) (text name : ByteArray) (val : List EL) (ats : List AT) (v u : Value) (fr tu : Int) (hv : PatAt W0 val v) (hu : LieAt (TsAt W0 ats) u ats.length)
    (h1 : PatOk D val 0) (h2 : ∀ t l, AT.mk t l ∈ ats → PatOk D l 0) (hnm : name.size ≤ 4000000) (w : World) :
    Asks W0 qb D 15 #[pt qb, entV ty level text name v u fr tu] w (msgB ty level text name val ats) (sizeEs val + sizeTs ats) := by
  intro qs hq hn
  have Hq := Lib.hid hq
  have Hn := Lib.hid hn
  have hold := hq.old
  have hltq := hq.lt
  have hbel := hq.below
  have hv' := hv
  obtain ⟨A, c, rfl, hc1, hc2, _⟩ := hv'
  have hu' := hu
  obtain ⟨A2, c2, rfl, hc3, hc4, _⟩ := hu'
  have HV := Lib.hid hv
  have HU := Lib.hid hu
  have HP : ∀ W, Asks W0 qb D 26 #[.pointer (some ⟨qb, 0, none⟩), .slice A val.length c, .int .i64 0] W (patB val 0) (sizeEs val) := fun W => isPattern_asks (qb := qb) (D := D) hT val h1.ca hv 0 (by omega) h1.dd W
  have HPP := Lib.hid HP
  have H2 := Lib.hid h2
  have hvl : (val.length : Int) ≤ 4000000 := by have := sizeEs_length val; unfold qMax at hn; omega
  have hal : (ats.length : Int) ≤ 4000000 := by have := sizeTs_length ats; unfold qMax at hn; omega
  clear hq hn hbel hv hu hc1 hc2 hc3 hc4 HP h1 h2
  unfold pt entV
  by_cases hlv : level = 0
  case neg =>
    have hz : (level == 0) = false := beq_eq_false_iff_ne.2 hlv
    have hz' : (level != 0) = true := by rw [bne, hz]; rfl
    go_enter Tryd.func15, Tryd.ntmps15
    go_wp2
    go_ret
    exact Asked.calm' Hq.out ((Below.refl _ _).alloc (Nat.le_refl _) _) (by simp [msgB, hz])
  subst hlv
  unfold msgB
  cases he : text.toList.isEmpty
  case false =>
    go_enter Tryd.func15, Tryd.ntmps15
    go_wp2
    go_ret
    exact Asked.calm' Hq.out ((Below.refl _ _).alloc (Nat.le_refl _) _) (by simp [emp, he])
  rw [show emp text = true from he]
  have hN := fun W => isName_any name W (by omega)
  obtain ⟨q, hqq⟩ : ∃ q, isNameV name = q := ⟨_, rfl⟩
  rw [hqq] at hN ⊢
  have HN := Lib.hid hN
  clear hN hqq
  cases q
  case false =>
    go_enter Tryd.func15, Tryd.ntmps15
    go_wp2_with fail
    go_at_call 25
    refine (HN.out _).mono ?_
    rintro e w' ⟨rfl, rfl⟩
    go_wp2
    go_ret
    exact Asked.calm' Hq.out ((Below.refl _ _).alloc (Nat.le_refl _) _) (by simp)
  go_enter Tryd.func15, Tryd.ntmps15
  go_wp2_with fail
  go_at_call 25
  refine (HN.out _).mono ?_
  rintro e w' ⟨rfl, rfl⟩
  go_wp2_with fail
  go_at_call 26
  refine (HPP.out _ qs (Hq.out.later ((Below.refl _ _).alloc (Nat.le_refl _) _)) (by have := Hn.out; omega)).mono ?_
  rintro e w2 ⟨r, new, rfl, h1, h2, h3, h4, h5⟩
  have hst : StepQ W0.heap.size qb w w2 := ((StepQ.refl _ _ _).alloc hold _).trans h2
  have hbx : BoxAt w2 w.heap.size #[.int .i64 ty, .int .i64 0, .string text, .string name, .slice A val.length c, .slice A2 ats.length c2, .int .i64 fr, .int .i64 tu] 26 :=
    (BoxAt.new w _ _).step h2 (by omega) (by decide)
  have Hst := Lib.hid hst
  have H1 := Lib.hid h1
  have H4 := Lib.hid h4
  have H5 := Lib.hid h5
  have Hbx := Lib.hid hbx
  have d4 := hbx.cell 4
  have d5 := hbx.cell 5
  have d0 := hbx.cell 0
  simp at d0 d4 d5
  clear hst h1 h2 h4 h5 hbx HN HPP
  cases r
  case false =>
    go_wp2
    go_ret
    exact ⟨false, new, rfl, H1.out, Hst.out, by omega, by rw [H4.out]; simp, H5.out⟩
  go_wp2
  go_loopw [31] (fun t31 wr => ∃ (j : Nat) (qs' : List Qn), t31 = .int .i64 j ∧ j ≤ ats.length ∧ Hid (QsAt W0 qb (qs ++ qs') wr) ∧ Hid (StepQ W0.heap.size qb w wr) ∧
      Hid (BoxAt wr w.heap.size #[.int .i64 ty, .int .i64 0, .string text, .string name, .slice A val.length c, .slice A2 ats.length c2, .int .i64 fr, .int .i64 tu] 26) ∧
      Hid (total qs' ≤ sizeEs val + sizeTs (ats.take j)) ∧ Hid ((patB val 0 && ats.all attrOk) = ((ats.drop j).all attrOk && answers qs')) ∧ Hid (∀ q ∈ qs', D q)) (fun t31 _ => ats.length - (intOf t31).toNat)
  case atStart => exact ⟨0, new, rfl, Nat.zero_le _, H1.out, Hst.out, Hbx.out, by unfold Hid; rw [List.take_zero, sizeTs]; omega, by unfold Hid; rw [H4.out, List.drop_zero]; cases ats.all attrOk <;> simp, H5.out⟩
  case round =>
    obtain ⟨j, qs', rfl, hj, Hqs, Hs, Hb, Htot, Hans, HDq⟩ := hrel
    have hj0 : (j : Int) ≤ 4000000 := by omega
    have hbel := Hqs.out.below
    have hszW := Hqs.out.old
    have hbx2 := Hb.out
    have hlx := hbx2.lt
    clear H1 Hst H4 H5 Hbx d0 d4 d5
    by_cases hlt : j < ats.length
    · obtain ⟨b, o, c', e, hb, hcs⟩ := ats_get HU.out hlt
      cases e
      obtain ⟨t, p, hel⟩ : ∃ t p, ats[j]? = some (.mk t p) := by
        cases e : ats[j] with
        | mk t p => exact ⟨t, p, by rw [List.getElem?_eq_getElem hlt, e]⟩
      obtain ⟨c0, uv, c1, hpat⟩ := hcs j t p hel
      rw [← hbel.cell (p := ⟨b, o + j * 2, none⟩) hb] at c0
      rw [← hbel.cell (p := ⟨b, o + j * 2 + 1, none⟩) hb] at c1
      have hp' := hpat
      obtain ⟨A3, c3, rfl, _, _, _⟩ := hp'
      have hlt' : decide ((j : Int) < (ats.length : Int)) = true := decide_eq_true (by omega)
      have hlt3 : ((j : Nat) : Int) < (ats.length : Int) := by omega
      have hpo := H2.out t p (List.mem_of_getElem? hel)
      have hszt : sizeTs (ats.take (j + 1)) = sizeTs (ats.take j) + (1 + t.size + sizeEs p) := by
        rw [take_snoc ats j _ hel, sizeTs_append, sizeTs, sizeTs, Nat.add_zero]
      have hszl := sizeTs_take ats (j + 1)
      have hqm : total qs + (sizeEs val + sizeTs ats) ≤ 4000000 := Hn.out
      have htot := Htot.out
      have hF : ∀ W, Asks W0 qb D 27 #[.pointer (some ⟨qb, 0, none⟩), .slice A3 p.length c3, .int .i64 0] W (!p.isEmpty && patB p 0) (sizeEs p) := fun W => isFilled_asks hT p hpo.ca hpat 0 (by omega) hpo.dd W
      have HF := Lib.hid hF
      have hN := fun W => isName_any t W (by omega)
      obtain ⟨q, hqq⟩ : ∃ q, isNameV t = q := ⟨_, rfl⟩
      rw [hqq] at hN
      have HN := Lib.hid hN
      have hans := Hans.out
      rw [drop_cons ats j _ hel, List.all_cons, show attrOk (.mk t p) = (isNameV t && (!p.isEmpty && patB p 0)) from rfl, hqq] at hans
      have Hans2 := Lib.hid hans
      have hq2 := Hqs.out.alloc (.cells #[.string t, .slice A3 p.length c3] 40)
      have hs2 := Hs.out.alloc hszW (.cells #[.string t, .slice A3 p.length c3] 40)
      have Hq2 := Lib.hid hq2
      have Hs2 := Lib.hid hs2
      have Hszt := Lib.hid hszt
      clear hF hN hqq hans Hans hq2 hs2 hpo hpat hcs hbel hszt hbx2
      cases q
      case false =>
        go_wp2_with fail
        go_at_call 25
        refine (HN.out _).mono ?_
        rintro e w' ⟨rfl, rfl⟩
        go_wp2
        go_ret
        exact ⟨false, qs', rfl, Hq2.out, Hs2.out, by have := sizeTs_take ats j; omega, by
          have := Hans2.out
          simp only [Bool.false_and] at this
          simp [Bool.and_assoc, this], HDq.out⟩
      go_wp2_with fail
      go_at_call 25
      refine (HN.out _).mono ?_
      rintro e w' ⟨rfl, rfl⟩
      go_wp2_with fail
      go_at_call 27
      refine (HF.out _ (qs ++ qs') Hq2.out (by rw [total_append]; have := Hszt.out; unfold qMax; omega)).mono ?_
      rintro e w5 ⟨r, new2, rfl, h1, h2, h3, h4, h5⟩
      have hs5 : StepQ W0.heap.size qb w w5 := Hs2.out.trans h2
      have hb5 := BoxAt.step (Hb.out.alloc (.cells #[.string t, .slice A3 p.length c3] 40)) h2 (by omega) (by decide)
      have hD5 : ∀ q ∈ qs' ++ new2, D q := fun x hx => by
        rcases List.mem_append.1 hx with h | h
        · exact HDq.out x h
        · exact h5 x h
      have ht5 : total (qs' ++ new2) ≤ sizeEs val + sizeTs (ats.take (j + 1)) := by rw [total_append, Hszt.out]; omega
      have ha5 : (patB val 0 && ats.all attrOk) = (r && (ats.drop (j + 1)).all attrOk && answers (qs' ++ new2)) := by
        rw [Hans2.out, h4, answers_append]
        cases r <;> cases (ats.drop (j + 1)).all attrOk <;> cases answers qs' <;> simp
      rw [List.append_assoc] at h1
      have H1 := Lib.hid h1
      have Hs5 := Lib.hid hs5
      have Hb5 := Lib.hid hb5
      have Hd5 := Lib.hid hD5
      have Ht5 := Lib.hid ht5
      have Ha5 := Lib.hid ha5
      clear h1 h2 h3 h4 h5 hs5 hb5 hD5 ht5 ha5
      cases r
      case false =>
        go_wp2
        go_ret
        exact ⟨false, _, rfl, H1.out, Hs5.out, by have := Ht5.out; omega, by
          have := Ha5.out
          simp only [Bool.false_and] at this
          simp [Bool.and_assoc, this], Hd5.out⟩
      go_wp2
      go_roundw
      case rel => exact ⟨j + 1, qs' ++ new2, by go_num, hlt, H1.out, Hs5.out, Hb5.out, Ht5.out, by unfold Hid; rw [Ha5.out, Bool.true_and], Hd5.out⟩
      case measure => simp [intOf]; omega
    · obtain rfl : j = ats.length := by omega
      have hans := Hans.out
      rw [List.drop_length, List.all_nil, Bool.true_and] at hans
      have htot := Htot.out
      rw [List.take_length] at htot
      have hlt' : decide ((ats.length : Int) < (ats.length : Int)) = false := decide_eq_false (by omega)
      have d4 := hbx2.cell 4
      have d5 := hbx2.cell 5
      have d0 := hbx2.cell 0
      simp at d0 d4 d5
      have Hans2 := Lib.hid hans
      have hve : val.isEmpty = !decide (0 < val.length) := by cases val <;> simp
      have hae : ats.isEmpty = !decide (0 < ats.length) := by cases ats <;> simp
      have Hve := Lib.hid hve
      have Hae := Lib.hid hae
      clear hans Hans hbx2 hbel hve hae
      have fin : ∀ r : Bool, (!val.isEmpty || (ty == 1) && !ats.isEmpty) = r → (0 == 0 && true && true && patB val 0 && ats.all attrOk && (!val.isEmpty || (ty == 1) && !ats.isEmpty)) = (r && answers qs') := by
        intro r hr
        rw [hr, ← Hans2.out]
        cases patB val 0 <;> cases ats.all attrOk <;> cases r <;> rfl
      have Fin := Lib.hid fin
      clear fin
      by_cases h0 : 0 < val.length
      · have hd : decide ((0 : Int) < (val.length : Int)) = true := decide_eq_true (by omega)
        have hd' : decide (0 < val.length) = true := decide_eq_true h0
        have Hd' := Lib.hid hd'
        go_wp2
        go_ret
        exact ⟨true, qs', rfl, Hqs.out, Hs.out, htot, Fin.out true (by rw [Hve.out, Hd'.out]; rfl), HDq.out⟩
      · have hd : decide ((0 : Int) < (val.length : Int)) = false := decide_eq_false (by omega)
        have hd' : decide (0 < val.length) = false := decide_eq_false h0
        have Hd' := Lib.hid hd'
        obtain ⟨z, hz⟩ : ∃ z, (ty == 1) = z := ⟨_, rfl⟩
        have Hz := Lib.hid hz
        cases z
        · go_wp2
          go_ret
          exact ⟨false, qs', rfl, Hqs.out, Hs.out, htot, Fin.out false (by rw [Hve.out, Hd'.out, Hz.out]; rfl), HDq.out⟩
        · by_cases h3 : 0 < ats.length
          · have hd3 : decide ((0 : Int) < (ats.length : Int)) = true := decide_eq_true (by omega)
            have hd3' : decide (0 < ats.length) = true := decide_eq_true h3
            have Hd3 := Lib.hid hd3'
            go_wp2
            go_ret
            exact ⟨true, qs', rfl, Hqs.out, Hs.out, htot, Fin.out true (by rw [Hve.out, Hd'.out, Hz.out, Hae.out, Hd3.out]; rfl), HDq.out⟩
          · have hd3 : decide ((0 : Int) < (ats.length : Int)) = false := decide_eq_false (by omega)
            have hd3' : decide (0 < ats.length) = false := decide_eq_false h3
            have Hd3 := Lib.hid hd3'
            go_wp2
            go_ret
            exact ⟨false, qs', rfl, Hqs.out, Hs.out, htot, Fin.out false (by rw [Hve.out, Hd'.out, Hz.out, Hae.out, Hd3.out]; rfl), HDq.out⟩
end Go.Proofs.YtmceblemiboedaaDoor

/-
  Package ast: Right, of messages and terms.
-/
namespace Go.Proofs.YtmceblemiboedaaDoor
open Go.RowKit
set_option linter.unusedVariables false
set_option linter.unusedSimpArgs false

/-- An empty list. -/
theorem fresh_qs (w : World) (o : Obj) : QsAt w (w.heap.size + 1) [] ((w.alloc o).alloc (.cells #[.slice none 0 0] 46)) := by
  refine ⟨[], ⟨by omega, .slice none 0 0, ?_, by simp, .inl ⟨rfl, rfl⟩⟩, trivial, ((Below.refl _ _).alloc (Nat.le_refl _) _).alloc (by simp) _⟩
  have := BoxAt.new (w.alloc o) #[.slice none 0 0] 46
  rw [World.size_alloc] at this
  exact this
set_option maxHeartbeats 2000000 in
set_option maxRecDepth 1000000 in
theorem right_msg (ty level : Int) (hty : ty = 1 ∨ ty = 2) (text name : ByteArray) (val : List EL) (ats : List AT) (v u : Value) (fr tu : Int) (w : World) (D : Qn → Prop) (HQ : QC w (w.heap.size + 1) D) (hT : TabU w)
    (hv : PatAt w val v) (hu : LieAt (TsAt w ats) u ats.length) (h1 : PatOk D val 0) (h2 : ∀ t l, AT.mk t l ∈ ats → PatOk D l 0) (hnm : name.size ≤ 4000000) (hsz : sizeEs val + sizeTs ats ≤ qMax) :
    Calls Tryd.prog 8 #[entV ty level text name v u fr tu] w fun e w' => e = .returned (.bool (msgB ty level text name val ats)) ∧ Below w.heap.size w w' := by
  have hM := fun W => isMessage_asks (W0 := w) (qb := w.heap.size + 1) (D := D) hT ty level text name val ats v u fr tu hv hu h1 h2 hnm W
  obtain ⟨A, c, rfl, _⟩ := hv
  obtain ⟨A2, c2, rfl, _⟩ := hu
  have HM := Lib.hid hM
  have HC := Lib.hid HQ
  have Hsz := Lib.hid hsz
  have hA := fun qs W hq hD hn => allHold_any (W0 := w) (qb := w.heap.size + 1) (D := D) HQ qs W hq hD hn
  have HA := Lib.hid hA
  clear hM HQ hsz h1 h2 hA
  have HF := Lib.hid (fresh_qs w (.cells #[.int .i64 ty, .int .i64 level, .string text, .string name, .slice A val.length c, .slice A2 ats.length c2, .int .i64 fr, .int .i64 tu] 26))
  unfold entV pt at HM
  unfold pt at HA
  unfold entV
  rcases hty with rfl | rfl
  all_goals
    go_enter Tryd.func8, Tryd.ntmps8
    go_wp2_with fail
    go_at_call 15
    refine (HM.out _ [] HF.out (by simpa [total] using Hsz.out)).mono ?_
    rintro e w2 ⟨r, new, rfl, h1, h2, h3, h4, h5⟩
    have hb : Below w.heap.size w w2 := (((Below.refl _ _).alloc (Nat.le_refl _) _).alloc (by simp) _).trans h2.below
    rw [List.nil_append] at h1
    have H4 := Lib.hid h4
    have H1 := Lib.hid h1
    have H5 := Lib.hid h5
    have Hb := Lib.hid hb
    have H3 := Lib.hid h3
    clear h1 h2 h3 h4 h5 hb
    cases r
    case false =>
      go_wp2
      go_ret
      exact ⟨ret_bool (by rw [H4.out]; rfl), Hb.out⟩
    go_wp2_with fail
    go_at_call 16
    refine (HA.out new _ H1.out H5.out (Nat.le_trans H3.out Hsz.out)).mono ?_
    rintro e w3 ⟨rfl, hb3⟩
    go_wp2
    go_ret
    exact ⟨ret_bool (by rw [H4.out]; simp), Hb.out.trans hb3⟩
end Go.Proofs.YtmceblemiboedaaDoor

/-
  Package ast: Right, of whatever entry.
-/
namespace Go.Proofs.YtmceblemiboedaaDoor
open Go.RowKit
set_option linter.unusedVariables false
set_option linter.unusedSimpArgs false

def comB (level : Int) (text name : ByteArray) (n1 n2 : Nat) : Bool := decide (1 ≤ level) && decide (level ≤ 3) && textB text && emp name && decide (n1 = 0) && decide (n2 = 0)
set_option maxHeartbeats 2000000 in
set_option maxRecDepth 100000 in
theorem isComment_any (ty level : Int) (text name : ByteArray) (A : Option Addr) (n1 c1 : Nat) (A2 : Option Addr) (n2 c2 : Nat) (fr tu : Int) (w : World) (hs : text.size ≤ 4000000) (hT : TabU w) :
    Calls Tryd.prog 14 #[entV ty level text name (.slice A n1 c1) (.slice A2 n2 c2) fr tu] w fun e w' => e = .returned (.bool (comB level text name n1 n2)) ∧ Below w.heap.size w w' := by
  have HT := Lib.hid hT
  clear hT
  unfold entV comB
  by_cases h1 : 1 ≤ level
  case neg =>
    have hz : decide ((1 : Int) ≤ level) = false := decide_eq_false h1
    rw [hz]
    go_enter Tryd.func14, Tryd.ntmps14
    go_wp2
    go_ret
    exact ⟨rfl, (Below.refl _ _).alloc (Nat.le_refl _) _⟩
  have hz : decide ((1 : Int) ≤ level) = true := decide_eq_true h1
  by_cases h3 : level ≤ 3
  case neg =>
    have hy : decide (level ≤ 3) = false := decide_eq_false h3
    rw [hz, hy]
    go_enter Tryd.func14, Tryd.ntmps14
    go_wp2
    go_ret
    exact ⟨rfl, (Below.refl _ _).alloc (Nat.le_refl _) _⟩
  have hy : decide (level ≤ 3) = true := decide_eq_true h3
  rw [hz, hy]
  have hX := fun W h => isText_any text W (by omega) h
  obtain ⟨q, hq⟩ : ∃ q, textB text = q := ⟨_, rfl⟩
  rw [hq] at hX ⊢
  have HX := Lib.hid hX
  clear hX hq
  obtain ⟨g, hg⟩ : ∃ g, emp name = g := ⟨_, rfl⟩
  have hg2 : name.toList.isEmpty = g := hg
  rw [hg]
  have z1 : ((n1 : Int) == 0) = decide (n1 = 0) := by by_cases h : n1 = 0 <;> simp [h]
  have z2 : ((n2 : Int) == 0) = decide (n2 = 0) := by by_cases h : n2 = 0 <;> simp [h]
  obtain ⟨y1, hy1⟩ : ∃ y, decide (n1 = 0) = y := ⟨_, rfl⟩
  obtain ⟨y2, hy2⟩ : ∃ y, decide (n2 = 0) = y := ⟨_, rfl⟩
  rw [hy1] at z1 ⊢
  rw [hy2] at z2 ⊢
  clear hy1 hy2 hg
  cases q
  case false =>
    go_enter Tryd.func14, Tryd.ntmps14
    go_wp2_with fail
    go_at_call 24
    refine (HX.out _ (HT.out.below ((Below.refl _ _).alloc (Nat.le_refl _) _))).mono ?_
    rintro e w2 ⟨rfl, hb⟩
    have HB := Lib.hid (below_box hb)
    clear hb
    go_wp2
    go_ret
    exact ⟨rfl, HB.out⟩
  all_goals
    cases g <;> cases y1 <;> cases y2 <;>
    · go_enter Tryd.func14, Tryd.ntmps14
      go_wp2_with fail
      go_at_call 24
      refine (HX.out _ (HT.out.below ((Below.refl _ _).alloc (Nat.le_refl _) _))).mono ?_
      rintro e w2 ⟨rfl, hb⟩
      obtain ⟨hcc, hff⟩ := bcell hb
      have HB := Lib.hid (below_box hb)
      clear hb
      go_wp2
      go_ret
      exact ⟨rfl, HB.out⟩
/-- May an entry be? -/
def rightB (ty level : Int) (text name : ByteArray) (val : List EL) (ats : List AT) : Bool :=
  if ty = 0 then comB level text name val.length ats.length else if ty = 1 ∨ ty = 2 then msgB ty level text name val ats else false
theorem at_size {l : List AT} {n : ByteArray} {v : List EL} (h : AT.mk n v ∈ l) : sizeEs v ≤ sizeTs l := by
  induction l with
  | nil => cases h
  | cons x r ih =>
    cases x with
    | mk n' v' =>
      rw [sizeTs]
      rcases List.mem_cons.1 h with h | h
      · cases h; omega
      · have := ih h; omega
set_option maxHeartbeats 2000000 in
set_option maxRecDepth 100000 in
theorem right_any (HCA : CaAll) (ty level : Int) (text name : ByteArray) (val : List EL) (ats : List AT) (v u : Value) (fr tu : Int) (w : World) (hT : TabU w)
    (hv : PatAt w val v) (hu : LieAt (TsAt w ats) u ats.length) (hnm : name.size ≤ 4000000) (htx : text.size ≤ 4000000) (hsz : sizeEs val + sizeTs ats ≤ qMax) :
    Calls Tryd.prog 8 #[entV ty level text name v u fr tu] w fun e w' => e = .returned (.bool (rightB ty level text name val ats)) ∧ Below w.heap.size w w' := by
  have hszz : sizeEs val + sizeTs ats ≤ 4000000 := hsz
  unfold rightB
  by_cases h0 : ty = 0
  · subst h0
    rw [if_pos rfl]
    obtain ⟨A, c, rfl, _⟩ := hv
    obtain ⟨A2, c2, rfl, _⟩ := hu
    have hC := fun W h => isComment_any 0 level text name A val.length c A2 ats.length c2 fr tu W htx h
    have HC := Lib.hid hC
    have HT := Lib.hid hT
    clear hC hT hsz hszz
    unfold entV
    unfold entV at HC
    go_enter Tryd.func8, Tryd.ntmps8
    go_wp2_with fail
    go_at_call 14
    refine (HC.out _ (HT.out.below ?hb)).mono ?_
    case hb => repeat' first | with_reducible exact Below.refl _ _ | with_reducible apply Below.setCell | with_reducible apply Below.alloc | (simp; done) | (simp; omega)
    rintro e w2 ⟨rfl, hb⟩
    have hbb : Below w.heap.size w w2 := by
      refine Below.trans ?_ (hb.mono (by simp; omega))
      repeat' first | with_reducible exact Below.refl _ _ | with_reducible apply Below.setCell | with_reducible apply Below.alloc | (simp; done) | (simp; omega)
    have HB := Lib.hid hbb
    clear hb hbb
    go_wp2
    go_ret
    exact ⟨rfl, HB.out⟩
  rw [if_neg h0]
  by_cases h1 : ty = 1 ∨ ty = 2
  · rw [if_pos h1]
    exact right_msg ty level h1 text name val ats v u fr tu w Ad (all_qc HCA hT) hT hv hu ⟨fun t p ht hvv => HCA t (by have := el_size ht; omega) hvv, fun _ _ _ => trivial⟩ (fun t l hm => ⟨fun t' p ht hvv => HCA t' (by have := el_size ht; have := at_size hm; omega) hvv, fun _ _ _ => trivial⟩) hnm hsz
  · rw [if_neg h1]
    obtain ⟨A, c, rfl, _⟩ := hv
    obtain ⟨A2, c2, rfl, _⟩ := hu
    have z0 : (ty == 0) = false := beq_eq_false_iff_ne.2 h0
    have z1 : (ty == 1) = false := beq_eq_false_iff_ne.2 (fun h => h1 (.inl h))
    have z2 : (ty == 2) = false := beq_eq_false_iff_ne.2 (fun h => h1 (.inr h))
    clear h0 h1 hsz hszz
    unfold entV
    go_enter Tryd.func8, Tryd.ntmps8
    go_wp2
    go_ret
    exact ⟨rfl, by repeat' first | with_reducible exact Below.refl _ _ | with_reducible apply Below.setCell | with_reducible apply Below.alloc | (simp; done) | (simp; omega)⟩
end Go.Proofs.YtmceblemiboedaaDoor
