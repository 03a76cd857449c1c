/-
  Several texts put together (part 21): what the law and the program call, walked; their contracts.
-/
import Derived.Test.YtpgiboblonlddaaGreatDoorQ5
import Derived.Lib.RuneCount
namespace Go.Proofs.YtpgiboblonlddaaGreatDoor
open Go.RowKit Go.ChangeMaps
set_option linter.unusedVariables false
set_option linter.unusedSimpArgs false
structure VV where
  kd : Int
  tx : ByteArray
  ng : Bool
  dg : ByteArray
  sc : Int
  mi : Int
  mf : Int
  xf : Int
  pl : Bool
  rk : Bool
  se : Int
  st : Int
def VV.cells (v : VV) : Array Value := #[.int .i64 v.kd, .string v.tx, .bool v.ng, .string v.dg, .int .i64 v.sc, .int .i64 v.mi, .int .i64 v.mf, .int .i64 v.xf, .bool v.pl, .bool v.rk, .int .i64 v.se, .int .i64 v.st]
def VV.v (v : VV) : Value := .agg v.cells
def strV (t : ByteArray) : VV := ⟨0, t, false, ⟨#[]⟩, 0, 0, 0, 0, false, false, 0, 0⟩
structure RSt where
  pl : Nat
  er : List (Int × ByteArray)
  ask : Nat
structure Ent where
  ty : Int
  lv : Int
  tx : ByteArray
  nm : ByteArray
  A1 : Option Addr
  n1 : Nat
  c1 : Nat
  A2 : Option Addr
  n2 : Nat
  c2 : Nat
  fr : Int
  tu : Int
  pat : ByteArray → Bool × List EL
def Ent.v (x : Ent) : Value := .agg #[.int .i64 x.ty, .int .i64 x.lv, .string x.tx, .string x.nm, .slice x.A1 x.n1 x.c1, .slice x.A2 x.n2 x.c2, .int .i64 x.fr, .int .i64 x.tu]
def noEnt : Ent := ⟨0, 0, ⟨#[]⟩, ⟨#[]⟩, none, 0, 0, none, 0, 0, 0, 0, fun _ => (false, [])⟩
structure RL where
  w0 : World
  b : Nat
  km : Nat
  wb : Nat
  ob : Nat
  lang : ByteArray
  ent : Bool → ByteArray → Option Ent
  wri : ByteArray → Option VV
  str : VV → Option (ByteArray × Nat)
abbrev Sc := List (ByteArray × VV)
def lookS (n : ByteArray) : Sc → Option VV
  | [] => none
  | y :: r => if y.1 = n then some y.2 else lookS n r
def exK : EX → Int | .mk k _ _ _ _ _ _ => k
def exT : EX → ByteArray | .mk _ t _ _ _ _ _ => t
def exN : EX → ByteArray | .mk _ _ n _ _ _ _ => n
def exA : EX → ByteArray | .mk _ _ _ a _ _ _ => a
def exI : EX → Option EX | .mk _ _ _ _ _ i _ => i
def joinN (n a : ByteArray) : ByteArray := if a.size = 0 then n else ⟨(n.data.toList ++ 46 :: a.data.toList).toArray⟩
def nameK (k : Int) (n a : ByteArray) : ByteArray :=
  if k = 2 then ⟨(36 :: n.data.toList).toArray⟩
  else if k = 3 then joinN n a
  else if k = 4 then ⟨(45 :: (joinN n a).data.toList).toArray⟩
  else if k = 5 then ⟨(n.data.toList ++ [40, 41]).toArray⟩ else ⟨#[]⟩
def nameE (e : EX) : ByteArray := nameK (exK e) (exN e) (exA e)
def leftB : ByteArray := ⟨#[123, 63, 125]⟩
def bracB (n : ByteArray) : ByteArray := ⟨(123 :: n.data.toList ++ [125]).toArray⟩
def badG (c : Int) (n : ByteArray) (s : RSt) : Option RSt := if s.er.length < 100000 then some ⟨s.pl, s.er ++ [(c, n)], s.ask⟩ else none
abbrev PlG := EX → Sc → List ByteArray → RSt → Option (ByteArray × RSt)
def patG (pl : EX → RSt → Option (ByteArray × RSt)) : List EL → List UInt8 → RSt → Option (List UInt8 × RSt)
  | [], o, s => some (o, s)
  | .mk t none :: r, o, s => if o.length + t.size ≤ 100000000000 then patG pl r (o ++ t.data.toList) s else none
  | .mk t (some e) :: r, o, s =>
    match pl e s with
    | none => none
    | some q => if o.length + q.1.size ≤ 100000000000 then patG pl r (o ++ q.1.data.toList) q.2 else none
def namedG (P : PlG) (name : ByteArray) (l : List EL) (a : Sc) (op : List ByteArray) (s : RSt) : Option (ByteArray × RSt) :=
  match patG (fun e s => P e a (op ++ [name]) s) l [] s with
  | none => none
  | some q => some (⟨q.1.toArray⟩, q.2)
def refG (P : PlG) (e : EX) (x : Ent) (a : Sc) (op : List ByteArray) (s : RSt) : Option (Option VV × RSt) :=
  if (x.pat (exA e)).1 = false then (badG 4 (nameE e) s).map fun s => (none, s)
  else if memB (nameE e) op = true then (badG 7 (nameE e) s).map fun s => (none, s)
  else (namedG P (nameE e) (x.pat (exA e)).2 a op s).map fun q => (some (strV q.1), q.2)
def valG (R : RL) (P : PlG) (e : EX) (a : Sc) (op : List ByteArray) (s : RSt) : Option (Option VV × RSt) :=
  if exK e = 0 then some (some (strV (exT e)), s)
  else if exK e = 1 then (R.wri (exT e)).map fun v => (some v, s)
  else if exK e = 2 then
    match lookS (exN e) a with
    | some v => some (some v, s)
    | none => (badG 1 (nameE e) s).map fun s => (none, s)
  else if exK e = 3 then
    match R.ent false (exN e) with
    | some x => refG P e x a op s
    | none => (badG 2 (nameE e) s).map fun s => (none, s)
  else if exK e = 6 then
    match exI e with
    | some i => (P i a op s).map fun q => (some (strV q.1), q.2)
    | none => none
  else none
def exprG (R : RL) (P : PlG) (e : EX) (a : Sc) (op : List ByteArray) (s : RSt) : Option (ByteArray × RSt) :=
  match valG R P e a op s with
  | none => none
  | some (some v, s) =>
    match R.str v with
    | none => none
    | some t => if s.ask ≤ 800 ∧ t.1.size ≤ 100000000000 then some (t.1, ⟨s.pl, s.er, s.ask + t.2⟩) else none
  | some (none, s) => some (bracB (nameE e), s)
def placeG (R : RL) : Nat → PlG
  | 0 => fun _ _ _ _ => none
  | n + 1 => fun e a op s =>
    if s.pl = 100 then (badG 8 ⟨#[63]⟩ ⟨s.pl + 1, s.er, s.ask⟩).map fun s => (leftB, s)
    else if 100 < s.pl then (if s.pl ≤ 1000000000 then some (leftB, ⟨s.pl + 1, s.er, s.ask⟩) else none)
    else
      match exprG R (placeG R n) e a op ⟨s.pl + 1, s.er, s.ask⟩ with
      | none => none
      | some q => if 2500 < Lib.runeCount q.1 then (badG 9 ⟨#[63]⟩ q.2).map fun s => (leftB, s) else some q
def erC (l : List (Int × ByteArray)) : List Value := l.flatMap fun p => [.int .i64 p.1, .string p.2]
theorem erC_snoc (l : List (Int × ByteArray)) (c : Int) (n : ByteArray) : erC (l ++ [(c, n)]) = erC l ++ [.int .i64 c, .string n] := by
  unfold erC
  rw [List.flatMap_append]
  rfl
def NotErr (w : World) (k : Nat) : Prop := ∀ cs fz, w.heap[k]? ≠ some (.cells cs 59 fz)
structure WK (R : RL) (w w' : World) : Prop where
  low : Below R.w0.heap.size w w'
  own : ∀ k, k < w.heap.size → k ≠ R.wb → k ≠ R.ob → k ≠ R.km → NotErr w k → w'.heap[k]? = w.heap[k]?
theorem WK.refl (R : RL) (w : World) : WK R w w := ⟨Below.refl _ _, fun _ _ _ _ _ _ => rfl⟩
theorem WK.trans {R : RL} {a b c : World} (h : WK R a b) (g : WK R b c) : WK R a c :=
  ⟨h.low.trans g.low, fun k hk h1 h2 h3 h4 => by
    have e := h.own k hk h1 h2 h3 h4
    exact (g.own k (Nat.lt_of_lt_of_le hk h.low.size) h1 h2 h3 (fun cs fz => by rw [e]; exact h4 cs fz)).trans e⟩
theorem WK.of_below {R : RL} {w w' : World} (h : Below w.heap.size w w') (hs : R.w0.heap.size ≤ w.heap.size) : WK R w w' := ⟨h.mono hs, fun k hk _ _ _ _ => h.block k hk⟩
theorem WK.of_kp {R : RL} {w w' : World} (h : Kp R.km w w') (hs : R.w0.heap.size ≤ R.km) : WK R w w' := ⟨h.below.mono hs, fun k hk _ _ h3 _ => h.others k hk h3⟩
theorem WK.size {R : RL} {w w' : World} (h : WK R w w') : w.heap.size ≤ w'.heap.size := h.low.size
theorem WK.keeps {R : RL} {w w' : World} (h : WK R w w') {k : Nat} {o : Obj} (hk : w.heap[k]? = some o) (h1 : k ≠ R.wb) (h2 : k ≠ R.ob) (h3 : k ≠ R.km) (ho : ∀ cs fz, o ≠ .cells cs 59 fz) : w'.heap[k]? = some o :=
  (h.own k (Array.getElem?_eq_some_iff.1 hk).1 h1 h2 h3 (fun cs fz e => by rw [hk] at e; cases e; exact ho cs fz rfl)).trans hk
def openE (L : List (ByteArray × Nat)) : Array MapEntry := (L.map fun p => ({ key := .string p.1, val := .agg #[], born := p.2 } : MapEntry)).toArray
def OpenAt (W : World) (ob : Nat) (op : List ByteArray) : Prop := ∃ (L : List (ByteArray × Nat)) (c : Nat), MapAt W ob (openE L) c ∧ L.map (·.1) = op
theorem OpenAt.lt {W : World} {ob : Nat} {op : List ByteArray} (h : OpenAt W ob op) : ob < W.heap.size := by
  obtain ⟨L, c, h, _⟩ := h
  exact h.lt
def wrC (R : RL) (p : Nat) (ev : Value) : Array Value := #[.pointer (some ⟨R.b, 0, none⟩), .pointer (some ⟨R.km, 0, none⟩), .string R.lang, .map (some R.ob), .int .i64 (p : Int), ev]
structure RL.Far (R : RL) : Prop where
  wb : R.w0.heap.size ≤ R.wb
  ob : R.w0.heap.size ≤ R.ob
  km : R.w0.heap.size ≤ R.km
  n1 : R.wb ≠ R.ob
  n2 : R.wb ≠ R.km
  n3 : R.ob ≠ R.km
structure WrAt (R : RL) (W : World) (op : List ByteArray) (s : RSt) : Prop where
  bf : Below R.w0.heap.size R.w0 W
  box : ∃ ev, BoxAt W R.wb (wrC R s.pl ev) 96 ∧ W.ownsRow R.w0.heap.size 59 2 ev s.er.length (erC s.er)
  om : OpenAt W R.ob op
  ms : ∃ made, MarksAt W R.km made s.ask
theorem row_later {W W' : World} {B n : Nat} {t : TypeId} {v : Value} {xs : List Value} (h : W.ownsRow B t 2 v n xs) (hk : ∀ g, B ≤ g → (∃ cs fz, W.heap[g]? = some (.cells cs t fz)) → W'.heap[g]? = W.heap[g]?) : W'.ownsRow B t 2 v n xs := by
  obtain ⟨h1, h2⟩ := h
  refine ⟨h1, ?_⟩
  rcases h2 with h2 | ⟨g, cap, cur, hv, hg, hh, r⟩
  · exact .inl h2
  · exact .inr ⟨g, cap, cur, hv, hg, (hk g hg ⟨cur, _, hh⟩).trans hh, r⟩
theorem marks_kept {W W' : World} {mk n : Nat} {made : Bool} (h : MarksAt W mk made n) {ob : Nat} {op : List ByteArray} (ho : OpenAt W ob op) (hk : ∀ k o, W.heap[k]? = some o → k ≠ ob → (k = mk ∨ ∃ es c, o = .map es c) → W'.heap[k]? = some o) (hn : mk ≠ ob) : MarksAt W' mk made n := by
  obtain ⟨x, h1, h2⟩ := h
  refine ⟨x, hk mk _ h1 hn (.inl rfl), fun hm => ?_⟩
  obtain ⟨mb, e1, e2, e3⟩ := h2 hm
  refine ⟨mb, e1, e2, hk mb _ e3 (fun e => ?_) (.inr ⟨_, _, rfl⟩)⟩
  obtain ⟨L, c, h3, _⟩ := ho
  subst e
  have h4 : W.heap[mb]? = some (.map (openE L) c) := h3
  rw [e3] at h4
  simp only [Option.some.injEq, Obj.map.injEq] at h4
  have h5 := congrArg (fun a => a[0]?.map (fun e : MapEntry => e.val)) h4.1
  have h6 : (tabE 8)[0]?.map (fun e : MapEntry => e.val) ≠ some (.agg #[]) := by
    intro h
    have : (tabE 8)[0]?.map (fun e : MapEntry => match e.val with | .agg c => c.size | _ => 0) = some 2 := by kernel_rfl
    cases h7 : (tabE 8)[0]? with
    | none => rw [h7] at h; cases h
    | some z =>
      rw [h7] at h this
      simp only [Option.map_some, Option.some.injEq] at h this
      rw [h] at this
      simp at this
  apply h6
  refine h5.trans ?_
  have hL : (tabE 8).size = (openE L).size := congrArg Array.size h4.1
  cases L with
  | nil =>
    have : (tabE 8).size = 8 := by kernel_rfl
    rw [this] at hL
    simp [openE] at hL
  | cons y r => simp [openE]
end Go.Proofs.YtpgiboblonlddaaGreatDoor

namespace Go.Proofs.YtpgiboblonlddaaGreatDoor
open Go.RowKit Go.ChangeMaps
set_option linter.unusedVariables false
set_option linter.unusedSimpArgs false
variable {R : RL} {W W' : World} {op : List ByteArray} {s : RSt}
theorem WrAt.later (h : WrAt R W op s) (hb : Below W.heap.size W W') : WrAt R W' op s := by
  obtain ⟨h1, ⟨ev, h2, h3⟩, ⟨L, c, h4, h5⟩, ⟨made, h6⟩⟩ := h
  exact ⟨h1.trans (hb.mono h1.size), ⟨ev, h2.later hb, row_later h3 (fun g hg hc => by obtain ⟨cs, fz, hc⟩ := hc; exact hb.block g (Array.getElem?_eq_some_iff.1 hc).1)⟩, ⟨L, c, h4.later hb, h5⟩, ⟨made, h6.later hb⟩⟩
theorem WrAt.wk (h : WrAt R W op s) (hb : Below W.heap.size W W') : WK R W W' := WK.of_below hb h.bf.size
theorem WrAt.upd (F : R.Far) (h : WrAt R W op s) {s' : RSt} {op' : List ByteArray} (hb : Below R.w0.heap.size W W') (hbox : ∃ ev, BoxAt W' R.wb (wrC R s'.pl ev) 96 ∧ W'.ownsRow R.w0.heap.size 59 2 ev s'.er.length (erC s'.er))
    (hom : OpenAt W' R.ob op') (hk : ∀ k o, W.heap[k]? = some o → k ≠ R.wb → k ≠ R.ob → (∀ cs fz, o ≠ .cells cs 59 fz) → W'.heap[k]? = some o) (has : s'.ask = s.ask) : WrAt R W' op' s' ∧ WK R W W' := by
  obtain ⟨h1, ⟨ev, h2, h3⟩, hop, ⟨made, h6⟩⟩ := h
  refine ⟨⟨h1.trans hb, hbox, hom, made, ?_⟩, hb, fun k hkl k1 k2 k3 k4 => ?_⟩
  · rw [has]
    refine marks_kept h6 hop (fun k o hko hne hor => hk k o hko (fun e => ?_) hne (fun cs fz e => ?_)) (fun e => F.n3 e.symm)
    · subst e
      rcases hor with e | ⟨es, c, rfl⟩
      · exact F.n2 e
      · have h4 : W.heap[R.wb]? = some _ := h2
        rw [hko] at h4
        cases h4
    · subst e
      rcases hor with rfl | ⟨es, c, e⟩
      · obtain ⟨x, h7, _⟩ := h6
        have h8 : W.heap[R.km]? = some _ := h7
        rw [hko] at h8
        simp only [Option.some.injEq, Obj.cells.injEq] at h8
        exact absurd h8.2.1 (by decide)
      · cases e
  · obtain ⟨o, ho⟩ : ∃ o, W.heap[k]? = some o := ⟨_, Array.getElem?_eq_getElem hkl⟩
    rw [ho]
    exact hk k o ho k1 k2 (fun cs fz e => k4 cs fz (by rw [ho, e]))
abbrev zVal : Array Value := #[.int .i64 0, .string ⟨#[]⟩, .bool false, .string ⟨#[]⟩, .int .i64 0, .int .i64 0, .int .i64 0, .int .i64 0, .bool false, .bool false, .int .i64 0, .int .i64 0]
theorem cell_lt {w : World} {b o : Nat} {v : Value} (h : w.cell? ⟨b, o, none⟩ = some v) : b < w.heap.size := by
  unfold World.cell? at h
  dsimp only at h
  cases h1 : w.heap[b]? with
  | none => rw [h1] at h; cases h
  | some x => exact (Array.getElem?_eq_some_iff.1 h1).1
theorem box_ne {k g : Nat} {cs cs' : Array Value} {t t' : TypeId} {fz : Nat × Nat} (h : BoxAt W k cs t) (hg : W.heap[g]? = some (.cells cs' t' fz)) (ht : t ≠ t') : k ≠ g := by
  rintro rfl
  have h4 : W.heap[k]? = some _ := h
  rw [hg] at h4
  simp only [Option.some.injEq, Obj.cells.injEq] at h4
  exact ht h4.2.1.symm
theorem OpenAt.other (h : OpenAt W R.ob op) (hk : W'.heap[R.ob]? = W.heap[R.ob]?) : OpenAt W' R.ob op := by
  obtain ⟨L, c, h, e⟩ := h
  exact ⟨L, c, hk.trans h, e⟩
theorem WrAt.places (F : R.Far) (h : WrAt R W op s) (p : Nat) : WrAt R (W.setCell ⟨R.wb, 4, none⟩ (.int .i64 (p : Int))) op ⟨p, s.er, s.ask⟩ ∧ WK R W (W.setCell ⟨R.wb, 4, none⟩ (.int .i64 (p : Int))) := by
  have hh := h
  obtain ⟨h1, ⟨ev, h2, h3⟩, hop, _⟩ := h
  refine WrAt.upd F hh ((Below.refl _ _).setCell (p := ⟨R.wb, 4, none⟩) F.wb _) ⟨ev, h2.set 4 _, row_later h3 (fun g hg hc => ?_)⟩ (hop.other (Below.heap_setCell _ _ _ _ (fun e => F.n1 e.symm))) (fun k o hko k1 k2 _ => (Below.heap_setCell _ _ _ _ k1).trans hko) rfl
  obtain ⟨cs, fz, hc⟩ := hc
  exact Below.heap_setCell _ _ _ _ (fun e => box_ne h2 hc (by decide) e.symm)
theorem WrAt.err (F : R.Far) (h : WrAt R W op s) {ev : Value} (hbx : BoxAt W R.wb (wrC R s.pl ev) 96) (hrow : W.ownsRow R.w0.heap.size 59 2 ev s.er.length (erC s.er)) (c : Int) (n : ByteArray) {W2 : World} {v' : Value}
    (hg : W.grownBy W2 ev.ownBlock) (hown : W2.ownsRow R.w0.heap.size 59 2 v' (s.er.length + 1) (erC s.er ++ [.int .i64 c, .string n])) :
    WrAt R (W2.setCell ⟨R.wb, 5, none⟩ v') op ⟨s.pl, s.er ++ [(c, n)], s.ask⟩ ∧ WK R W (W2.setCell ⟨R.wb, 5, none⟩ v') := by
  have hh := h
  obtain ⟨h1, _, hop, _⟩ := h
  have hek : ∀ g, ev.ownBlock = some g → ∃ cs fz, W.heap[g]? = some (.cells cs 59 fz) := Lib.ownsRow_kind hrow
  have hkeep : ∀ (k : Nat) (o : Obj), W.heap[k]? = some o → (∀ cs fz, o ≠ .cells cs 59 fz) → W2.heap[k]? = some o := fun k o hko hn => by
    rw [hg.block k (Array.getElem?_eq_some_iff.1 hko).1 (fun e => ?_)]
    · exact hko
    · obtain ⟨cs, fz, h4⟩ := hek k e.symm
      rw [hko] at h4
      cases h4
      exact hn cs fz rfl
  have hwb2 : BoxAt W2 R.wb (wrC R s.pl ev) 96 := hkeep _ _ hbx (fun cs fz e => absurd (Obj.cells.inj e).2.1 (by decide))
  refine WrAt.upd F hh (s' := ⟨s.pl, s.er ++ [(c, n)], s.ask⟩) (((Below.refl _ W).grown hg h1.size (fun k hk => (hrow.lt k hk).1)).setCell (p := ⟨R.wb, 5, none⟩) F.wb _) ⟨v', hwb2.set 5 _, ?_⟩ (hop.other ?_) (fun k o hko k1 k2 hn => (Below.heap_setCell _ _ _ _ k1).trans (hkeep k o hko hn)) rfl
  · show World.ownsRow _ _ _ _ _ (s.er ++ [(c, n)]).length (erC (s.er ++ [(c, n)]))
    rw [erC_snoc, List.length_append]
    refine row_later hown (fun g hg hc => ?_)
    obtain ⟨cs, fz, hc⟩ := hc
    exact Below.heap_setCell _ _ _ _ (fun e => box_ne hwb2 hc (by decide) e.symm)
  · rw [Below.heap_setCell _ _ _ _ (fun e => F.n1 e.symm)]
    obtain ⟨L, c, h4, _⟩ := hop
    have h5 : W.heap[R.ob]? = some _ := h4
    rw [h5]
    exact hkeep _ _ h5 (fun cs fz e => by cases e)
theorem WrAt.str (F : R.Far) (h : WrAt R W op s) {made : Bool} {n : Nat} (hk : Kp R.km W W') (hm : MarksAt W' R.km made n) : WrAt R W' op ⟨s.pl, s.er, n⟩ ∧ WK R W W' := by
  obtain ⟨h1, ⟨ev, h2, h3⟩, hop, ⟨m0, x, h6, _⟩⟩ := h
  have hwk := WK.of_kp hk F.km
  refine ⟨⟨h1.trans hwk.low, ⟨ev, h2.kp hk F.n2, row_later h3 (fun g hg hc => ?_)⟩, hop.other (hk.others _ hop.lt F.n3), made, hm⟩, hwk⟩
  obtain ⟨cs, fz, hc⟩ := hc
  exact hk.others g (Array.getElem?_eq_some_iff.1 hc).1 (fun e => box_ne h6 hc (by decide) e.symm)
def mkO (p : ByteArray × Nat) : MapEntry := { key := .string p.1, val := .agg #[], born := p.2 }
theorem openE_list (L : List (ByteArray × Nat)) : (openE L).toList = L.map mkO := by unfold openE; rfl
theorem find_open (nm : ByteArray) : ∀ (L : List (ByteArray × Nat)) (j : Nat), ∃ r, Instr.findNow .string (.string nm) (L.map mkO) j = some r ∧ r.isSome = memB nm (L.map (·.1)) ∧ ∀ q, r = some q → q.2 = .agg #[]
  | [], j => ⟨none, rfl, by simp [memB], fun q h => by cases h⟩
  | y :: L, j => by
    have e0 : Instr.findNow .string (.string nm) ((y :: L).map mkO) j = (match (some (nm == y.1) : Option Bool) with | some true => some (some (j, .agg #[])) | some false => Instr.findNow .string (.string nm) (L.map mkO) (j + 1) | none => none) := rfl
    rw [e0]
    cases hb : (nm == y.1) with
    | true =>
      have := beqT.1 hb
      exact ⟨some (j, .agg #[]), rfl, by simp [memB, this], fun q h => by cases h; rfl⟩
    | false =>
      obtain ⟨r, h1, h2, h3⟩ := find_open nm L (j + 1)
      refine ⟨r, h1, ?_, h3⟩
      rw [h2]
      have hne : ¬ nm = y.1 := fun e => by rw [beqT.2 e] at hb; cases hb
      simp [memB, hne]
theorem find_last (nm : ByteArray) (c : Nat) : ∀ (L : List (ByteArray × Nat)) (j : Nat), nm ∉ L.map (·.1) → Instr.findNow .string (.string nm) ((L ++ [(nm, c)]).map mkO) j = some (some (j + L.length, .agg #[]))
  | [], j, _ => by
    have e0 : Instr.findNow .string (.string nm) (([] ++ [(nm, c)]).map mkO) j = (match (some (nm == nm) : Option Bool) with | some true => some (some (j, .agg #[])) | some false => Instr.findNow .string (.string nm) [] (j + 1) | none => none) := rfl
    rw [e0, beqT.2 rfl]
    rfl
  | y :: L, j, h => by
    have e0 : Instr.findNow .string (.string nm) (((y :: L) ++ [(nm, c)]).map mkO) j = (match (some (nm == y.1) : Option Bool) with | some true => some (some (j, .agg #[])) | some false => Instr.findNow .string (.string nm) ((L ++ [(nm, c)]).map mkO) (j + 1) | none => none) := rfl
    rw [e0]
    have hne : (nm == y.1) = false := by
      cases hb : (nm == y.1) with
      | false => rfl
      | true => exact absurd (List.mem_map.2 ⟨y, List.mem_cons_self .., (beqT.1 hb).symm⟩) h
    rw [hne]
    have := find_last nm c L (j + 1) (fun g => h (by rw [List.map_cons]; exact List.mem_cons_of_mem _ g))
    show Instr.findNow .string (.string nm) ((L ++ [(nm, c)]).map mkO) (j + 1) = _
    rw [this, List.length_cons, show j + 1 + L.length = j + (L.length + 1) by omega]
theorem run_del {P : Program} {t k e : TypeId} (ht : P.underlying t = some (.map k e)) (hk : P.underlying k = some .string) (w : World) (b : Nat) (es : Array MapEntry) (c : Nat) (hb : w.heap[b]? = some (.map es c)) (s : ByteArray) (i : Nat) (v : Value)
    (hn : Instr.findNow .string (.string s) es.toList 0 = some (some (i, v))) (k2 ty : TypeId) :
    (Builtin.delete_ #[t, k2] ty #[.map (some b), .string s]).run P w = .ok (.tuple #[]) (setBlock w b (.map (es.eraseIdxIfInBounds i) c)) := by
  have h1 : (Instr.findKey k (.string s) es.toList).run P w = .ok (some (i, v)) w := by
    simp [Instr.findKey, run_underlying hk, hn, Result.andThen]
  have hc := check_str hk w es.isEmpty s
  simp [Builtin.delete_, run_underlying ht, MapKept.run_getObj_map hb, hc, h1, MapKept.run_setObj_map _ hb, Result.andThen, setBlock]
theorem setBlock_ne {w : World} {b k : Nat} (o : Obj) (h : k ≠ b) : (setBlock w b o).heap[k]? = w.heap[k]? := by
  show (w.heap.setIfInBounds b o)[k]? = _
  rw [Array.getElem?_setIfInBounds_ne (fun e => h e.symm)]
theorem setBlock_at {w : World} {b : Nat} {o : Obj} (h : b < w.heap.size) : (setBlock w b o).heap[b]? = some o := by
  show (w.heap.setIfInBounds b o)[b]? = _
  simp [h]
theorem WrAt.opened (F : R.Far) (h : WrAt R W op s) {op' : List ByteArray} {L : List (ByteArray × Nat)} {c : Nat} (he : L.map (·.1) = op') : WrAt R (setBlock W R.ob (.map (openE L) c)) op' s ∧ WK R W (setBlock W R.ob (.map (openE L) c)) := by
  have hh := h
  obtain ⟨h1, ⟨ev, h2, h3⟩, hop, _⟩ := h
  have hl := hop.lt
  refine WrAt.upd F hh (s' := s) ⟨rfl, rfl, rfl, by simp [setBlock], fun k hk => setBlock_ne _ (by have := F.ob; omega)⟩ ⟨ev, (setBlock_ne _ F.n1).trans h2, row_later h3 (fun g hg hc => setBlock_ne _ (fun e => ?_))⟩ ⟨L, c, setBlock_at hl, he⟩ (fun k o hko k1 k2 _ => (setBlock_ne _ k2).trans hko) rfl
  obtain ⟨cs, fz, hc⟩ := hc
  obtain ⟨L', c', h4, _⟩ := hop
  have h5 : W.heap[R.ob]? = some _ := h4
  rw [← e, hc] at h5
  cases h5
def ExW (R : RL) (e : EX) (b o : Nat) : Prop := b < R.w0.heap.size ∧ ∃ c, CellsAt R.w0 b o c ∧ ExAt R.w0 e c
def PatW (R : RL) (W : World) (l : List EL) (A : Option Addr) (c : Nat) : Prop :=
  0 < l.length → ∃ g o, A = some ⟨g, o, none⟩ ∧ (g < R.w0.heap.size ∨ (g < W.heap.size ∧ g ≠ R.wb ∧ g ≠ R.ob ∧ g ≠ R.km ∧ NotErr W g)) ∧
    ∀ j t p, l[j]? = some (.mk t p) → W.cell? ⟨g, o + j * 2, none⟩ = some (.string t) ∧ ((p = none ∧ W.cell? ⟨g, o + j * 2 + 1, none⟩ = some (.pointer none)) ∨ ∃ e eb eo, p = some e ∧ W.cell? ⟨g, o + j * 2 + 1, none⟩ = some (.pointer (some ⟨eb, eo, none⟩)) ∧ ExW R e eb eo)
theorem PatW.wk {l : List EL} {A : Option Addr} {c : Nat} (h : PatW R W l A c) (g : WK R W W') : PatW R W' l A c := by
  intro h0
  obtain ⟨b, o, rfl, hb, hc⟩ := h h0
  have hs : W'.heap[b]? = W.heap[b]? := by
    rcases hb with hb | ⟨h1, h2, h3, h4, h5⟩
    · exact g.low.block b hb
    · exact g.own b h1 h2 h3 h4 h5
  refine ⟨b, o, rfl, ?_, fun j t p hj => ?_⟩
  · rcases hb with hb | ⟨h1, h2, h3, h4, h5⟩
    · exact .inl hb
    · exact .inr ⟨Nat.lt_of_lt_of_le h1 g.size, h2, h3, h4, fun cs fz => by rw [hs]; exact h5 cs fz⟩
  · obtain ⟨k1, k2⟩ := hc j t p hj
    refine ⟨(cell_same hs _).trans k1, ?_⟩
    rcases k2 with ⟨k2, k3⟩ | ⟨e, eb, eo, k2, k3, k4⟩
    · exact .inl ⟨k2, (cell_same hs _).trans k3⟩
    · exact .inr ⟨e, eb, eo, k2, (cell_same hs _).trans k3, k4⟩
def ScAt (R : RL) (W : World) (a : Sc) (v : Value) : Prop :=
  (a = [] ∧ v = .map none) ∨ ∃ b c, v = .map (some b) ∧ b ≠ R.ob ∧ b ≠ R.km ∧ MapAt W b (a.zipIdx.map fun p => ({ key := .string p.1.1, val := p.1.2.v, born := p.2 } : MapEntry)).toArray c
theorem ScAt.wk {a : Sc} {v : Value} (F : R.Far) (h : ScAt R W a v) (hw : WrAt R W op s) (g : WK R W W') : ScAt R W' a v := by
  rcases h with h | ⟨b, c, rfl, h1, h2, h3⟩
  · exact .inl h
  · obtain ⟨ev, h4, _⟩ := hw.box
    refine .inr ⟨b, c, rfl, h1, h2, g.keeps h3 (fun e => ?_) h1 h2 (fun cs fz e => by cases e)⟩
    subst e
    have h5 : W.heap[R.wb]? = some _ := h4
    have h6 : W.heap[R.wb]? = some _ := h3
    rw [h5] at h6
    cases h6
theorem ScAt.later {a : Sc} {v : Value} (h : ScAt R W a v) (g : Below W.heap.size W W') : ScAt R W' a v := by
  rcases h with h | ⟨b, c, rfl, h1, h2, h3⟩
  · exact .inl h
  · exact .inr ⟨b, c, rfl, h1, h2, h3.later g⟩
theorem find_sc (nm : ByteArray) : ∀ (a : Sc) (i j : Nat), ∃ r, Instr.findNow .string (.string nm) ((a.zipIdx i).map fun p => ({ key := .string p.1.1, val := p.1.2.v, born := p.2 } : MapEntry)) j = some r ∧ r.map (·.2) = (lookS nm a).map VV.v
  | [], i, j => ⟨none, rfl, rfl⟩
  | y :: a, i, j => by
    rw [List.zipIdx_cons, List.map_cons]
    have e0 : ∀ rest, Instr.findNow .string (.string nm) (({ key := .string y.1, val := y.2.v, born := i } : MapEntry) :: rest) j = (match (some (nm == y.1) : Option Bool) with | some true => some (some (j, y.2.v)) | some false => Instr.findNow .string (.string nm) rest (j + 1) | none => none) := fun _ => rfl
    rw [e0, lookS]
    cases hb : (nm == y.1) with
    | true => rw [if_pos (beqT.1 hb).symm]; exact ⟨_, rfl, rfl⟩
    | false =>
      rw [if_neg (fun e => by rw [beqT.2 e.symm] at hb; cases hb)]
      exact find_sc nm a (i + 1) (j + 1)
end Go.Proofs.YtpgiboblonlddaaGreatDoor

namespace Go.Proofs.YtpgiboblonlddaaGreatDoor
open Go.RowKit Go.ChangeMaps
set_option linter.unusedVariables false
set_option linter.unusedSimpArgs false
def set12 (w : World) (b : Nat) (x0 x1 x2 x3 x4 x5 x6 x7 x8 x9 x10 x11 : Value) : World := (((((((((((w.setCell ⟨b, 0, none⟩ x0).setCell ⟨b, 1, none⟩ x1).setCell ⟨b, 2, none⟩ x2).setCell ⟨b, 3, none⟩ x3).setCell ⟨b, 4, none⟩ x4).setCell ⟨b, 5, none⟩ x5).setCell ⟨b, 6, none⟩ x6).setCell ⟨b, 7, none⟩ x7).setCell ⟨b, 8, none⟩ x8).setCell ⟨b, 9, none⟩ x9).setCell ⟨b, 10, none⟩ x10).setCell ⟨b, 11, none⟩ x11
theorem set12_heap (w : World) (b : Nat) (x0 x1 x2 x3 x4 x5 x6 x7 x8 x9 x10 x11 : Value) (k : Nat) (hk : k ≠ b) : (set12 w b x0 x1 x2 x3 x4 x5 x6 x7 x8 x9 x10 x11).heap[k]? = w.heap[k]? := by
  unfold set12
  rw [Below.heap_setCell _ _ _ k hk, Below.heap_setCell _ _ _ k hk, Below.heap_setCell _ _ _ k hk, Below.heap_setCell _ _ _ k hk, Below.heap_setCell _ _ _ k hk, Below.heap_setCell _ _ _ k hk, Below.heap_setCell _ _ _ k hk, Below.heap_setCell _ _ _ k hk, Below.heap_setCell _ _ _ k hk, Below.heap_setCell _ _ _ k hk, Below.heap_setCell _ _ _ k hk, Below.heap_setCell _ _ _ k hk]
theorem set12_low (w : World) (b : Nat) (x0 x1 x2 x3 x4 x5 x6 x7 x8 x9 x10 x11 : Value) {B : Nat} (hb : B ≤ b) : Below B w (set12 w b x0 x1 x2 x3 x4 x5 x6 x7 x8 x9 x10 x11) :=
  by
    unfold set12
    exact (((((((((((((Below.refl _ _).setCell (p := ⟨b, 0, none⟩) hb x0).setCell (p := ⟨b, 1, none⟩) hb x1).setCell (p := ⟨b, 2, none⟩) hb x2).setCell (p := ⟨b, 3, none⟩) hb x3).setCell (p := ⟨b, 4, none⟩) hb x4).setCell (p := ⟨b, 5, none⟩) hb x5).setCell (p := ⟨b, 6, none⟩) hb x6).setCell (p := ⟨b, 7, none⟩) hb x7).setCell (p := ⟨b, 8, none⟩) hb x8).setCell (p := ⟨b, 9, none⟩) hb x9).setCell (p := ⟨b, 10, none⟩) hb x10).setCell (p := ⟨b, 11, none⟩) hb x11)
set_option maxHeartbeats 2000000 in
theorem box_set12 {w : World} {E : Nat} {x0 x1 x2 x3 x4 x5 x6 x7 x8 x9 x10 x11 : Value} {t : TypeId} (h : BoxAt w E #[x0, x1, x2, x3, x4, x5, x6, x7, x8, x9, x10, x11] t) (y0 y1 y2 y3 y4 y5 y6 y7 y8 y9 y10 y11 : Value) :
    BoxAt (set12 w E y0 y1 y2 y3 y4 y5 y6 y7 y8 y9 y10 y11) E #[y0, y1, y2, y3, y4, y5, y6, y7, y8, y9, y10, y11] t := by
  have h0 := h
  have h1 : BoxAt (w.setCell ⟨E, 0, none⟩ y0) E #[y0, x1, x2, x3, x4, x5, x6, x7, x8, x9, x10, x11] t := h0.set 0 y0
  have h2 : BoxAt ((w.setCell ⟨E, 0, none⟩ y0).setCell ⟨E, 1, none⟩ y1) E #[y0, y1, x2, x3, x4, x5, x6, x7, x8, x9, x10, x11] t := h1.set 1 y1
  have h3 : BoxAt (((w.setCell ⟨E, 0, none⟩ y0).setCell ⟨E, 1, none⟩ y1).setCell ⟨E, 2, none⟩ y2) E #[y0, y1, y2, x3, x4, x5, x6, x7, x8, x9, x10, x11] t := h2.set 2 y2
  have h4 : BoxAt ((((w.setCell ⟨E, 0, none⟩ y0).setCell ⟨E, 1, none⟩ y1).setCell ⟨E, 2, none⟩ y2).setCell ⟨E, 3, none⟩ y3) E #[y0, y1, y2, y3, x4, x5, x6, x7, x8, x9, x10, x11] t := h3.set 3 y3
  have h5 : BoxAt (((((w.setCell ⟨E, 0, none⟩ y0).setCell ⟨E, 1, none⟩ y1).setCell ⟨E, 2, none⟩ y2).setCell ⟨E, 3, none⟩ y3).setCell ⟨E, 4, none⟩ y4) E #[y0, y1, y2, y3, y4, x5, x6, x7, x8, x9, x10, x11] t := h4.set 4 y4
  have h6 : BoxAt ((((((w.setCell ⟨E, 0, none⟩ y0).setCell ⟨E, 1, none⟩ y1).setCell ⟨E, 2, none⟩ y2).setCell ⟨E, 3, none⟩ y3).setCell ⟨E, 4, none⟩ y4).setCell ⟨E, 5, none⟩ y5) E #[y0, y1, y2, y3, y4, y5, x6, x7, x8, x9, x10, x11] t := h5.set 5 y5
  have h7 : BoxAt (((((((w.setCell ⟨E, 0, none⟩ y0).setCell ⟨E, 1, none⟩ y1).setCell ⟨E, 2, none⟩ y2).setCell ⟨E, 3, none⟩ y3).setCell ⟨E, 4, none⟩ y4).setCell ⟨E, 5, none⟩ y5).setCell ⟨E, 6, none⟩ y6) E #[y0, y1, y2, y3, y4, y5, y6, x7, x8, x9, x10, x11] t := h6.set 6 y6
  have h8 : BoxAt ((((((((w.setCell ⟨E, 0, none⟩ y0).setCell ⟨E, 1, none⟩ y1).setCell ⟨E, 2, none⟩ y2).setCell ⟨E, 3, none⟩ y3).setCell ⟨E, 4, none⟩ y4).setCell ⟨E, 5, none⟩ y5).setCell ⟨E, 6, none⟩ y6).setCell ⟨E, 7, none⟩ y7) E #[y0, y1, y2, y3, y4, y5, y6, y7, x8, x9, x10, x11] t := h7.set 7 y7
  have h9 : BoxAt (((((((((w.setCell ⟨E, 0, none⟩ y0).setCell ⟨E, 1, none⟩ y1).setCell ⟨E, 2, none⟩ y2).setCell ⟨E, 3, none⟩ y3).setCell ⟨E, 4, none⟩ y4).setCell ⟨E, 5, none⟩ y5).setCell ⟨E, 6, none⟩ y6).setCell ⟨E, 7, none⟩ y7).setCell ⟨E, 8, none⟩ y8) E #[y0, y1, y2, y3, y4, y5, y6, y7, y8, x9, x10, x11] t := h8.set 8 y8
  have h10 : BoxAt ((((((((((w.setCell ⟨E, 0, none⟩ y0).setCell ⟨E, 1, none⟩ y1).setCell ⟨E, 2, none⟩ y2).setCell ⟨E, 3, none⟩ y3).setCell ⟨E, 4, none⟩ y4).setCell ⟨E, 5, none⟩ y5).setCell ⟨E, 6, none⟩ y6).setCell ⟨E, 7, none⟩ y7).setCell ⟨E, 8, none⟩ y8).setCell ⟨E, 9, none⟩ y9) E #[y0, y1, y2, y3, y4, y5, y6, y7, y8, y9, x10, x11] t := h9.set 9 y9
  have h11 : BoxAt (((((((((((w.setCell ⟨E, 0, none⟩ y0).setCell ⟨E, 1, none⟩ y1).setCell ⟨E, 2, none⟩ y2).setCell ⟨E, 3, none⟩ y3).setCell ⟨E, 4, none⟩ y4).setCell ⟨E, 5, none⟩ y5).setCell ⟨E, 6, none⟩ y6).setCell ⟨E, 7, none⟩ y7).setCell ⟨E, 8, none⟩ y8).setCell ⟨E, 9, none⟩ y9).setCell ⟨E, 10, none⟩ y10) E #[y0, y1, y2, y3, y4, y5, y6, y7, y8, y9, y10, x11] t := h10.set 10 y10
  have h12 : BoxAt ((((((((((((w.setCell ⟨E, 0, none⟩ y0).setCell ⟨E, 1, none⟩ y1).setCell ⟨E, 2, none⟩ y2).setCell ⟨E, 3, none⟩ y3).setCell ⟨E, 4, none⟩ y4).setCell ⟨E, 5, none⟩ y5).setCell ⟨E, 6, none⟩ y6).setCell ⟨E, 7, none⟩ y7).setCell ⟨E, 8, none⟩ y8).setCell ⟨E, 9, none⟩ y9).setCell ⟨E, 10, none⟩ y10).setCell ⟨E, 11, none⟩ y11) E #[y0, y1, y2, y3, y4, y5, y6, y7, y8, y9, y10, y11] t := h11.set 11 y11
  unfold set12
  exact h12
set_option maxRecDepth 100000 in
theorem res12 {fn : Func} {A M : Nat} {tmps : Array Value} {w : World} {b : Nat} {x0 x1 x2 x3 x4 x5 x6 x7 x8 x9 x10 x11 v : Value} {t : TypeId} (hres : fn.results = #[.cell A 69, .tmp M]) (ha : tmps.getD A undef = .pointer (some ⟨b, 0, none⟩)) (hm : tmps.getD M undef = v) (hb : BoxAt w b #[x0, x1, x2, x3, x4, x5, x6, x7, x8, x9, x10, x11] t) :
    (results fn tmps).run Tryz.prog w = .ok (.tuple #[.agg #[x0, x1, x2, x3, x4, x5, x6, x7, x8, x9, x10, x11], v]) w := by
  have k0 : w.cell? ⟨b, 0, none⟩ = some x0 := hb.cell 0
  have k1 : w.cell? ⟨b, 1, none⟩ = some x1 := hb.cell 1
  have k2 : w.cell? ⟨b, 2, none⟩ = some x2 := hb.cell 2
  have k3 : w.cell? ⟨b, 3, none⟩ = some x3 := hb.cell 3
  have k4 : w.cell? ⟨b, 4, none⟩ = some x4 := hb.cell 4
  have k5 : w.cell? ⟨b, 5, none⟩ = some x5 := hb.cell 5
  have k6 : w.cell? ⟨b, 6, none⟩ = some x6 := hb.cell 6
  have k7 : w.cell? ⟨b, 7, none⟩ = some x7 := hb.cell 7
  have k8 : w.cell? ⟨b, 8, none⟩ = some x8 := hb.cell 8
  have k9 : w.cell? ⟨b, 9, none⟩ = some x9 := hb.cell 9
  have k10 : w.cell? ⟨b, 10, none⟩ = some x10 := hb.cell 10
  have k11 : w.cell? ⟨b, 11, none⟩ = some x11 := hb.cell 11
  have ha' : tmps[A]?.getD undef = .pointer (some ⟨b, 0, none⟩) := by rw [← ha]; simp
  have hm' : tmps[M]?.getD undef = v := by rw [← hm]; simp
  simp [results, hres, ha', hm', go_sem, k0, k1, k2, k3, k4, k5, k6, k7, k8, k9, k10, k11]
theorem end12w {fn : Func} {A M : Nat} {R : Ending → World → Prop} {a : Act} {w1 w2 : World} {b : Nat} {x0 x1 x2 x3 x4 x5 x6 x7 x8 x9 x10 x11 v : Value} {y0 y1 y2 y3 y4 y5 y6 y7 y8 y9 y10 y11 : Value} {t : TypeId} (hres : fn.results = #[.cell A 69, .tmp M]) (hb : BoxAt w1 b #[y0, y1, y2, y3, y4, y5, y6, y7, y8, y9, y10, y11] t)
    (hw : w2 = set12 w1 b x0 x1 x2 x3 x4 x5 x6 x7 x8 x9 x10 x11) (ha : a.tmps.getD A undef = .pointer (some ⟨b, 0, none⟩)) (hm : a.tmps.getD M undef = v) (hd : a.defers = []) (hR : R (.returned (.tuple #[.agg #[x0, x1, x2, x3, x4, x5, x6, x7, x8, x9, x10, x11], v])) (set12 w1 b x0 x1 x2 x3 x4 x5 x6 x7 x8 x9 x10 x11)) : bodyPost Tryz.prog fn R .ret a w2 := by
  subst hw
  exact bodyPost_ret (res12 hres ha hm (box_set12 hb x0 x1 x2 x3 x4 x5 x6 x7 x8 x9 x10 x11)) hd hR
set_option maxRecDepth 100000 in
theorem end12s {fn : Func} {A : Nat} {R : Ending → World → Prop} {a : Act} {w1 w2 : World} {b : Nat} {x0 x1 x2 x3 x4 x5 x6 x7 x8 x9 x10 x11 : Value} {y0 y1 y2 y3 y4 y5 y6 y7 y8 y9 y10 y11 : Value} {t : TypeId} (hres : fn.results = #[.cell A 69]) (hb : BoxAt w1 b #[y0, y1, y2, y3, y4, y5, y6, y7, y8, y9, y10, y11] t)
    (hw : w2 = set12 w1 b x0 x1 x2 x3 x4 x5 x6 x7 x8 x9 x10 x11) (ha : a.tmps.getD A undef = .pointer (some ⟨b, 0, none⟩)) (hd : a.defers = []) (hR : R (.returned (.agg #[x0, x1, x2, x3, x4, x5, x6, x7, x8, x9, x10, x11])) (set12 w1 b x0 x1 x2 x3 x4 x5 x6 x7 x8 x9 x10 x11)) : bodyPost Tryz.prog fn R .ret a w2 := by
  subst hw
  have hb2 := box_set12 hb x0 x1 x2 x3 x4 x5 x6 x7 x8 x9 x10 x11
  refine bodyPost_ret (v := .agg #[x0, x1, x2, x3, x4, x5, x6, x7, x8, x9, x10, x11]) ?_ hd hR
  have ha' : a.tmps[A]?.getD undef = .pointer (some ⟨b, 0, none⟩) := by rw [← ha]; simp
  generalize set12 w1 b x0 x1 x2 x3 x4 x5 x6 x7 x8 x9 x10 x11 = w3 at *
  have k0 : w3.cell? ⟨b, 0, none⟩ = some x0 := hb2.cell 0
  have k1 : w3.cell? ⟨b, 1, none⟩ = some x1 := hb2.cell 1
  have k2 : w3.cell? ⟨b, 2, none⟩ = some x2 := hb2.cell 2
  have k3 : w3.cell? ⟨b, 3, none⟩ = some x3 := hb2.cell 3
  have k4 : w3.cell? ⟨b, 4, none⟩ = some x4 := hb2.cell 4
  have k5 : w3.cell? ⟨b, 5, none⟩ = some x5 := hb2.cell 5
  have k6 : w3.cell? ⟨b, 6, none⟩ = some x6 := hb2.cell 6
  have k7 : w3.cell? ⟨b, 7, none⟩ = some x7 := hb2.cell 7
  have k8 : w3.cell? ⟨b, 8, none⟩ = some x8 := hb2.cell 8
  have k9 : w3.cell? ⟨b, 9, none⟩ = some x9 := hb2.cell 9
  have k10 : w3.cell? ⟨b, 10, none⟩ = some x10 := hb2.cell 10
  have k11 : w3.cell? ⟨b, 11, none⟩ = some x11 := hb2.cell 11
  simp [results, hres, ha', go_sem, k0, k1, k2, k3, k4, k5, k6, k7, k8, k9, k10, k11]
variable {R : RL} {W W' : World} {op : List ByteArray} {s : RSt}
theorem WrAt.set12 (F : R.Far) (h : WrAt R W op s) {b : Nat} {cs : Array Value} {t : TypeId} (hb : BoxAt W b cs t) (hB : R.w0.heap.size ≤ b) (h1 : b ≠ R.wb) (h3 : b ≠ R.km) (ht : t ≠ 59) (x0 x1 x2 x3 x4 x5 x6 x7 x8 x9 x10 x11 : Value) : WrAt R (set12 W b x0 x1 x2 x3 x4 x5 x6 x7 x8 x9 x10 x11) op s := by
  obtain ⟨g1, ⟨ev, g2, g3⟩, hop, ⟨m0, g6⟩⟩ := h
  have hob : R.ob ≠ b := by
    rintro e
    obtain ⟨L, c, g4, _⟩ := hop
    have g5 : W.heap[R.ob]? = some _ := g4
    have g7 : W.heap[b]? = some _ := hb
    rw [e, g7] at g5
    cases g5
  refine ⟨g1.trans (set12_low W b x0 x1 x2 x3 x4 x5 x6 x7 x8 x9 x10 x11 hB), ⟨ev, (set12_heap W b x0 x1 x2 x3 x4 x5 x6 x7 x8 x9 x10 x11 _ (fun e => h1 e.symm)).trans g2, row_later g3 (fun g hg hc => set12_heap W b x0 x1 x2 x3 x4 x5 x6 x7 x8 x9 x10 x11 g (fun e => ?_))⟩, hop.other (set12_heap W b x0 x1 x2 x3 x4 x5 x6 x7 x8 x9 x10 x11 _ hob), m0, ?_⟩
  · subst e
    obtain ⟨cs, fz, hc⟩ := hc
    have g7 : W.heap[g]? = some _ := hb
    rw [hc] at g7
    exact ht (Obj.cells.inj (Option.some.inj g7)).2.1.symm
  · obtain ⟨x, k1, k2⟩ := g6
    refine ⟨x, (set12_heap W b x0 x1 x2 x3 x4 x5 x6 x7 x8 x9 x10 x11 _ (fun e => h3 e.symm)).trans k1, fun hm => ?_⟩
    obtain ⟨mb, e1, e2, e3⟩ := k2 hm
    refine ⟨mb, e1, e2, (set12_heap W b x0 x1 x2 x3 x4 x5 x6 x7 x8 x9 x10 x11 _ (fun e => ?_)).trans e3⟩
    subst e
    have g7 : W.heap[mb]? = some _ := hb
    rw [e3] at g7
    cases g7
theorem WK.set12 {w : World} (h : WK R w W) {b : Nat} (hB : R.w0.heap.size ≤ b) (hn : w.heap.size ≤ b) (x0 x1 x2 x3 x4 x5 x6 x7 x8 x9 x10 x11 : Value) : WK R w (set12 W b x0 x1 x2 x3 x4 x5 x6 x7 x8 x9 x10 x11) :=
  ⟨h.low.trans (set12_low W b x0 x1 x2 x3 x4 x5 x6 x7 x8 x9 x10 x11 hB), fun k hk k1 k2 k3 k4 => (set12_heap W b x0 x1 x2 x3 x4 x5 x6 x7 x8 x9 x10 x11 k (by omega)).trans (h.own k hk k1 k2 k3 k4)⟩
end Go.Proofs.YtpgiboblonlddaaGreatDoor
