/-
  Several texts put together (part 14): what the law and the program call, walked; their contracts.
-/
import Derived.Test.YthlccfjhgejlmaaGreatDoorQ13
import Derived.Maps.Own
import Derived.Maps.OwnOps
import Derived.Maps.OwnSet
import Derived.Maps.Views
namespace Go.Proofs.YthlccfjhgejlmaaGreatDoor
open Go.RowKit Go.Shelf
set_option linter.unusedVariables false
set_option linter.unusedSimpArgs false
theorem lawR_lens : ∀ (ps : List (List UInt8)) (st : Nat) (seen D : List (List UInt8)), lawR st seen ps = some D → D.map List.length = ps.map List.length
  | [], st, seen, D, h => by simp [lawR] at h; subst h; rfl
  | p :: ps, st, seen, D, h => by
    rw [lawR] at h
    have key : ∀ (st' : Nat) (seen' : List (List UInt8)) (p' : List UInt8), p'.length = p.length → (lawR st' seen' ps).map (p' :: ·) = some D → D.map List.length = (p :: ps).map List.length := by
      intro st' seen' p' hl h
      cases e : lawR st' seen' ps with
      | none => rw [e] at h; simp at h
      | some E =>
        rw [e] at h
        simp only [Option.map_some, Option.some.injEq] at h
        subst h
        simp [lawR_lens ps st' seen' E e, hl]
    split at h
    · exact key _ _ _ (title_length p) h
    · split at h
      · exact key _ _ _ (upp_length p) h
      · split at h
        · split at h
          · cases h
          · exact key _ _ _ (low_length p) h
        · cases h
theorem lawP_lens {ps D : List (List UInt8)} (h : lawP ps = some D) : D.map List.length = ps.map List.length := by
  cases ps with
  | nil => simp [lawP] at h
  | cons p ps =>
    rw [show lawP (p :: ps) = if langB p then (lawR 0 [] ps).map (low p :: ·) else none from rfl] at h
    split at h
    · cases e : lawR 0 [] ps with
      | none => rw [e] at h; simp at h
      | some E =>
        rw [e] at h
        simp only [Option.map_some, Option.some.injEq] at h
        subst h
        simp [lawR_lens ps 0 [] E e, low_length]
    · cases h
theorem join_len : ∀ D : List (List UInt8), D ≠ [] → (Lib.join D [45]).length + 1 = (D.map List.length).sum + D.length
  | [], h => absurd rfl h
  | [p], _ => by rw [join_one]; simp
  | p :: q :: D, _ => by
    rw [join_cons p (q :: D) (by simp)]
    have := join_len (q :: D) (by simp)
    simp only [List.map_cons, List.sum_cons, List.length_cons, List.length_append] at this ⊢
    omega
theorem tagOf_size {l : List UInt8} {t : TagT} (h : tagOf (splitH l) = some t) : t.text.length = l.length ∧ t.vs.length ≤ l.length + 1 ∧ t.pieces.length ≤ l.length + 1 := by
  have h1 : lawP (splitH l) = some t.pieces := by rw [lawP_tag, h]; rfl
  have h2 := lawP_lens h1
  have h3 := splitH_sum l
  have h4 := join_len t.pieces (pieces_ne (tagOf_good h))
  have h5 : t.pieces.length = (splitH l).length := by have := congrArg List.length h2; simpa using this
  have h6 := splitH_length l
  rw [h2, h5] at h4
  have h7 : t.vs.length ≤ t.pieces.length := by unfold TagT.pieces; rw [List.length_append]; omega
  refine ⟨?_, by omega, by omega⟩
  show (Lib.join t.pieces [45]).length = _
  omega
theorem pieces_mk (t : TagT) : piecesB (mk t.L) (mk t.S) (mk t.R) (t.vs.map mk) = t.pieces.map mk := by
  have hk : ∀ l : List UInt8, (decide (mk l ≠ ⟨#[]⟩)) = decide (l ≠ []) := by
    intro l
    rw [decide_eq_decide]
    exact ⟨fun h e => h (by rw [e]; rfl), fun h e => h (mk_inj (e.trans mk_nil.symm))⟩
  have hf : ∀ ls : List (List UInt8), fullL (ls.map mk) = (ls.filter fun s => decide (s ≠ [])).map mk := by
    intro ls
    unfold fullL
    rw [List.filter_map]
    congr 2
    funext l
    exact hk l
  unfold piecesB TagT.pieces
  rw [List.map_append, ← hf]; rfl
theorem text_mk (t : TagT) : joinS (piecesB (mk t.L) (mk t.S) (mk t.R) (t.vs.map mk)) = mk t.text := by
  rw [pieces_mk]
  unfold joinS TagT.text mk
  rw [List.map_map]
  congr 2
  congr 1
  conv => rhs; rw [← List.map_id t.pieces]
  exact List.map_congr_left fun x _ => rfl
def VarsAt (W : World) (t : TagT) (A : Option Addr) (c : Nat) : Prop := t.vs.length ≤ c ∧ StrsAt W.heap.size W (.slice A t.vs.length c) (t.vs.map mk)
theorem VarsAt.later {W W1 : World} {t : TagT} {A : Option Addr} {c : Nat} (h : VarsAt W t A c) (hb : Below W.heap.size W W1) : VarsAt W1 t A c := ⟨h.1, h.2.later hb hb.size⟩
theorem VarsAt.drew {W : World} {t : TagT} {A : Option Addr} {c : Nat} (h : VarsAt W t A c) : VarsAt W.drew t A c := h.later (Below.refl _ _).drew
theorem VarsAt.of {W : World} {t : TagT} {sv : Value} (h1 : CapOk sv) (h2 : StrsAt W.heap.size W sv (t.vs.map mk)) : ∃ A c, sv = .slice A t.vs.length c ∧ VarsAt W t A c := by
  obtain ⟨A, c, rfl⟩ := h2.out
  rw [List.length_map] at h1 h2 ⊢
  obtain ⟨a, n, d, e, h⟩ := h1
  cases e
  exact ⟨A, c, rfl, h, h2⟩
def ParseY (s : ByteArray) (t : TagT) (w : World) : Prop :=
  Calls Tryz.prog 6 #[.string s] w fun e W' => ∃ A c, e = .returned (.tuple #[.agg #[.string (mk t.L), .string (mk t.S), .string (mk t.R), .slice A t.vs.length c], .bool true]) ∧ VarsAt W' t A c ∧ Below w.heap.size w W'
def ParseN (s : ByteArray) (w : World) : Prop :=
  Calls Tryz.prog 6 #[.string s] w fun e W' => e = .returned (.tuple #[.agg #[.string ⟨#[]⟩, .string ⟨#[]⟩, .string ⟨#[]⟩, .slice none 0 0], .bool false]) ∧ Below w.heap.size w W'
theorem ParseY.of {s : ByteArray} {t : TagT} {w : World} (hs : s.size ≤ 100000) (hM : MaxAt w) (ht : tagOf (splitH s.data.toList) = some t) : ParseY s t w := by
  refine (parse_any s hs w hM).mono ?_
  rintro e W' ⟨hb, h, _⟩
  obtain ⟨sv, rfl, h1, h2⟩ := h t ht
  obtain ⟨A, c, rfl, hv⟩ := VarsAt.of h1.ok h2
  exact ⟨A, c, rfl, hv, hb⟩
theorem ParseY.new {s : ByteArray} {t : TagT} {w : World} (hs : s.size ≤ 100000) (hM : MaxAt w) (ht : tagOf (splitH s.data.toList) = some t) :
    Calls Tryz.prog 6 #[.string s] w fun e W' => ∃ A c, e = .returned (.tuple #[.agg #[.string (mk t.L), .string (mk t.S), .string (mk t.R), .slice A t.vs.length c], .bool true]) ∧ VarsAt W' t A c ∧ Below w.heap.size w W' ∧ ∀ x, A = some x → w.heap.size ≤ x.block := by
  refine (parse_any s hs w hM).mono ?_
  rintro e W' ⟨hb, h, _⟩
  obtain ⟨sv, rfl, h1, h2⟩ := h t ht
  obtain ⟨A, c, rfl, hv⟩ := VarsAt.of h1.ok h2
  obtain ⟨a, l, c', e, _, hn⟩ := h1
  cases e
  exact ⟨A, c, rfl, hv, hb, hn⟩
theorem ParseN.of {s : ByteArray} {w : World} (hs : s.size ≤ 100000) (hM : MaxAt w) (ht : tagOf (splitH s.data.toList) = none) : ParseN s w := by
  refine (parse_any s hs w hM).mono ?_
  rintro e W' ⟨hb, _, h⟩
  exact ⟨h ht, hb⟩
theorem ParseY.at_ {s : ByteArray} {t : TagT} {w : World} (h : ParseY s t w) : Calls Tryz.prog 6 #[.string s] w fun e W' => ∃ A c, e = .returned (.tuple #[.agg #[.string (mk t.L), .string (mk t.S), .string (mk t.R), .slice A t.vs.length c], .bool true]) ∧ VarsAt W' t A c ∧ Below w.heap.size w W' := h
theorem ParseN.at_ {s : ByteArray} {w : World} (h : ParseN s w) : Calls Tryz.prog 6 #[.string s] w fun e W' => e = .returned (.tuple #[.agg #[.string ⟨#[]⟩, .string ⟨#[]⟩, .string ⟨#[]⟩, .slice none 0 0], .bool false]) ∧ Below w.heap.size w W' := h
structure TagT.Ok (t : TagT) : Prop where
  good : t.Good
  vs : t.vs.length ≤ 1000
  text : t.text.length ≤ 1000
  pieces : t.pieces.length ≤ 1000
theorem TagT.Ok.of {l : List UInt8} {t : TagT} (h : tagOf (splitH l) = some t) (hl : l.length ≤ 500) : t.Ok := by
  obtain ⟨h1, h2, h3⟩ := tagOf_size h
  exact ⟨tagOf_good h, by omega, by omega, by omega⟩
theorem mkL_ne {t : TagT} (g : t.Good) : mk t.L ≠ ⟨#[]⟩ := fun e => lang_ne g.hL (mk_inj (e.trans mk_nil.symm))
theorem stringT {t : TagT} (k : t.Ok) {A : Option Addr} {c : Nat} {W : World} (h : VarsAt W t A c) :
    Calls Tryz.prog 13 #[.agg #[.string (mk t.L), .string (mk t.S), .string (mk t.R), .slice A t.vs.length c]] W fun e W' => e = .returned (.string (mk t.text)) ∧ Below W.heap.size W W' := by
  have hj : Lib.join ((fullL [mk t.L, mk t.S, mk t.R] ++ t.vs.map mk).map (·.data.toList)) [45] = t.text := by
    have := text_mk t
    have e := congrArg (fun x : ByteArray => x.data.toList) this
    simpa [joinS, mk_data, piecesB] using e
  refine (string_any (mk t.L) (mk t.S) (mk t.R) (.slice A t.vs.length c) (t.vs.map mk) (by rw [List.length_map]; exact k.vs) (by rw [hj]; have := k.text; omega) W h.2).mono ?_
  rintro e W' ⟨rfl, hb⟩
  refine ⟨?_, hb⟩
  have := text_mk t
  unfold piecesB at this
  rw [this]
def fitsT (t u : TagT) : Bool := decide (u.pieces.length ≤ t.pieces.length) && decide (t.pieces.take u.pieces.length = u.pieces)
theorem fits_mk (t u : TagT) : fitsB (t.pieces.map mk) (u.pieces.map mk) = fitsT t u := by
  unfold fitsB fitsT
  rw [List.length_map, List.length_map, ← List.map_take, ← List.map_take, List.take_length]
  congr 1
  rw [decide_eq_decide]
  exact ⟨fun h => List.map_inj_right (fun a b e => mk_inj e) |>.1 h, fun h => by rw [h]⟩
end Go.Proofs.YthlccfjhgejlmaaGreatDoor

namespace Go.Proofs.YthlccfjhgejlmaaGreatDoor
open Go.RowKit Go.Shelf
set_option linter.unusedVariables false
set_option linter.unusedSimpArgs false
abbrev tagCells (t : TagT) (A : Option Addr) (c : Nat) : Obj := .cells #[.string (mk t.L), .string (mk t.S), .string (mk t.R), .slice A t.vs.length c] 26
def TagIn (W : World) (b : Nat) (t : TagT) (A : Option Addr) (c : Nat) : Prop := Box4 W b (.string (mk t.L)) (.string (mk t.S)) (.string (mk t.R)) (.slice A t.vs.length c) ∧ VarsAt W t A c
theorem TagIn.new {W : World} {t : TagT} {A : Option Addr} {c : Nat} (h : VarsAt W t A c) : TagIn (W.alloc (tagCells t A c)) W.heap.size t A c :=
  ⟨Box4.new W _ _ _ _ _, h.later ((Below.refl _ W).alloc (Nat.le_refl _) _)⟩
theorem TagIn.later {W W1 : World} {b : Nat} {t : TagT} {A : Option Addr} {c : Nat} (h : TagIn W b t A c) (hb : Below W.heap.size W W1) : TagIn W1 b t A c := ⟨h.1.later hb h.1.2.2.2.2.2.2.2.2, h.2.later hb⟩
theorem TagIn.alloc {W : World} {b : Nat} {t : TagT} {A : Option Addr} {c : Nat} (h : TagIn W b t A c) (o : Obj) : TagIn (W.alloc o) b t A c := h.later ((Below.refl _ W).alloc (Nat.le_refl _) _)
theorem MaxAt.on {w W : World} (h : MaxAt w) (hb : Below w.heap.size w W) : MaxAt W := h.below hb (Nat.le_refl _)
theorem below_step {w W W1 : World} (h : Below w.heap.size w W) (h1 : Below W.heap.size W W1) : Below w.heap.size w W1 := below_then h (Nat.le_refl _) h1
theorem below_box1 {w W : World} (h : Below w.heap.size w W) (o : Obj) : Below w.heap.size w (W.alloc o) := h.alloc h.size o
theorem maxAt_of {W : World} (h : W.ShapedOpen Tryz.prog) : MaxAt W := by
  obtain ⟨m, hm⟩ := Tryz.laysM146.s1_3 W h
  exact ⟨World.block_lt_of_cell? W _ hm, m, hm⟩
end Go.Proofs.YthlccfjhgejlmaaGreatDoor

namespace Go.Proofs.YthlccfjhgejlmaaGreatDoor
open Go.RowKit Go.Shelf Go.Maps
set_option linter.unusedVariables false
set_option linter.unusedSimpArgs false
theorem keyLaw : Keyed Tryz.prog 9 := string_keyed Tryz.underlying9
theorem zeroBool (w : World) : (zeroValue 4).run Tryz.prog w = .ok (.bool false) w := by kernel_rfl
theorem plainElem_bool_inv {P : Program} {e : TypeId} (he : P.underlying e = some .bool) {v : Value} {z : DataW Unit × List MemPlace} (h : plainElem P e v = some z) : ∃ b, v = .bool b ∧ z = (.lit (.bool b), []) := by
  unfold plainElem at h
  rw [he] at h
  cases v <;> simp at h
  subst h
  exact ⟨_, rfl, rfl⟩
theorem wpList_lookup_own_bool {P : Program} (w : World) {ops : Array Oper} {rest : List Oper} {o : Oper} {a : Act} {Q : Exit → Act → World → Prop}
    (hg : o.guard = none) (m x : Operand) (t : TypeId) (hop : o.op = Op.lookup t m x false)
    (k e : TypeId) (K : Keyed P k) (ht : P.underlying t = some (.map k e)) (he : P.underlying e = some .bool) (hz : (zeroValue e).run P w = .ok (.bool false) w) (b n : Nat) (D : DataW Unit)
    (hm : a.eval m = .map (some b)) (hown : w.ownsMap P k (plainElem P e) b n D) (key : Value) (kl : Lit) (hx : a.eval x = key) (hkey : keyOf P k key = some kl) (c : Bool) (hat : D.atKey kl (.lit (.bool false)) = .lit (.bool c))
    (hK : wpList P ops Q rest (a.put o.dst (.bool c)) w) :
    wpList P ops Q (o :: rest) a w := by
  refine wpList_plain hg fun K' hK' => ?_
  obtain ⟨v, ps, hrun, hv⟩ := hown.lookup K ht hz (plainElem_bool he false) hkey
  obtain ⟨c', rfl, hc⟩ := plainElem_bool_inv he hv
  have : c' = c := by
    have h1 := congrArg Prod.fst hc
    simp only at h1
    rw [hat] at h1
    cases h1; rfl
  subst this
  unfold Oper.wp
  simp [execOp, hop, hm, hx, hrun, Result.andThen]
  exact hK' _ _ hK
def SeenAt (W : World) (b n : Nat) (seen : List (List UInt8)) : Prop :=
  ∃ D : DataW Unit, W.ownsMap Tryz.prog 9 (plainElem Tryz.prog 4) b n D ∧ ∀ p : List UInt8, D.atKey (.string p) (.lit (.bool false)) = .lit (.bool (decide (p ∈ seen)))
theorem SeenAt.made (w : World) : SeenAt (w.alloc (.map #[] 0)) w.heap.size 0 [] :=
  ⟨.map [], World.ownsMap_made w _ _ _, fun p => by simp [DataW.atKey]⟩
theorem SeenAt.later {W W1 : World} {b n : Nat} {seen : List (List UInt8)} (h : SeenAt W b n seen) (hb : Below W.heap.size W W1) : SeenAt W1 b n seen := by
  obtain ⟨D, ⟨es, clock, h1, h2⟩, h3⟩ := h
  exact ⟨D, ⟨es, clock, (hb.block b (Array.getElem?_eq_some_iff.1 h1).1).trans h1, h2⟩, h3⟩
theorem SeenAt.lt {W : World} {b n : Nat} {seen : List (List UInt8)} (h : SeenAt W b n seen) : b < W.heap.size := by
  obtain ⟨D, ⟨es, clock, h1, h2⟩, h3⟩ := h
  exact (Array.getElem?_eq_some_iff.1 h1).1
theorem SeenAt.mono {W : World} {b n m : Nat} {seen : List (List UInt8)} (h : SeenAt W b n seen) (hm : n ≤ m) : SeenAt W b m seen := by
  obtain ⟨D, h1, h3⟩ := h
  exact ⟨D, h1.mono hm, h3⟩
theorem seen_put {D : DataW Unit} (hm : IsMap D) {seen : List (List UInt8)} (h : ∀ p : List UInt8, D.atKey (.string p) (.lit (.bool false)) = .lit (.bool (decide (p ∈ seen)))) (q : List UInt8) :
    ∀ p : List UInt8, (D.put (.string q) (.lit (.bool true))).atKey (.string p) (.lit (.bool false)) = .lit (.bool (decide (p ∈ q :: seen))) := by
  intro p
  by_cases e : p = q
  · subst e
    rw [atKey_put_same hm (by simp [WideAt.IsKeyLit])]
    simp
  · rw [atKey_put_other (by simpa using e), h p]
    simp [e]
end Go.Proofs.YthlccfjhgejlmaaGreatDoor
