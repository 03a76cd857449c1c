/-
  Package script: lists in memory.
-/
import Derived.Test.YtgdkpamlkpncgabGreatDoorSwe
import Derived.Test.YtgdkpamlkpncgabGreatDoorAp
namespace Go.Proofs.YtgdkpamlkpncgabGreatDoor
open Go.RowKit
set_option linter.unusedVariables false
set_option linter.unusedSimpArgs false

/-! Lists that a call makes. -/
section
variable {α : Type}
/-- A row of the call's own: the elements l, each of n cells. -/
def OwnG (t : TypeId) (n : Nat) (f : α → List Value) (B : Nat) (W : World) (v : Value) (l : List α) : Prop := W.ownsRow B t n v l.length (l.flatMap f)
variable {t : TypeId} {n B : Nat} {f : α → List Value} {W W' : World} {v : Value} {l : List α}
theorem OwnG.nil (B : Nat) (W : World) : OwnG t n f B W (.slice none 0 0) [] := World.ownsRow_nil _ _ _ _
theorem OwnG.lt (h : OwnG t n f B W v l) (k : Nat) (e : v.ownBlock = some k) : B ≤ k ∧ k < W.heap.size := World.ownsRow.lt h k e
theorem OwnG.grown {row : Option Nat} (h : OwnG t n f B W v l) (g : W.grownBy W' row) (hr : ∀ k, row = some k → k < B) : OwnG t n f B W' v l := by
  refine World.ownsRow.kept h g ?_
  by_cases hv : v.ownBlock = none
  · exact .inl hv
  · refine .inr fun e => ?_
    obtain ⟨k, hk⟩ := Option.ne_none_iff_exists'.1 hv
    have h1 := h.lt k hk
    have h2 := hr k (e ▸ hk)
    omega
theorem OwnG.kp {rb : Nat} (h : OwnG t n f B W v l) (g : Kp rb W W') (hr : rb < B) : OwnG t n f B W' v l :=
  h.grown (⟨g.below.os, g.below.tape, g.below.output, g.below.size, fun k hk hn => g.others k hk (fun e => hn (by rw [e]))⟩ : W.grownBy W' (some rb)) (fun k e => by rw [← Option.some.inj e]; exact hr)
theorem OwnG.later (h : OwnG t n f B W v l) (g : Below W.heap.size W W') : OwnG t n f B W' v l :=
  h.grown (⟨g.os, g.tape, g.output, g.size, fun k hk _ => g.block k hk⟩ : W.grownBy W' none) (fun k e => by cases e)
theorem OwnG.set (h : OwnG t n f B W v l) {b : Nat} (hb : b < B) (o : Nat) (u : Value) : OwnG t n f B (W.setCell ⟨b, o, none⟩ u) v l :=
  ownsRow_setCell_other h (a := ⟨b, o, none⟩) (fun e => by have := h.lt b e; omega) u
theorem OwnG.alloc (h : OwnG t n f B W v l) (o : Obj) : OwnG t n f B (W.alloc o) v l := World.ownsRow.alloc h o
theorem OwnG.slice (h : OwnG t n f B W v l) : ∃ A c, v = .slice A l.length c := by
  rcases h.2 with ⟨rfl, h0⟩ | ⟨g, cap, cur, rfl, _⟩
  · exact ⟨none, 0, by rw [h0]⟩
  · exact ⟨_, _, rfl⟩
theorem OwnG.snoc {x : α} {k : Nat} (hk : k = l.length + 1) (h : W.ownsRow B t n v k (l.flatMap f ++ f x)) : OwnG t n f B W v (l ++ [x]) := by
  unfold OwnG
  rw [List.length_append, List.length_singleton, List.flatMap_append, List.flatMap_cons, List.flatMap_nil, List.append_nil, ← hk]
  exact h
end
theorem own_some {W : World} {B n k : Nat} {t : TypeId} {v : Value} {xs : List Value} (h : W.ownsRow B t n v (k + 1) xs) : ∃ g cap, v = .slice (some ⟨g, 0, none⟩) (k + 1) cap := by
  rcases h.2 with ⟨_, h0⟩ | ⟨g, cap, _, rfl, _⟩
  · omega
  · exact ⟨g, cap, rfl⟩
/-- append onto a row of the call's own, as one step of a region that draws its order. -/
theorem stepApp {P : Program} {ops : Array Oper} {o : Oper} {a : Act} {w : World} {K : Act → World → Prop} {Q : Exit → Act → World → Prop} {E : Prop}
    (hg : o.guard = none) (s x : Operand) (t : TypeId) (hop : o.op = Op.call { callee := Callee.builtin Builtin.append, args := #[s, x], argTypes := #[t, t] })
    (base : Nat) (e : TypeId) (i : TypeInfo) (z : Value) (size bytes : Nat) (h1 : P.underlying t = some (.slice e)) (h2 : P.info? e = some i) (h3 : i.zero = some z) (h4 : i.size = size) (h5 : i.bytes = bytes) (h6 : z.cells.size = size) (h7 : 0 < size)
    (v : Value) (n : Nat) (olds : List Value) (hs : a.eval s = v) (hown : w.ownsRow base e size v n olds)
    (ad : Addr) (m c : Nat) (news : List Value) (hx : a.eval x = .slice (some ad) m c) (hn : news.length = m * size) (hc : ∀ j u, news[j]? = some u → w.cell? (ad.add j) = some u) (h1c : ∀ u ∈ news, u.oneCell' = true)
    (b1 : n + m ≤ maxLen) (b2 : (n + m) * bytes ≤ 140737488355328) (hB : base ≤ w.heap.size) (hm0 : 0 < m)
    (hK : ∀ v' w', w'.ownsRow base e size v' (n + m) (olds ++ news) → w.grownBy w' v.ownBlock → (v'.ownBlock = v.ownBlock ∨ v'.ownBlock = some w.heap.size) → K (a.put o.dst v') w') :
    if Region.wanted o (yielded ops a.tmps) = true then Oper.wp P o a w K Q else E := by
  have hw : Region.wanted o (yielded ops a.tmps) = true := by simp [Region.wanted, hg]
  rw [if_pos hw]
  obtain ⟨v', w', hrun, r1, r2, r3⟩ := run_append_where (P := P) w base t o.type e i z size bytes h1 h2 h3 h4 h5 h6 h7 v n olds hown ad m c news hn hc h1c b1 b2 hB hm0
  unfold Oper.wp
  simp [execOp, hop, resolve, invoke, builtin, hs, hx, hrun, Result.andThen]
  exact hK v' w' r1 r2 r3
theorem infoTx : (Tryz.prog.info? 9).map (fun i => (i.zero, i.size, i.bytes)) = some (some (.string ⟨#[]⟩), 1, 16) := by kernel_rfl
theorem infoAr : (Tryz.prog.info? 65).map (fun i => (i.zero, i.size, i.bytes)) = some (some (.agg #[.string ⟨#[]⟩, .int .i64 0, .string ⟨#[]⟩]), 3, 40) := by kernel_rfl
theorem infoSt : (Tryz.prog.info? 45).map (fun i => (i.zero, i.size, i.bytes)) = some (some (.agg #[.int .i64 0, .string ⟨#[]⟩, .string ⟨#[]⟩, .bool false, .slice none 0 0, .string ⟨#[]⟩, .string ⟨#[]⟩, .slice none 0 0]), 8, 128) := by kernel_rfl
theorem info_split {t : TypeId} {z : Value} {a b : Nat} (h : (Tryz.prog.info? t).map (fun i => (i.zero, i.size, i.bytes)) = some (some z, a, b)) : ∃ i, Tryz.prog.info? t = some i ∧ i.zero = some z ∧ i.size = a ∧ i.bytes = b := by
  cases hi : Tryz.prog.info? t with
  | none => rw [hi] at h; cases h
  | some i =>
    rw [hi] at h
    have := Option.some.inj h
    exact ⟨i, rfl, congrArg Prod.fst this, congrArg (fun x => x.2.1) this, congrArg (fun x => x.2.2) this⟩
def txC (s : ByteArray) : List Value := [.string s]
def arC (a : SA) : List Value := [.string a.name, .int .i64 a.kind, .string a.text]
abbrev OwnTx := OwnG 9 1 txC
abbrev OwnAr := OwnG 65 3 arC

/-! Lists that lie in memory, in blocks of which F holds. -/
def WsIn (W : World) (F : Nat → Prop) (l : List ByteArray) (A : Option Addr) : Prop := 0 < l.length → ∃ b o, A = some ⟨b, o, none⟩ ∧ F b ∧ ∀ j x, l[j]? = some x → W.cell? ⟨b, o + j, none⟩ = some (.string x)
def AsIn (W : World) (F : Nat → Prop) (l : List SA) (A : Option Addr) : Prop := 0 < l.length → ∃ b o, A = some ⟨b, o, none⟩ ∧ F b ∧ ∀ j x, l[j]? = some x →
  W.cell? ⟨b, o + j * 3, none⟩ = some (.string x.name) ∧ W.cell? ⟨b, o + j * 3 + 1, none⟩ = some (.int .i64 x.kind) ∧ W.cell? ⟨b, o + j * 3 + 2, none⟩ = some (.string x.text)
/-- A step's two lists. -/
def StF (W : World) (F : Nat → Prop) (x : ST) (A1 A2 : Option Addr) : Prop := WsIn W F x.wishes A1 ∧ AsIn W F x.args A2
def stA (x : ST) (A1 : Option Addr) (c1 : Nat) (A2 : Option Addr) (c2 : Nat) : Array Value := #[.int .i64 x.kind, .string x.tag, .string x.bytes, .bool x.over, .slice A1 x.wishes.length c1, .string x.name, .string x.attr, .slice A2 x.args.length c2]
def stL (x : ST) (A1 : Option Addr) (c1 : Nat) (A2 : Option Addr) (c2 : Nat) : List Value := [.int .i64 x.kind, .string x.tag, .string x.bytes, .bool x.over, .slice A1 x.wishes.length c1, .string x.name, .string x.attr, .slice A2 x.args.length c2]
/-- A list of steps. -/
def StsIn (W : World) (F : Nat → Prop) (l : List ST) (A : Option Addr) : Prop := 0 < l.length → ∃ b o, A = some ⟨b, o, none⟩ ∧ F b ∧ ∀ j x, l[j]? = some x → ∃ A1 c1 A2 c2,
  (∀ i u, (stL x A1 c1 A2 c2)[i]? = some u → W.cell? ⟨b, o + j * 8 + i, none⟩ = some u) ∧ StF W F x A1 A2
theorem cellSame {W W' : World} {b : Nat} (h : W'.heap[b]? = W.heap[b]?) (o : Nat) : W'.cell? ⟨b, o, none⟩ = W.cell? ⟨b, o, none⟩ := by
  unfold World.cell?; simp only [h]
theorem WsIn.carry {W W' : World} {F F' : Nat → Prop} (g : ∀ b, F b → F' b ∧ W'.heap[b]? = W.heap[b]?) {l : List ByteArray} {A : Option Addr} (h : WsIn W F l A) : WsIn W' F' l A := fun h0 => by
  obtain ⟨b, o, e, hb, hc⟩ := h h0
  exact ⟨b, o, e, (g b hb).1, fun j x hx => (cellSame (g b hb).2 _).trans (hc j x hx)⟩
theorem AsIn.carry {W W' : World} {F F' : Nat → Prop} (g : ∀ b, F b → F' b ∧ W'.heap[b]? = W.heap[b]?) {l : List SA} {A : Option Addr} (h : AsIn W F l A) : AsIn W' F' l A := fun h0 => by
  obtain ⟨b, o, e, hb, hc⟩ := h h0
  refine ⟨b, o, e, (g b hb).1, fun j x hx => ?_⟩
  obtain ⟨h1, h2, h3⟩ := hc j x hx
  exact ⟨(cellSame (g b hb).2 _).trans h1, (cellSame (g b hb).2 _).trans h2, (cellSame (g b hb).2 _).trans h3⟩
theorem StF.carry {W W' : World} {F F' : Nat → Prop} (g : ∀ b, F b → F' b ∧ W'.heap[b]? = W.heap[b]?) {x : ST} {A1 A2 : Option Addr} (h : StF W F x A1 A2) : StF W' F' x A1 A2 := ⟨h.1.carry g, h.2.carry g⟩
theorem StsIn.carry {W W' : World} {F F' : Nat → Prop} (g : ∀ b, F b → F' b ∧ W'.heap[b]? = W.heap[b]?) {l : List ST} {A : Option Addr} (h : StsIn W F l A) : StsIn W' F' l A := fun h0 => by
  obtain ⟨b, o, e, hb, hc⟩ := h h0
  refine ⟨b, o, e, (g b hb).1, fun j x hx => ?_⟩
  obtain ⟨A1, c1, A2, c2, h1, h2⟩ := hc j x hx
  exact ⟨A1, c1, A2, c2, fun i u hu => (cellSame (g b hb).2 _).trans (h1 i u hu), h2.carry g⟩
theorem WsIn.nil (W : World) (F : Nat → Prop) (A : Option Addr) : WsIn W F [] A := fun h => absurd h (by simp)
theorem AsIn.nil (W : World) (F : Nat → Prop) (A : Option Addr) : AsIn W F [] A := fun h => absurd h (by simp)
/-- The blocks that have come since. -/
def Snc (B : Nat) (W : World) : Nat → Prop := fun b => B ≤ b ∧ b < W.heap.size
/-- The blocks that are there. -/
def Old (W : World) : Nat → Prop := fun b => b < W.heap.size
theorem flat_get {α β : Type} (f : α → List β) (n : Nat) (hf : ∀ a, (f a).length = n) : ∀ (l : List α) (j i : Nat) (x : α) (u : β), l[j]? = some x → (f x)[i]? = some u → (l.flatMap f)[j * n + i]? = some u
  | [], j, i, x, u, h, _ => by simp at h
  | a :: l, 0, i, x, u, h, hu => by
    simp at h
    subst h
    rw [List.flatMap_cons, Nat.zero_mul, Nat.zero_add, List.getElem?_append_left (by obtain ⟨q, _⟩ := List.getElem?_eq_some_iff.1 hu; exact q)]
    exact hu
  | a :: l, j + 1, i, x, u, h, hu => by
    rw [List.flatMap_cons, List.getElem?_append_right (by rw [hf, Nat.add_mul]; omega), hf, show (j + 1) * n + i - n = j * n + i by rw [Nat.add_mul]; omega]
    exact flat_get f n hf l j i x u (by simpa using h) hu
theorem addMid (g o j : Nat) : (⟨g, o, none⟩ : Addr).add j = ⟨g, o + j, none⟩ := by
  unfold Addr.add
  split
  · next h => rw [h]; rfl
  · rfl
theorem OwnG.cells {α : Type} {t : TypeId} {n B : Nat} {f : α → List Value} {W : World} {v : Value} {l : List α} (h : OwnG t n f B W v l) (hf : ∀ a, (f a).length = n) {A : Option Addr} {m c : Nat} (hv : v = .slice A m c) (h0 : 0 < l.length) :
    ∃ g, A = some ⟨g, 0, none⟩ ∧ Snc B W g ∧ ∀ j x i u, l[j]? = some x → (f x)[i]? = some u → W.cell? ⟨g, j * n + i, none⟩ = some u := by
  rcases h.2 with ⟨_, h1⟩ | ⟨g, cap, cur, e, hB, hg, _⟩
  · rw [h1] at h0; exact absurd h0 (Nat.lt_irrefl _)
  · rw [hv] at e
    cases e
    refine ⟨g, rfl, ⟨hB, (Array.getElem?_eq_some_iff.1 hg).1⟩, fun j x i u hx hu => ?_⟩
    have := World.ownsRow.cells (g := g) h (by rw [hv]; rfl) (j * n + i) u (flat_get f n hf l j i x u hx hu)
    rw [addMid, Nat.zero_add] at this
    exact this
theorem OwnTx.ws {B : Nat} {W : World} {l : List ByteArray} {A : Option Addr} {m c : Nat} (h : OwnTx B W (.slice A m c) l) : WsIn W (Snc B W) l A := fun h0 => by
  obtain ⟨g, e, hg, hc⟩ := OwnG.cells h (fun _ => rfl) rfl h0
  refine ⟨g, 0, e, hg, fun j x hx => ?_⟩
  have := hc j x 0 _ hx rfl
  rw [Nat.mul_one, Nat.add_zero] at this
  rw [Nat.zero_add]
  exact this
theorem OwnAr.as {B : Nat} {W : World} {l : List SA} {A : Option Addr} {m c : Nat} (h : OwnAr B W (.slice A m c) l) : AsIn W (Snc B W) l A := fun h0 => by
  obtain ⟨g, e, hg, hc⟩ := OwnG.cells h (fun _ => rfl) rfl h0
  refine ⟨g, 0, e, hg, fun j x hx => ?_⟩
  rw [Nat.zero_add]
  exact ⟨hc j x 0 _ hx rfl, hc j x 1 _ hx rfl, hc j x 2 _ hx rfl⟩
end Go.Proofs.YtgdkpamlkpncgabGreatDoor
