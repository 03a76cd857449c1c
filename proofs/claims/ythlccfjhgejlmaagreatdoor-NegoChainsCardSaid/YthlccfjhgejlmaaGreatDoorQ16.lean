/-
  Several texts put together (part 16): what the law and the program call, walked; their contracts.
-/
import Derived.Test.YthlccfjhgejlmaaGreatDoorQ14
import Derived.Test.YthlccfjhgejlmaaGreatDoorQ15
namespace Go.Proofs.YthlccfjhgejlmaaGreatDoor
open Go.RowKit Go.Shelf
set_option linter.unusedVariables false
set_option linter.unusedSimpArgs false
structure TG where
  mkg ::
  t : TagT
  A : Option Addr
  c : Nat
def TG.v (x : TG) : Value := .agg #[.string (mk x.t.L), .string (mk x.t.S), .string (mk x.t.R), .slice x.A x.t.vs.length x.c]
def TG.cells (x : TG) : List Value := [.string (mk x.t.L), .string (mk x.t.S), .string (mk x.t.R), .slice x.A x.t.vs.length x.c]
structure TG.At (W : World) (x : TG) : Prop where
  mka ::
  ok : x.t.Ok
  vs : VarsAt W x.t x.A x.c
theorem TG.At.later {W W' : World} {x : TG} (h : x.At W) (g : Below W.heap.size W W') : x.At W' := ⟨h.ok, h.vs.later g⟩
def tgCells : List TG → List Value
  | [] => []
  | x :: r => x.cells ++ tgCells r
theorem tgCells_app : ∀ a b : List TG, tgCells (a ++ b) = tgCells a ++ tgCells b
  | [], b => rfl
  | x :: r, b => by rw [List.cons_append, tgCells, tgCells, tgCells_app r b, List.append_assoc]
theorem tgCells_len : ∀ a : List TG, (tgCells a).length = a.length * 4
  | [] => rfl
  | x :: r => by rw [tgCells, List.length_append, tgCells_len r, List.length_cons]; show 4 + _ = _; omega
theorem tgCells_get : ∀ (a : List TG) (j : Nat) (x : TG), a[j]? = some x → ∀ i, i < 4 → (tgCells a)[j * 4 + i]? = x.cells[i]?
  | [], j, x, h => by simp at h
  | y :: r, 0, x, h => by
    simp at h
    subst h
    intro i hi
    rw [tgCells, Nat.zero_mul, Nat.zero_add, List.getElem?_append_left (by show i < 4; exact hi)]
  | y :: r, j + 1, x, h => by
    intro i hi
    rw [tgCells, List.getElem?_append_right (by show 4 ≤ _; omega)]
    have := tgCells_get r j x (by simpa using h) i hi
    rw [show (j + 1) * 4 + i - y.cells.length = j * 4 + i by show (j + 1) * 4 + i - 4 = _; omega]
    exact this
theorem tgCells_one : ∀ (l : List TG), ∀ u ∈ tgCells l, u.oneCell' = true
  | [], u, h => by simp [tgCells] at h
  | x :: r, u, h => by
    rw [tgCells] at h
    rcases List.mem_append.1 h with h | h
    · simp only [TG.cells, List.mem_cons, List.not_mem_nil, or_false] at h
      rcases h with rfl | rfl | rfl | rfl <;> rfl
    · exact tgCells_one r u h
def Tg4 (W : World) (b o : Nat) (x : TG) : Prop := W.cell? ⟨b, o, none⟩ = some (.string (mk x.t.L)) ∧ W.cell? ⟨b, o + 1, none⟩ = some (.string (mk x.t.S)) ∧ W.cell? ⟨b, o + 2, none⟩ = some (.string (mk x.t.R)) ∧ W.cell? ⟨b, o + 3, none⟩ = some (.slice x.A x.t.vs.length x.c)
def TgsAt (W : World) (v : Value) (l : List TG) : Prop := ∃ A c, v = .slice A l.length c ∧ l.length ≤ c ∧ (0 < l.length → ∃ b, A = some ⟨b, 0, none⟩ ∧ b < W.heap.size ∧ ∀ j x, l[j]? = some x → Tg4 W b (j * 4) x)
theorem TgsAt.later {W W' : World} {v : Value} {l : List TG} (h : TgsAt W v l) (g : Below W.heap.size W W') : TgsAt W' v l := by
  obtain ⟨A, c, rfl, hc, h⟩ := h
  refine ⟨A, c, rfl, hc, fun h0 => ?_⟩
  obtain ⟨b, rfl, hb, h1⟩ := h h0
  refine ⟨b, rfl, Nat.lt_of_lt_of_le hb g.size, fun j x hx => ?_⟩
  obtain ⟨c0, c1, c2, c3⟩ := h1 j x hx
  exact ⟨(g.cell (p := ⟨b, j * 4, none⟩) hb).trans c0, (g.cell (p := ⟨b, j * 4 + 1, none⟩) hb).trans c1, (g.cell (p := ⟨b, j * 4 + 2, none⟩) hb).trans c2, (g.cell (p := ⟨b, j * 4 + 3, none⟩) hb).trans c3⟩
def OwnTg (B : Nat) (W : World) (v : Value) (l : List TG) : Prop := W.ownsRow B 26 4 v l.length (tgCells l)
theorem OwnTg.nil (B : Nat) (W : World) : OwnTg B W (.slice none 0 0) [] := World.ownsRow_nil _ _ _ _
theorem OwnTg.slice {B : Nat} {W : World} {v : Value} {l : List TG} (h : OwnTg B W v l) : ∃ A c, v = .slice A l.length c ∧ l.length ≤ c := by
  rcases h.2 with ⟨rfl, h0⟩ | ⟨g, cap, cur, rfl, _, _, hc, _⟩
  · exact ⟨none, 0, by rw [h0], by omega⟩
  · exact ⟨_, _, rfl, hc⟩
theorem OwnTg.at_ {B : Nat} {W : World} {v : Value} {l : List TG} (h : OwnTg B W v l) : TgsAt W v l := by
  obtain ⟨A, c, rfl, hc⟩ := h.slice
  refine ⟨A, c, rfl, hc, fun h0 => ?_⟩
  rcases h.2 with ⟨_, h1⟩ | ⟨g, cap, cur, e, _, hg, _⟩
  · omega
  · cases e
    refine ⟨g, rfl, (Array.getElem?_eq_some_iff.1 hg).1, fun j x hx => ?_⟩
    have hc : ∀ i u, i < 4 → x.cells[i]? = some u → W.cell? ⟨g, j * 4 + i, none⟩ = some u := fun i u hi hu => by
      have := World.ownsRow.cells h (g := g) rfl (j * 4 + i) u (by rw [tgCells_get l j x hx i hi]; exact hu)
      rw [add_zero] at this
      simpa using this
    exact ⟨hc 0 _ (by omega) rfl, hc 1 _ (by omega) rfl, hc 2 _ (by omega) rfl, hc 3 _ (by omega) rfl⟩
theorem OwnTg.grown {B : Nat} {W W' : World} {v : Value} {l : List TG} {row : Option Nat} (h : OwnTg B W v l) (g : W.grownBy W' row) (hne : v.ownBlock = none ∨ v.ownBlock ≠ row) : OwnTg B W' v l := World.ownsRow.kept h g hne
theorem grown_of {W W' : World} (g : Below W.heap.size W W') : W.grownBy W' none := ⟨g.os, g.tape, g.output, g.size, fun k hk _ => g.block k hk⟩
theorem OwnTg.later {B : Nat} {W W' : World} {v : Value} {l : List TG} (h : OwnTg B W v l) (g : Below W.heap.size W W') : OwnTg B W' v l :=
  h.grown (grown_of g) (by by_cases h : v.ownBlock = none; exact .inl h; exact .inr h)
theorem OwnTg.push {B : Nat} {W : World} {v : Value} {l : List TG} {x : TG} (h : W.ownsRow B 26 4 v (l.length + 1) (tgCells l ++ x.cells)) : OwnTg B W v (l ++ [x]) := by
  unfold OwnTg
  rw [tgCells_app, List.length_append]
  show W.ownsRow B 26 4 v (l.length + 1) (tgCells l ++ (x.cells ++ []))
  rw [List.append_nil]
  exact h
theorem tgOne (x : TG) : ∀ u ∈ x.cells, u.oneCell' = true := by
  intro u h
  simp only [TG.cells, List.mem_cons, List.not_mem_nil, or_false] at h
  rcases h with rfl | rfl | rfl | rfl <;> rfl
theorem grown_setBlock (W : World) (b : Nat) (o : Obj) : W.grownBy (ChangeMaps.setBlock W b o) (some b) :=
  ⟨rfl, rfl, rfl, by simp [ChangeMaps.setBlock], fun k hk hn => by
    show (W.heap.setIfInBounds b o)[k]? = _
    rw [Array.getElem?_setIfInBounds_ne (fun e => hn (by rw [e]))]⟩
theorem grown_two {a b c : World} {row : Option Nat} (h : a.grownBy b none) (g : b.grownBy c row) : a.grownBy c row :=
  ⟨g.os.trans h.os, g.tape.trans h.tape, g.output.trans h.output, Nat.le_trans h.size g.size, fun k hk hn => (g.block k (Nat.lt_of_lt_of_le hk h.size) hn).trans (h.block k hk (by simp))⟩
abbrev zTg : Value := .agg #[.string ⟨#[]⟩, .string ⟨#[]⟩, .string ⟨#[]⟩, .slice none 0 0]
theorem infoTg : (Tryz.prog.info? 26).map (fun i => (i.zero, i.size, i.bytes)) = some (some (.agg #[.string ⟨#[]⟩, .string ⟨#[]⟩, .string ⟨#[]⟩, .slice none 0 0]), 4, 72) := by kernel_rfl
def TgBox (W : World) (b : Nat) (x : TG) : Prop := BoxAt W b #[.string (mk x.t.L), .string (mk x.t.S), .string (mk x.t.R), .slice x.A x.t.vs.length x.c] 26
theorem TgBox.cells {W : World} {b : Nat} {x : TG} (h : TgBox W b x) : Tg4 W b 0 x := ⟨h.cell 0, h.cell 1, h.cell 2, h.cell 3⟩
theorem TgBox.news {W : World} {b : Nat} {x : TG} (h : TgBox W b x) : ∀ j u, x.cells[j]? = some u → W.cell? ((⟨b, 0, none⟩ : Addr).add j) = some u := by
  intro j u hj
  rw [add_zero]
  obtain ⟨c0, c1, c2, c3⟩ := h.cells
  match j, hj with
  | 0, hj => simp [TG.cells] at hj; subst hj; exact c0
  | 1, hj => simp [TG.cells] at hj; subst hj; exact c1
  | 2, hj => simp [TG.cells] at hj; subst hj; exact c2
  | 3, hj => simp [TG.cells] at hj; subst hj; exact c3
theorem stringG {x : TG} {W : World} (h : x.At W) : Calls Tryz.prog 13 #[.agg #[.string (mk x.t.L), .string (mk x.t.S), .string (mk x.t.R), .slice x.A x.t.vs.length x.c]] W fun e W' => e = .returned (.string (mk x.t.text)) ∧ Below W.heap.size W W' := stringT h.ok h.vs
set_option maxHeartbeats 2000000 in
set_option maxRecDepth 100000 in
theorem partsN {x : TG} {W : World} (h : x.At W) (hM : MaxAt W) : Calls Tryz.prog 49 #[.agg #[.string (mk x.t.L), .string (mk x.t.S), .string (mk x.t.R), .slice x.A x.t.vs.length x.c]] W fun e w' =>
    ∃ b, e = .returned (.slice (some ⟨b, 0, none⟩) x.t.pieces.length x.t.pieces.length) ∧ W.heap.size ≤ b ∧ b < w'.heap.size ∧ (∀ (j : Nat) p, x.t.pieces[j]? = some p → w'.cell? ⟨b, j, none⟩ = some (.string (mk p))) ∧ Below W.heap.size W w' := by
  have hb1 : Below W.heap.size W (W.alloc (.cells #[.string (mk x.t.L), .string (mk x.t.S), .string (mk x.t.R), .slice x.A x.t.vs.length x.c] 26)) := (Below.refl _ _).alloc (Nat.le_refl _) _
  have hS := stringG (h.later hb1)
  have HM := Lib.hid (hM.on hb1)
  have hok := h.ok
  have HB1 := Lib.hid hb1
  clear h hM hb1
  go_enter Tryz.func49, Tryz.ntmps49
  go_wp2_with fail
  go_at_call 13
  refine hS.mono ?_
  rintro e w2 ⟨rfl, b2⟩
  have HM2 := HM.out.on b2
  have hs2 := splitS_any (mk x.t.text) w2 (by rw [mk_size]; have := hok.text; omega) HM2
  rw [mk_data, split_text hok.good] at hs2
  have HB2 := Lib.hid (HB1.out.trans (b2.mono HB1.out.size))
  clear b2 HM2 hS
  go_wp2_with fail
  go_at_call 14
  refine hs2.mono ?_
  rintro e w3 ⟨rfl, hc, hl, b3⟩
  have HB3 := Lib.hid (HB2.out.trans (b3.mono HB2.out.size))
  have HC := Lib.hid hc
  clear hc b3
  go_wp2
  go_ret
  exact ⟨w2.heap.size, rfl, HB2.out.size, hl, fun j p hp => by have := HC.out j p hp; rwa [Nat.zero_add] at this, HB3.out⟩
end Go.Proofs.YthlccfjhgejlmaaGreatDoor

namespace Go.Proofs.YthlccfjhgejlmaaGreatDoor
open Go.RowKit Go.Shelf
set_option linter.unusedVariables false
set_option linter.unusedSimpArgs false
def tagS (s : ByteArray) : Option TagT := tagOf (splitH s.data.toList)
def tagsOf (ss : List ByteArray) : List TagT := ss.filterMap tagS
theorem tagsOf_app (a b : List ByteArray) : tagsOf (a ++ b) = tagsOf a ++ tagsOf b := List.filterMap_append ..
theorem tagsOf_len (a : List ByteArray) : (tagsOf a).length ≤ a.length := List.length_filterMap_le ..
def SAt (W : World) (v : Value) (ss : List ByteArray) : Prop := ∃ A c, v = .slice A ss.length c ∧ (0 < ss.length → ∃ b o, A = some ⟨b, o, none⟩ ∧ b < W.heap.size ∧ ∀ j, j < ss.length → W.cell? ⟨b, o + j, none⟩ = some (.string (ss[j]?.getD ByteArray.empty)))
theorem SAt.later {W W' : World} {v : Value} {ss : List ByteArray} (h : SAt W v ss) (g : Below W.heap.size W W') : SAt W' v ss := by
  obtain ⟨A, c, rfl, h⟩ := h
  refine ⟨A, c, rfl, fun h0 => ?_⟩
  obtain ⟨b, o, rfl, hb, hc⟩ := h h0
  exact ⟨b, o, rfl, Nat.lt_of_lt_of_le hb g.size, fun j hj => (g.cell (p := ⟨b, o + j, none⟩) hb).trans (hc j hj)⟩
theorem TG.At.grown {W W' : World} {row : Option Nat} {x : TG} (h : x.At W) (g : W.grownBy W' row) (hne : ∀ a, x.A = some a → row ≠ some a.block) : x.At W' := by
  refine ⟨h.ok, h.vs.1, ?_⟩
  rcases h.vs.2 with h0 | ⟨b, off, cap, e, hb, hc⟩
  · exact .inl h0
  · refine .inr ⟨b, off, cap, e, Nat.lt_of_lt_of_le hb g.size, fun j hj => ?_⟩
    have hA : x.A = some ⟨b, off, none⟩ := by injection e
    exact (World.cell?_of_block (a := ⟨b, off + j, none⟩) (g.block b hb (fun e' => hne _ hA e'.symm))).trans (hc j hj)
set_option maxHeartbeats 8000000 in
set_option maxRecDepth 100000 in
theorem tags_any2 (v : Value) (ss : List ByteArray) (w : World) (hin : SAt w v ss) (hn : ss.length ≤ 100000) (hs : ∀ s ∈ ss, s.size ≤ 500) (hM : MaxAt w) :
    Calls Tryz.prog 7 #[v] w fun e w' => ∃ u gs, e = .returned u ∧ OwnTg w.heap.size w' u gs ∧ gs.map TG.t = tagsOf ss ∧ (∀ x ∈ gs, x.At w' ∧ ∀ a, x.A = some a → u.ownBlock ≠ some a.block) ∧ Below w.heap.size w w' := by
  obtain ⟨A, c, rfl, hcs0⟩ := hin
  obtain ⟨i0, hinf, hz0, hz1, hz2⟩ := info_parts infoTg
  have HIn := Lib.hid hcs0
  have HS := Lib.hid hs
  have HM := Lib.hid hM
  have hn0 : (ss.length : Int) ≤ 100000 := by omega
  clear hcs0 hs hM
  go_enter Tryz.func7, Tryz.ntmps7
  go_wp2
  go_loopw [3, 10] (fun t3 t10 wr => ∃ (i : Nat) (gs : List TG), t10 = .int .i64 i ∧ i ≤ ss.length ∧ gs.length ≤ i ∧ Hid (gs.map TG.t = tagsOf (ss.take i)) ∧ Hid (∀ x ∈ gs, x.At wr ∧ ∀ a, x.A = some a → t3.ownBlock ≠ some a.block) ∧ Hid (OwnTg w.heap.size wr t3 gs) ∧ Hid (Below w.heap.size w wr)) (fun _ t10 _ => ss.length - (intOf t10).toNat)
  case atStart => exact ⟨0, [], rfl, Nat.zero_le _, Nat.le_refl _, Lib.hid rfl, Lib.hid (fun x h => by cases h), Lib.hid (OwnTg.nil _ _), Lib.hid (Below.refl _ _)⟩
  case round =>
    obtain ⟨i, gs, rfl, hi, hgl, HG, HA, HW, HB⟩ := hrel
    have hi0 : (i : Int) ≤ 100000 := by omega
    by_cases hlt : i < ss.length
    · have f1 : decide ((i : Int) < (ss.length : Int)) = true := decide_eq_true (by omega)
      have f2 : (i : Int) < (ss.length : Int) := by omega
      obtain ⟨b, o, rfl, hb, hcs⟩ := HIn.out (by omega)
      have hk0 := (HB.out.cell (p := ⟨b, o + i, none⟩) hb).trans (hcs i hlt)
      rw [List.getElem?_eq_getElem hlt, Option.getD_some] at hk0
      have htk : ss.take (i + 1) = ss.take i ++ [ss[i]] := List.take_succ_eq_append_getElem hlt
      have hsz := HS.out _ (List.getElem_mem hlt)
      generalize ss[i] = s at *
      have hbr : b < wr.heap.size := Nat.lt_of_lt_of_le hb HB.out.size
      have HTk := Lib.hid htk
      clear htk hcs
      cases ht : tagS s with
      | none =>
        have HP := Lib.hid (ParseN.of (w := wr) (by omega) (HM.out.on HB.out) ht)
        have HG1 := Lib.hid (show gs.map TG.t = tagsOf (ss.take (i + 1)) by
          rw [HTk.out, tagsOf_app, HG.out, show tagsOf [s] = [] by simp [tagsOf, ht], List.append_nil])
        clear ht
        go_wp2_with fail
        go_at_call 6
        refine HP.out.at_.mono ?_
        rintro e w2 ⟨rfl, b2⟩
        have HB2 := Lib.hid (HB.out.trans (b2.mono HB.out.size))
        have HA2 := Lib.hid (fun x hx => (⟨(HA.out x hx).1.later b2, (HA.out x hx).2⟩ : TG.At w2 x ∧ _))
        have HW2 := Lib.hid (HW.out.later b2)
        clear b2 HP
        go_wp2_with fail
        refine ⟨⟨i + 1, gs, by go_num, hlt, by omega, HG1, Lib.hid (fun x hx => ⟨(HA2.out x hx).1.later ((Below.refl _ _).alloc (Nat.le_refl _) _), (HA2.out x hx).2⟩), Lib.hid (HW2.out.later ((Below.refl _ _).alloc (Nat.le_refl _) _)), Lib.hid (below_new HB2.out (Nat.le_refl _) _)⟩, by simp [intOf]; omega⟩
      | some t =>
        have HP := Lib.hid (ParseY.new (w := wr) (by omega) (HM.out.on HB.out) ht)
        have hok : t.Ok := TagT.Ok.of ht (by have : s.data.toList.length = s.size := by simp
                                             omega)
        have HOk := Lib.hid hok
        have HTg := Lib.hid (show tagsOf [s] = [t] by simp [tagsOf, ht])
        clear ht hok
        go_wp2_with fail
        go_at_call 6
        refine HP.out.mono ?_
        rintro e w2 ⟨VA, vc, rfl, hva, b2, hnew⟩
        obtain ⟨x, hx⟩ : ∃ x : TG, x = ⟨t, VA, vc⟩ := ⟨_, rfl⟩
        have hxt : x.t = t := by rw [hx]
        have hxA : x.A = VA := by rw [hx]
        have hxc : x.c = vc := by rw [hx]
        subst hxt hxA hxc
        have HX := Lib.hid (show x.At w2 ∧ ∀ a, x.A = some a → u3.ownBlock ≠ some a.block from ⟨⟨HOk.out, hva⟩, fun a ha e => by have := hnew a ha; have := (World.ownsRow.lt HW.out _ e).2; omega⟩)
        have HB2 := Lib.hid (HB.out.trans (b2.mono HB.out.size))
        have HA2 := Lib.hid (fun y hy => (⟨(HA.out y hy).1.later b2, (HA.out y hy).2⟩ : TG.At w2 y ∧ _))
        have HW2 := Lib.hid (HW.out.later b2)
        have HG1 := Lib.hid (show (gs ++ [x]).map TG.t = tagsOf (ss.take (i + 1)) by
          rw [HTk.out, tagsOf_app, List.map_append, HG.out, HTg.out]; rfl)
        clear b2 HP hva hx hnew
        go_upto_region 7 with fail
        have hTB : TgBox (w2.alloc (.cells #[.string (mk x.t.L), .string (mk x.t.S), .string (mk x.t.R), .slice x.A x.t.vs.length x.c] 26)) w2.heap.size x := BoxAt.new _ _ _
        have hV : Below w2.heap.size w2 (w2.alloc (.cells #[.string (mk x.t.L), .string (mk x.t.S), .string (mk x.t.R), .slice x.A x.t.vs.length x.c] 26)) := (Below.refl _ _).alloc (Nat.le_refl _) _
        have hVs : w2.heap.size < (w2.alloc (.cells #[.string (mk x.t.L), .string (mk x.t.S), .string (mk x.t.R), .slice x.A x.t.vs.length x.c] 26)).heap.size := by simp
        generalize w2.alloc (.cells #[.string (mk x.t.L), .string (mk x.t.S), .string (mk x.t.R), .slice x.A x.t.vs.length x.c] 26) = V at *
        have HB3 := Lib.hid (HB2.out.trans (hV.mono HB2.out.size))
        have HA3 := Lib.hid (fun y hy => (⟨(HA2.out y hy).1.later hV, (HA2.out y hy).2⟩ : TG.At V y ∧ _))
        have HW3 := Lib.hid (HW2.out.later hV)
        have HX3 := Lib.hid (show TG.At V x ∧ _ from ⟨HX.out.1.later hV, HX.out.2⟩)
        have hw3 := HB3.out.size
        obtain ⟨y0, y1, y2, y3⟩ := hTB.cells
        have hNew : TgBox (V.alloc (.cells #[.string (mk x.t.L), .string (mk x.t.S), .string (mk x.t.R), .slice x.A x.t.vs.length x.c] 26)) V.heap.size x := BoxAt.new V _ _
        have hRow := World.ownsRow.alloc HW3.out (.cells #[.string (mk x.t.L), .string (mk x.t.S), .string (mk x.t.R), .slice x.A x.t.vs.length x.c] 26)
        have HNew := Lib.hid hNew
        clear hV hNew hTB
        go_wp2_with (at_builtin; refine wpList_append_where _ rfl _ _ 29 rfl w.heap.size 26 i0 zTg 4 72 Tryz.underlying29 hinf hz0 hz1 hz2 rfl (by decide) _ _ _ rfl hRow ⟨V.heap.size, 0, none⟩ 1 1 x.cells rfl rfl HNew.out.news (tgOne x) (by unfold maxLen; omega) (by omega) (by simp; omega) (by decide) ?_; intro v' w4 hown' hgrow hwh)
        have HW4 := Lib.hid (OwnTg.push hown')
        have hG2 := grown_two (World.grownBy_alloc V (.cells #[.string (mk x.t.L), .string (mk x.t.S), .string (mk x.t.R), .slice x.A x.t.vs.length x.c] 26) none) hgrow
        have HG2 := Lib.hid hG2
        have HWh := Lib.hid hwh
        clear hown' hgrow hwh hG2 hRow
        go_wp2_with fail
        have hb4 : Below w.heap.size V w4 := (Below.refl _ V).grown HG2.out hw3 (fun k e => (World.ownsRow.lt HW3.out k e).1)
        have hx4 : ∀ y, (TG.At V y ∧ ∀ a, y.A = some a → u3.ownBlock ≠ some a.block) → (TG.At w4 y ∧ ∀ a, y.A = some a → v'.ownBlock ≠ some a.block) := fun y hy => by
          refine ⟨hy.1.grown HG2.out hy.2, fun a ha e => ?_⟩
          rcases HWh.out with h | h
          · exact hy.2 a ha (h.symm.trans e)
          · rw [h] at e
            have hlt : a.block < V.heap.size := by
              rcases hy.1.vs.2 with ⟨h0, _⟩ | ⟨b, off, cap, e2, hb, _⟩
              · rw [ha] at h0; cases h0
              · rw [ha] at e2; injection e2 with e3; injection e3 with e4; rw [e4]; exact hb
            simp at e
            omega
        refine ⟨⟨i + 1, gs ++ [x], by go_num, hlt, by simp; omega, HG1, Lib.hid (fun y hy => ?_), HW4, Lib.hid (HB3.out.trans hb4)⟩, by simp [intOf]; omega⟩
        rcases List.mem_append.1 hy with h | h
        · exact hx4 y (HA3.out y h)
        · rw [List.mem_singleton] at h; rw [h]; exact hx4 x HX3.out
    · obtain rfl : i = ss.length := by omega
      have f1 : decide ((ss.length : Int) < (ss.length : Int)) = false := decide_eq_false (by omega)
      go_wp2
      go_ret
      have hg := HG.out
      rw [List.take_length] at hg
      exact ⟨_, gs, rfl, HW.out, hg, HA.out, HB.out⟩
theorem tags_any (v : Value) (ss : List ByteArray) (w : World) (hin : SAt w v ss) (hn : ss.length ≤ 100000) (hs : ∀ s ∈ ss, s.size ≤ 500) (hM : MaxAt w) :
    Calls Tryz.prog 7 #[v] w fun e w' => ∃ u gs, e = .returned u ∧ OwnTg w.heap.size w' u gs ∧ gs.map TG.t = tagsOf ss ∧ (∀ x ∈ gs, x.At w') ∧ Below w.heap.size w w' := by
  refine (tags_any2 v ss w hin hn hs hM).mono ?_
  rintro e w' ⟨u, gs, h1, h2, h3, h4, h5⟩
  exact ⟨u, gs, h1, h2, h3, fun x hx => (h4 x hx).1, h5⟩
end Go.Proofs.YthlccfjhgejlmaaGreatDoor
