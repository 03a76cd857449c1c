/-
  Several texts put together (part 45): what the law and the program call, walked; their contracts.
-/
import Derived.Test.YtpgiboblonlddaaGreatDoorQ14
import Derived.Test.YtpgiboblonlddaaGreatDoorQ39
import Derived.Test.YtpgiboblonlddaaGreatDoorQ44
import Derived.OwnWalk
import Derived.Test.YtpgiboblonlddaaGreatDoorQ23
import Derived.Laws.StructEq
namespace Go.Proofs.YtpgiboblonlddaaGreatDoor
open Go.RowKit Go.ChangeMaps
set_option linter.unusedVariables false
set_option linter.unusedSimpArgs false
theorem es_get {W : World} : ∀ {l : List EL} {b o : Nat} (j : Nat) {t : ByteArray} {p : Option EX}, EsAt W l b o → l[j]? = some (.mk t p) → W.cell? ⟨b, o + j * 2, none⟩ = some (.string t) ∧ ∃ u, W.cell? ⟨b, o + j * 2 + 1, none⟩ = some u ∧ OAt W p u
  | [], b, o, j, t, p, h, hj => by simp at hj
  | .mk t0 p0 :: r, b, o, 0, t, p, h, hj => by
    simp at hj
    obtain ⟨rfl, rfl⟩ := hj
    rw [EsAt] at h
    obtain ⟨_, h1, ⟨u, h2, h3⟩, _⟩ := h
    exact ⟨h1, u, h2, h3⟩
  | .mk t0 p0 :: r, b, o, j + 1, t, p, h, hj => by
    rw [EsAt] at h
    have := es_get j h.2.2.2 (by simpa using hj)
    rw [show o + (j + 1) * 2 = o + 2 + j * 2 by omega]
    exact this
theorem CP.patw2 {R : RL} {W : World} {B : Nat} {l : List EL} {A : Option Addr} {c : Nat} (h : CP R.w0 B l W A c) (hne : ∀ g, B ≤ g → (∃ cs fz, W.heap[g]? = some (.cells cs 123 fz)) → g ≠ R.wb ∧ g ≠ R.ob ∧ g ≠ R.km) : PatW R W l A c := by
  intro h0
  obtain ⟨_, _, h4⟩ := h
  obtain ⟨g, news, rfl, hB, hgl, hc, _, ⟨cs, fz, ht⟩, hl, b0, o0, hE, hn⟩ := h4 h0
  obtain ⟨n1, n2, n3⟩ := hne g hB ⟨cs, fz, ht⟩
  refine ⟨g, 0, rfl, .inr ⟨hgl, n1, n2, n3, fun cs' fz' e => ?_⟩, fun j t p hj => ?_⟩
  · rw [ht] at e
    exact absurd (Obj.cells.inj (Option.some.inj e)).2.1 (by decide)
  · obtain ⟨g1, u, g2, g3⟩ := es_get j hE hj
    have hjl : j < l.length := (List.getElem?_eq_some_iff.1 hj).1
    obtain ⟨x, hx⟩ : ∃ x, news[j * 2]? = some x := ⟨_, List.getElem?_eq_getElem (by omega)⟩
    obtain ⟨y, hy⟩ : ∃ y, news[j * 2 + 1]? = some y := ⟨_, List.getElem?_eq_getElem (by omega)⟩
    have e1 := hn _ _ hx
    have e2 := hn _ _ hy
    rw [g1] at e1
    rw [show o0 + (j * 2 + 1) = o0 + j * 2 + 1 by omega, g2] at e2
    have k1 := hc _ _ hx
    have k2 := hc _ _ hy
    simp only [Option.some.injEq] at e1 e2
    subst e1
    subst e2
    rw [Nat.zero_add]
    refine ⟨k1, ?_⟩
    cases p with
    | none =>
      simp only [OAt] at g3
      subst g3
      exact .inl ⟨rfl, k2⟩
    | some e =>
      obtain ⟨eb, eo, rfl, hx⟩ := g3.exw
      exact .inr ⟨e, eb, eo, rfl, k2, hx⟩
theorem TsF.atR {W : World} {F : Nat → Prop} (g : ∀ b, F b → b < W.heap.size) : ∀ (l : List AT) (b o : Nat), TsF W F l b o → TsAt W l b o
  | [], b, o, _ => by rw [TsAt]; trivial
  | .mk n v :: r, b, o, h => by
    rw [TsF] at h
    rw [TsAt]
    obtain ⟨hb, h1, ⟨u, h3, h5⟩, h4⟩ := h
    exact ⟨g b hb, h1, ⟨u, h3, LieAt.imp h5 (fun b o => EsF.at_ g v b o)⟩, TsF.atR g r b _ h4⟩
theorem AtsF.atR {W : World} {F : Nat → Prop} (g : ∀ b, F b → b < W.heap.size) {l : List AT} {v : Value} (h : AtsF W F l v) : LieAt (TsAt W l) v l.length := LieAt.imp h (fun b o => TsF.atR g l b o)
theorem PatF.atR {W : World} {F : Nat → Prop} (g : ∀ b, F b → b < W.heap.size) {l : List EL} {v : Value} (h : PatF W F l v) : PatAt W l v := LieAt.imp h (fun b o => EsF.at_ g l b o)
theorem CP.patw {R : RL} {W : World} {B : Nat} {l : List EL} {A : Option Addr} {c : Nat} (h : CP R.w0 B l W A c) (h1 : R.wb < B) (h2 : R.ob < B) (h3 : R.km < B) : PatW R W l A c := h.patw2 fun g hg _ => ⟨by omega, by omega, by omega⟩
def entE (e : VE) : Ent := ⟨e.x.ty, e.x.lv, e.x.tx, e.x.nm, e.A, e.x.val.length, e.c, e.B, e.x.ats.length, e.d, e.x.fr, e.x.tu, attrF e.x.val e.x.ats⟩
def entB (M T : List VE) (tm : Bool) (n : ByteArray) : Option Ent := (lookL n (if tm then T else M)).map entE
theorem ent_msg {w0 : World} {b mb tb : Nat} {l sc rg : ByteArray} {M T : List VE} (h : BunAt w0 b mb tb l sc rg M T) (n : ByteArray) (W : World) (hW : Below w0.heap.size w0 W) :
    Calls Tryz.prog 22 #[.pointer (some ⟨b, 0, none⟩), .string n] W fun e w' => e = .returned (.tuple #[((entB M T false n).getD noEnt).v, .bool (entB M T false n).isSome]) ∧ Below W.heap.size W w' := by
  unfold entB
  simp only [Bool.false_eq_true, if_false]
  cases hl : lookL n M with
  | none => exact message_no (h.later hW) hl
  | some e =>
    obtain ⟨x, A, c, B, d⟩ := e
    exact message_is (h.later hW) hl
theorem lookL_mem {n : ByteArray} {L : List VE} {e : VE} (h : lookL n L = some e) : e ∈ L := (look_some h).1
theorem ent_att {w0 : World} {b mb tb : Nat} {l sc rg : ByteArray} {M T : List VE} (h : BunAt w0 b mb tb l sc rg M T) (hok : ∀ e, e ∈ M ∨ e ∈ T → sizeEs e.x.val + sizeTs e.x.ats ≤ 4000000) (tm : Bool) (n at' : ByteArray) (x : Ent) (W : World) (hx : entB M T tm n = some x) (hW : Below w0.heap.size w0 W) :
    Calls Tryz.prog 23 #[x.v, .string at'] W fun e w' => ∃ A c, e = .returned (.tuple #[.slice A (x.pat at').2.length c, .bool (x.pat at').1]) ∧ CP w0 W.heap.size (x.pat at').2 w' A c ∧ Below W.heap.size W w' := by
  unfold entB at hx
  obtain ⟨e, he, rfl⟩ := Option.map_eq_some_iff.1 hx
  have hm : e ∈ M ∨ e ∈ T := by
    cases tm with
    | false => exact .inl (lookL_mem he)
    | true => exact .inr (lookL_mem he)
  obtain ⟨h1, h2⟩ := h.tr e hm
  exact attr_any e.x.ty e.x.lv e.x.fr e.x.tu e.x.tx e.x.nm at' e.x.val e.x.ats _ _ (h1.atR (fun k hk => hk.1)) (h2.atR (fun k hk => hk.1)) (hok e hm) W hW
theorem ent_siz {M T : List VE} (hok : ∀ e, e ∈ M ∨ e ∈ T → sizeEs e.x.val + sizeTs e.x.ats ≤ 4000000) (tm : Bool) (n at' : ByteArray) (x : Ent) (hx : entB M T tm n = some x) : sizeEs (x.pat at').2 ≤ 4000000 := by
  unfold entB at hx
  obtain ⟨e, he, rfl⟩ := Option.map_eq_some_iff.1 hx
  have hm : e ∈ M ∨ e ∈ T := by
    cases tm with
    | false => exact .inl (lookL_mem he)
    | true => exact .inr (lookL_mem he)
  have := hok e hm
  show sizeEs (attrF e.x.val e.x.ats at').2 ≤ 4000000
  unfold attrF
  split
  · show sizeEs e.x.val ≤ _
    omega
  · have h := lastA_size at' e.x.ats (false, [])
    simp only [sizeEs] at h
    omega
set_option maxHeartbeats 2000000 in
set_option maxRecDepth 100000 in
theorem tag_any (b : Nat) (l sc rg : ByteArray) (m t : Value) (w : World) (h : BoxAt w b (bunC l sc rg m t) 115) :
    Calls Tryz.prog 24 #[.pointer (some ⟨b, 0, none⟩)] w fun e w' => e = .returned (.agg #[.string l, .string sc, .string rg, .slice none 0 0]) ∧ Below w.heap.size w w' := by
  have c0 : w.cell? ⟨b, 0, none⟩ = some (.string l) := h.cell 0
  have c1 : w.cell? ⟨b, 1, none⟩ = some (.string sc) := h.cell 1
  have c2 : w.cell? ⟨b, 2, none⟩ = some (.string rg) := h.cell 2
  have c3 : w.cell? ⟨b, 3, none⟩ = some (.slice none 0 0) := h.cell 3
  have hc := fun W => copied_nil l sc rg W
  have hbl := h.lt
  have HO := Lib.hid (BoxAt.new w #[.string ⟨#[]⟩, .string ⟨#[]⟩, .string ⟨#[]⟩, .slice none 0 0] 29)
  have HA := Lib.hid ((Below.refl w.heap.size w).alloc (Nat.le_refl _) (.cells #[.string ⟨#[]⟩, .string ⟨#[]⟩, .string ⟨#[]⟩, .slice none 0 0] 29))
  clear h
  go_enter Tryz.func24, Tryz.ntmps24
  go_wp2_with fail
  go_at_call 39
  refine (hc _).mono ?_
  rintro e w2 ⟨rfl, hb2⟩
  have HO2 := Lib.hid (HO.out.later hb2)
  have HB2 := Lib.hid (HA.out.trans (hb2.mono HA.out.size))
  have o0 := fun j => BoxAt.cell HO2.out j
  have oz := fun j => BoxAt.z HO2.out j
  have ol := BoxAt.lt HO2.out
  clear hb2
  go_wp2
  have B4 := (((HO2.out.set 0 (.string l)).set 1 (.string sc)).set 2 (.string rg)).set 3 (.slice none 0 0)
  have hL := Lib.hid ((((HB2.out.setCell (p := ⟨w.heap.size, 0, none⟩) (Nat.le_refl _) (.string l)).setCell (p := ⟨w.heap.size, 1, none⟩) (Nat.le_refl _) (.string sc)).setCell (p := ⟨w.heap.size, 2, none⟩) (Nat.le_refl _) (.string rg)).setCell (p := ⟨w.heap.size, 3, none⟩) (Nat.le_refl _) (.slice none 0 0))
  have y0 := B4.cell 0
  have y1 := B4.cell 1
  have y2 := B4.cell 2
  have y3 := B4.cell 3
  simp only [List.getElem?_toArray, List.getElem?_cons_zero, List.getElem?_cons_succ, List.setIfInBounds_toArray, List.set_cons_zero, List.set_cons_succ] at y0 y1 y2 y3
  clear B4 o0 oz
  generalize (((w2.setCell ⟨w.heap.size, 0, none⟩ (.string l)).setCell ⟨w.heap.size, 1, none⟩ (.string sc)).setCell ⟨w.heap.size, 2, none⟩ (.string rg)).setCell ⟨w.heap.size, 3, none⟩ (.slice none 0 0) = w4 at *
  exact bodyPost_ret (v := .agg #[.string l, .string sc, .string rg, .slice none 0 0]) (by simp [results, Tryz.results24, go_sem, y0, y1, y2, y3]) rfl ⟨rfl, hL.out⟩
end Go.Proofs.YtpgiboblonlddaaGreatDoor

namespace Go.Proofs.YtpgiboblonlddaaGreatDoor
open Go.RowKit Go.ChangeMaps
set_option linter.unusedVariables false
set_option linter.unusedSimpArgs false
structure FmIn (w0 : World) (b mb tb km : Nat) (l sc rg : ByteArray) (M T : List VE) (wri : ByteArray → Option VV) (str : VV → Option (ByteArray × Nat)) : Prop where
  bun : BunAt w0 b mb tb l sc rg M T
  ok : ∀ e, e ∈ M ∨ e ∈ T → sizeEs e.x.val + sizeTs e.x.ats ≤ 4000000
  kmb : w0.heap.size ≤ km
  wris : ∀ (t : ByteArray) (v : VV) (W : World), wri t = some v → Below w0.heap.size w0 W → Calls Tryz.prog 32 #[.string t] W fun e w' => e = .returned v.v ∧ Below W.heap.size W w'
  strs : ∀ (v : VV) (t : ByteArray) (d : Nat), str v = some (t, d) → ∀ (W : World) (made : Bool) (n : Nat), MarksAt W km made n → n ≤ 900 → Below w0.heap.size w0 W → Calls Tryz.prog 18 #[v.v, .pointer (some ⟨km, 0, none⟩), .string l] W fun e w' => e = .returned (.string t) ∧ (∃ made', MarksAt w' km made' (n + d)) ∧ Kp km W w'
theorem FmIn.rl {w0 : World} {b mb tb km : Nat} {l sc rg : ByteArray} {M T : List VE} {wri : ByteArray → Option VV} {str : VV → Option (ByteArray × Nat)} (h : FmIn w0 b mb tb km l sc rg M T wri str) {wb ob : Nat} (h1 : km < ob) (h2 : ob < wb) : (RL.mk w0 b km wb ob l (entB M T) wri str).Ok where
  wb := by have := h.kmb; show w0.heap.size ≤ wb; omega
  ob := by have := h.kmb; show w0.heap.size ≤ ob; omega
  km := h.kmb
  n1 := by show wb ≠ ob; omega
  n2 := by show wb ≠ km; omega
  n3 := by show ob ≠ km; omega
  msg := fun n W hW => ent_msg h.bun n W hW
  att := fun tm n at' x W hx hW hl => (ent_att h.bun h.ok tm n at' x W hx hW).mono fun e w' ⟨A, c, g1, g2, g3⟩ => ⟨A, c, g1, g2.patw hl.1 hl.2.1 hl.2.2, g3⟩
  siz := fun tm n at' x hx => ent_siz h.ok tm n at' x hx
  wris := h.wris
  strs := h.strs
set_option maxHeartbeats 16000000 in
set_option maxRecDepth 100000 in
theorem format_yes {w0 : World} {b mb tb km : Nat} {l sc rg : ByteArray} {M T : List VE} {wri : ByteArray → Option VV} {str : VV → Option (ByteArray × Nat)} (hI : FmIn w0 b mb tb km l sc rg M T wri str) (nm at' : ByteArray) (x : Ent) (hx : entB M T false nm = some x) (hp : (x.pat at').1 = true) (hns : nm.size + at'.size ≤ 900000000)
    (a : Sc) (av : Value) (n0 N : Nat) (made : Bool) (t : ByteArray) (pl ask : Nat) (er : List (Int × ByteArray)) (hg : ∀ wb ob, namedG (placeG (RL.mk w0 b km wb ob l (entB M T) wri str) N) (joinN nm at') (x.pat at').2 a [] ⟨0, [], n0⟩ = some (t, ⟨pl, er, ask⟩))
    (W : World) (hW : Below w0.heap.size w0 W) (hm : MarksAt W km made n0) (ha : (a = [] ∧ av = .map none) ∨ ∃ ab c, av = .map (some ab) ∧ ab ≠ km ∧ MapAt W ab (a.zipIdx.map fun p => ({ key := .string p.1.1, val := p.1.2.v, born := p.2 } : MapEntry)).toArray c) :
    Calls Tryz.prog 11 #[.pointer (some ⟨b, 0, none⟩), .pointer (some ⟨km, 0, none⟩), .string nm, .string at', av] W fun e w' =>
      ∃ A c, e = .returned (.tuple #[.string t, .slice A er.length c, .bool true]) ∧ w'.ownsRow w0.heap.size 59 2 (.slice A er.length c) er.length (erC er) ∧ (∃ made', MarksAt w' km made' ask) ∧ Below w0.heap.size W w' ∧
        (∀ k, k < W.heap.size → k ≠ km → NotErr W k → w'.heap[k]? = W.heap[k]?) := by
  have HI := Lib.hid hI
  have HM := Lib.hid (fun V hV => ent_msg hI.bun nm V hV)
  have HAt := Lib.hid (fun V hV => ent_att hI.bun hI.ok false nm at' x V hx hV)
  have HSz := Lib.hid (ent_siz hI.ok false nm at' x hx)
  have HTg := Lib.hid (fun V (hV : Below w0.heap.size w0 V) => tag_any b l sc rg _ _ V (hI.bun.box.later hV))
  have HJ := Lib.hid (fun V => joined_any nm at' V (by omega))
  have hkl := hm.lt
  have hw0 := hW.size
  obtain ⟨pok, pq, hpat⟩ : ∃ pok pq, x.pat at' = (pok, pq) := ⟨_, _, rfl⟩
  rw [hpat] at hp hg HSz
  simp only [hpat] at HAt
  dsimp only at hp hg HSz
  subst hp
  rw [hx] at HM
  obtain ⟨ty, lv, tx, xnm, A1, n1, c1, A2, n2, c2, fr, tu, pat⟩ := x
  unfold Ent.v at HM HAt
  dsimp only [Option.getD_some, Option.isSome_some] at HM HAt
  have HG := Lib.hid hg
  have HW0 := Lib.hid hW
  have HMs := Lib.hid hm
  have HAv := Lib.hid ha
  have hmk := fun W => run_makeMap (P := Tryz.prog) 94 W
  obtain ⟨ao, rfl⟩ : ∃ o, av = .map o := by
    rcases ha with ⟨_, rfl⟩ | ⟨ab, c, rfl, _⟩ <;> exact ⟨_, rfl⟩
  have hfd : ∀ w : World, (Instr.field 29 (.agg #[.string l, .string sc, .string rg, .slice none 0 0]) 0).run Tryz.prog w = .ok (.string l) w := fun _ => by kernel_rfl
  clear hI hx hg hW hm ha hpat hns
  go_enter Tryz.func11, Tryz.ntmps11
  go_wp2_with fail
  go_at_call 22
  refine (HM.out W HW0.out).mono ?_
  rintro e w1 ⟨rfl, b1⟩
  have B1 := Lib.hid (below_new b1 (Nat.le_refl _) (.cells #[.int .i64 ty, .int .i64 lv, .string tx, .string xnm, .slice A1 n1 c1, .slice A2 n2 c2, .int .i64 fr, .int .i64 tu] 89))
  have HE1 := Lib.hid (BoxAt.new w1 #[.int .i64 ty, .int .i64 lv, .string tx, .string xnm, .slice A1 n1 c1, .slice A2 n2 c2, .int .i64 fr, .int .i64 tu] 89)
  clear b1 HM
  go_upto_region 2 with fail
  generalize w1.alloc (.cells #[.int .i64 ty, .int .i64 lv, .string tx, .string xnm, .slice A1 n1 c1, .slice A2 n2 c2, .int .i64 fr, .int .i64 tu] 89) = V1 at *
  have e0 := BoxAt.cell HE1.out 0
  have e1 := BoxAt.cell HE1.out 1
  have e2 := BoxAt.cell HE1.out 2
  have e3 := BoxAt.cell HE1.out 3
  have e4 := BoxAt.cell HE1.out 4
  have e5 := BoxAt.cell HE1.out 5
  have e6 := BoxAt.cell HE1.out 6
  have e7 := BoxAt.cell HE1.out 7
  simp only [List.getElem?_toArray, List.getElem?_cons_zero, List.getElem?_cons_succ] at e0 e1 e2 e3 e4 e5 e6 e7
  have hbf1 := HW0.out.trans (B1.out.mono hw0)
  go_wp2_with fail
  go_at_call 23
  refine (HAt.out V1 hbf1).mono ?_
  rintro e w2 ⟨Ap, cp, rfl, hcp, b2⟩
  have B2 := Lib.hid (B1.out.trans (b2.mono B1.out.size))
  have HCP := Lib.hid hcp
  have hs1 := B1.out.size
  clear b2 hcp HAt e0 e1 e2 e3 e4 e5 e6 e7 hbf1 HE1
  have hbf2 := HW0.out.trans (B2.out.mono hw0)
  go_wp2_with fail
  go_at_call 24
  refine (HTg.out w2 hbf2).mono ?_
  rintro e w3 ⟨rfl, b3⟩
  have B3 := Lib.hid (B2.out.trans (b3.mono B2.out.size))
  have hs3 := B3.out.size
  have HC3 := Lib.hid (HCP.out.same (W' := w3) (fun g _ hgl _ => b3.block g hgl))
  clear b3 HTg HCP B1 B2 hbf2
  have HB5 := Lib.hid (((B3.out.alloc hs3 (.map #[] 0)).alloc (by simp; omega) (.cells #[.pointer (some ⟨b, 0, none⟩), .pointer (some ⟨km, 0, none⟩), .string l, .map (some w3.heap.size), .int .i64 0, .slice none 0 0] 96)))
  have hX5 : BoxAt ((w3.alloc (.map #[] 0)).alloc (.cells #[.pointer (some ⟨b, 0, none⟩), .pointer (some ⟨km, 0, none⟩), .string l, .map (some w3.heap.size), .int .i64 0, .slice none 0 0] 96)) (w3.heap.size + 1) #[.pointer (some ⟨b, 0, none⟩), .pointer (some ⟨km, 0, none⟩), .string l, .map (some w3.heap.size), .int .i64 0, .slice none 0 0] 96 := BoxAt.new' _ _ _ _ (by simp)
  have hM5 : MapAt ((w3.alloc (.map #[] 0)).alloc (.cells #[.pointer (some ⟨b, 0, none⟩), .pointer (some ⟨km, 0, none⟩), .string l, .map (some w3.heap.size), .int .i64 0, .slice none 0 0] 96)) w3.heap.size (openE []) 0 := (MapAt.new w3 w3.heap.size #[] 0 rfl).alloc _
  have HWr := Lib.hid (show WrAt (RL.mk w0 b km (w3.heap.size + 1) w3.heap.size l (entB M T) wri str) _ [] ⟨0, [], n0⟩ from ⟨HW0.out.trans (HB5.out.mono hw0), ⟨.slice none 0 0, hX5, World.ownsRow_nil _ _ _ _⟩, ⟨[], 0, hM5, rfl⟩, made, HMs.out.later HB5.out⟩)
  have HOk := Lib.hid (HI.out.rl (wb := w3.heap.size + 1) (ob := w3.heap.size) (by omega) (by omega))
  have HC5 := Lib.hid (HC3.out.same (W' := (w3.alloc (.map #[] 0)).alloc (.cells #[.pointer (some ⟨b, 0, none⟩), .pointer (some ⟨km, 0, none⟩), .string l, .map (some w3.heap.size), .int .i64 0, .slice none 0 0] 96)) (fun g _ hgl _ => by rw [Below.heap_alloc _ _ _ (by simp; omega), Below.heap_alloc _ _ _ hgl]))
  have HPw := Lib.hid (HC5.out.patw2 (R := RL.mk w0 b km (w3.heap.size + 1) w3.heap.size l (entB M T) wri str) (fun g hg ht0 => by
    obtain ⟨cs, fz, ht⟩ := ht0
    refine ⟨fun e => ?_, fun e => ?_, fun e => ?_⟩
    · have h2 := hX5
      unfold BoxAt at h2
      rw [show g = w3.heap.size + 1 from e, h2] at ht
      exact absurd (Obj.cells.inj (Option.some.inj ht)).2.1 (by decide)
    · have h2 := hM5
      unfold MapAt at h2
      rw [show g = w3.heap.size from e, h2] at ht
      cases ht
    · have e2 : g = km := e
      omega))
  have HSc := Lib.hid (show ScAt (RL.mk w0 b km (w3.heap.size + 1) w3.heap.size l (entB M T) wri str) _ a (.map ao) from by
    rcases HAv.out with h | ⟨ab, c, h1, h2, h3⟩
    · exact .inl h
    · have := h3.lt
      exact .inr ⟨ab, c, h1, by show ab ≠ w3.heap.size; omega, h2, h3.later HB5.out⟩)
  have HN5 := Lib.hid (namedR_any HOk.out.toFar (placeG_to HOk.out N) (joinN nm at') pq Ap cp a (.map ao) ⟨0, [], n0⟩ ⟨pl, er, ask⟩ t _ rfl HPw.out HSz.out (HG.out _ _) HWr.out HSc.out)
  have hV5 : w3.heap.size + 1 < ((w3.alloc (.map #[] 0)).alloc (.cells #[.pointer (some ⟨b, 0, none⟩), .pointer (some ⟨km, 0, none⟩), .string l, .map (some w3.heap.size), .int .i64 0, .slice none 0 0] 96)).heap.size := by simp
  clear hM5 hX5 HPw HSc HC3 HC5
  go_upto_region 8 with fail
  generalize (w3.alloc (.map #[] 0)).alloc (.cells #[.pointer (some ⟨b, 0, none⟩), .pointer (some ⟨km, 0, none⟩), .string l, .map (some w3.heap.size), .int .i64 0, .slice none 0 0] 96) = V5 at *
  generalize w3.heap.size = ob at *
  go_wp2_with fail
  go_at_call 26
  refine (HJ.out V5).mono ?_
  rintro e w5 ⟨rfl, rfl⟩
  go_wp2_with fail
  go_at_call 25
  refine HN5.out.mono ?_
  rintro e w6 ⟨rfl, hw6, hk6⟩
  obtain ⟨ev, hbx, hrow⟩ := hw6.box
  obtain ⟨made6, hms6⟩ := hw6.ms
  obtain ⟨A6, c6, rfl⟩ : ∃ A c, ev = .slice A er.length c := by
    rcases Joins.ownsRow_forms hrow with ⟨rfl, h0⟩ | ⟨g, cap, rfl⟩
    · exact ⟨none, 0, by rw [show er.length = 0 from h0]⟩
    · exact ⟨_, _, rfl⟩
  have c5 : w6.cell? ⟨ob + 1, 5, none⟩ = some (.slice A6 er.length c6) := hbx.cell 5
  have HRow := Lib.hid hrow
  have HMs6 := Lib.hid hms6
  have HK6 := Lib.hid hk6
  clear hbx hrow hms6 hw6 hk6 HN5
  go_wp2_with fail
  go_region
  all_goals
    go_wp2
    go_ret3
    refine ⟨A6, c6, rfl, HRow.out, ⟨made6, HMs6.out⟩, ((HB5.out.mono hw0).trans HK6.out.low).drew, fun k hk h1 h2 => ?_⟩
    refine (HK6.out.own k (Nat.lt_of_lt_of_le hk HB5.out.size) (by show k ≠ ob + 1; omega) (by show k ≠ ob; omega) h1 (fun cs fz => by rw [HB5.out.block k hk]; exact h2 cs fz)).trans (HB5.out.block k hk)
end Go.Proofs.YtpgiboblonlddaaGreatDoor

namespace Go.Proofs.YtpgiboblonlddaaGreatDoor
open Go.RowKit Go.ChangeMaps
set_option linter.unusedVariables false
set_option linter.unusedSimpArgs false
abbrev h16 : ByteArray := ⟨#[97, 32, 61, 32, 123, 32, 98, 32, 125, 32, 123, 32, 36, 120, 32, 125, 10, 98, 32, 61, 32, 66, 32, 123, 32, 97, 32, 125]⟩
abbrev a16 : EN := ⟨1, 0, E0, ⟨#[97]⟩, [.mk E0 (some (.mk 3 E0 ⟨#[98]⟩ E0 [] none [])), .mk ⟨#[32]⟩ none, .mk E0 (some (.mk 2 E0 ⟨#[120]⟩ E0 [] none []))], [], 0, 17⟩
abbrev b16 : EN := ⟨1, 0, E0, ⟨#[98]⟩, [.mk ⟨#[66, 32]⟩ none, .mk E0 (some (.mk 3 E0 ⟨#[97]⟩ E0 [] none []))], [], 17, 28⟩
theorem h16_doc : docS h16 = [a16, b16] := by
  unfold docS
  rw [show (⟨(decAll h16).toArray⟩ : ByteArray) = h16 by kernel_rfl]
  exact docF_ok (n := 60) (by kernel_rfl)
theorem lit_bytes (w : World) (s : ByteArray) (cs : Array Value) (fz : Nat × Nat) (hc : ∀ i, i < s.size → cs[i]? = some (.int .u8 (s.data.toList.getD i 0).toNat)) : Lib.Bytes (w.alloc (.cells cs 5 fz)) w.heap.size 0 s := by
  intro i hi
  rw [Nat.zero_add, Lib.cell_of_heap (heap_alloc_new w _), hc i hi]
  congr 2
  simp [List.getD, hi]
  rfl
theorem res_lit (w w0 : World) (s : ByteArray) (n : Nat) (h : Lib.Bytes w0 n 0 s) (hn : n < w0.heap.size) : ResAt w0 (some ⟨n, 0, none⟩) s s.size := fun W hW => conv_bytes s n s.size W (bytes_same h (hW.block n hn))
theorem srcs_one (w : World) (A : Option Addr) (s : ByteArray) (n c : Nat) (o : Bool) (hn : s.size = n) :
    SrcsAt (w.alloc (.cells #[.slice A n c, .bool o] 32)) w.heap.size [⟨A, s, c, o⟩] := by
  subst hn
  have hb : BoxAt (w.alloc (.cells #[.slice A s.size c, .bool o] 32)) w.heap.size #[.slice A s.size c, .bool o] 32 := BoxAt.new _ _ _
  intro j e h
  match j, h with
  | 0, h => simp at h; subst h; exact ⟨hb.cell 0, hb.cell 1⟩
set_option maxHeartbeats 1000000 in
theorem english_any (w : World) : Calls Tryz.prog 10 #[] w fun e w' => e = .returned (.agg #[.string ⟨#[101, 110]⟩, .string ⟨#[]⟩, .string ⟨#[]⟩, .slice none 0 0]) ∧ Below w.heap.size w w' := by
  go_enter Tryz.func10, Tryz.ntmps10
  go_wp2
  exact bodyPost_ret (v := .agg #[.string ⟨#[101, 110]⟩, .string ⟨#[]⟩, .string ⟨#[]⟩, .slice none 0 0]) (by simp [results, Tryz.results10, go_sem]) rfl ⟨rfl, (Below.refl _ _).alloc (Nat.le_refl _) _⟩
def strT (v : VV) : Option (ByteArray × Nat) := if v.kd = 0 then some (v.tx, 0) else none
set_option maxHeartbeats 2000000 in
set_option maxRecDepth 100000 in
theorem strT_any (km : Nat) (lang : ByteArray) (v : VV) (t : ByteArray) (d : Nat) (hs : strT v = some (t, d)) (W : World) (made : Bool) (n : Nat) (hm : MarksAt W km made n) : Calls Tryz.prog 18 #[v.v, .pointer (some ⟨km, 0, none⟩), .string lang] W fun e w' => e = .returned (.string t) ∧ (∃ made', MarksAt w' km made' (n + d)) ∧ Kp km W w' := by
  unfold strT at hs
  split at hs
  case isFalse => cases hs
  case isTrue h0 =>
    obtain ⟨kd, tx, v2, v3, v4, v5, v6, v7, v8, v9, v10, v11⟩ := v
    dsimp only at h0 hs
    subst h0
    simp only [Option.some.injEq, Prod.mk.injEq] at hs
    obtain ⟨rfl, rfl⟩ := hs
    have HM := Lib.hid hm
    have hl := hm.lt
    clear hm
    unfold VV.v VV.cells
    dsimp only
    go_enter Tryz.func18, Tryz.ntmps18
    go_wp2
    go_ret
    have hB := (Below.refl W.heap.size W).alloc (Nat.le_refl _) (.cells #[.int .i64 0, .string tx, .bool v2, .string v3, .int .i64 v4, .int .i64 v5, .int .i64 v6, .int .i64 v7, .bool v8, .bool v9, .int .i64 v10, .int .i64 v11] 69)
    exact ⟨rfl, ⟨made, HM.out.later hB⟩, Kp.of_below hB (Nat.le_of_lt hl)⟩
theorem marks_new0 (w : World) : MarksAt (w.alloc (.cells #[.int .u32 0, .int .i32 0, .int .u32 0, .map none, .int .i64 0] 55)) w.heap.size false 0 :=
  ⟨.map none, BoxAt.new _ _ _, fun h => by cases h⟩
theorem fm_in {w0 : World} {b mb tb km : Nat} {l sc rg : ByteArray} {M T : List VE} (hb : BunAt w0 b mb tb l sc rg M T) (hok : ∀ e, e ∈ M ∨ e ∈ T → sizeEs e.x.val + sizeTs e.x.ats ≤ 4000000) (hk : w0.heap.size ≤ km) : FmIn w0 b mb tb km l sc rg M T (fun _ => none) strT :=
  { bun := hb, ok := hok, kmb := hk, wris := fun t v W h _ => by simp at h, strs := fun v t d h W made n hm _ _ => strT_any km l v t d h W made n hm }
theorem two_of16 {vs : List VE} {a b : EN} (h : vs.map (·.x) = [a, b]) : ∃ e1 e2 : VE, vs = [e1, e2] ∧ e1.x = a ∧ e2.x = b := by
  match vs, h with
  | [e1, e2], h => simp at h; exact ⟨e1, e2, rfl, h.1, h.2⟩
theorem one_of16 {vs : List VE} {a : EN} (h : vs.map (·.x) = [a]) : ∃ e1 : VE, vs = [e1] ∧ e1.x = a := by
  match vs, h with
  | [e1], h => simp at h; exact ⟨e1, rfl, h⟩
theorem er_cell {w : World} {B : Nat} {A : Option Addr} {c : Nat} {er : List (Int × ByteArray)} (h : w.ownsRow B 59 2 (.slice A er.length c) er.length (erC er)) (h0 : 0 < er.length) : ∃ g, A = some ⟨g, 0, none⟩ ∧ ∀ j u, (erC er)[j]? = some u → w.cell? ⟨g, j, none⟩ = some u := by
  obtain ⟨g, cap, e⟩ := Joins.ownsRow_form h h0
  simp only [Value.slice.injEq] at e
  obtain ⟨rfl, _, rfl⟩ := e
  refine ⟨g, rfl, fun j u hj => ?_⟩
  have := h.cells (g := g) rfl j u hj
  rw [Addr.add_mid, Nat.zero_add] at this
  exact this
set_option maxHeartbeats 8000000 in
set_option maxRecDepth 100000 in
theorem head16_any (w : World) : Calls Tryz.prog 8 #[] w fun e w' => e = .returned (.bool true) ∧ Below w.heap.size w w' := by
  go_enter Tryz.func8, Tryz.ntmps8
  go_wp2_with fail
  go_at_call 10
  refine (english_any _).mono ?_
  rintro e w1 ⟨rfl, hb1⟩
  have B1 := Lib.hid hb1
  have hcc := Lib.run_convert_bytes_const (P := Tryz.prog) w1 24 5 #[.int .u8 97, .int .u8 32, .int .u8 61, .int .u8 32, .int .u8 123, .int .u8 32, .int .u8 98, .int .u8 32, .int .u8 125, .int .u8 32, .int .u8 123, .int .u8 32, .int .u8 36, .int .u8 120, .int .u8 32, .int .u8 125, .int .u8 10, .int .u8 98, .int .u8 32, .int .u8 61, .int .u8 32, .int .u8 66, .int .u8 32, .int .u8 123, .int .u8 32, .int .u8 97, .int .u8 32, .int .u8 125] 28 28 Tryz.underlying24 Tryz.underlying5
  clear hb1
  go_wp2_with fail
  go_at_call 9
  have hby := Lib.hid (lit_bytes w1 h16 #[.int .u8 97, .int .u8 32, .int .u8 61, .int .u8 32, .int .u8 123, .int .u8 32, .int .u8 98, .int .u8 32, .int .u8 125, .int .u8 32, .int .u8 123, .int .u8 32, .int .u8 36, .int .u8 120, .int .u8 32, .int .u8 125, .int .u8 10, .int .u8 98, .int .u8 32, .int .u8 61, .int .u8 32, .int .u8 66, .int .u8 32, .int .u8 123, .int .u8 32, .int .u8 97, .int .u8 32, .int .u8 125] (28, 29) (fun i hi => by
    have h4 : i < 28 := hi
    match i, h4 with
  | 0, _ => rfl
  | 1, _ => rfl
  | 2, _ => rfl
  | 3, _ => rfl
  | 4, _ => rfl
  | 5, _ => rfl
  | 6, _ => rfl
  | 7, _ => rfl
  | 8, _ => rfl
  | 9, _ => rfl
  | 10, _ => rfl
  | 11, _ => rfl
  | 12, _ => rfl
  | 13, _ => rfl
  | 14, _ => rfl
  | 15, _ => rfl
  | 16, _ => rfl
  | 17, _ => rfl
  | 18, _ => rfl
  | 19, _ => rfl
  | 20, _ => rfl
  | 21, _ => rfl
  | 22, _ => rfl
  | 23, _ => rfl
  | 24, _ => rfl
  | 25, _ => rfl
  | 26, _ => rfl
  | 27, _ => rfl
  | k + 28, h => exact absurd h (by omega)
))
  have HA1 := Lib.hid (B1.out.alloc B1.out.size (.cells #[.int .u8 97, .int .u8 32, .int .u8 61, .int .u8 32, .int .u8 123, .int .u8 32, .int .u8 98, .int .u8 32, .int .u8 125, .int .u8 32, .int .u8 123, .int .u8 32, .int .u8 36, .int .u8 120, .int .u8 32, .int .u8 125, .int .u8 10, .int .u8 98, .int .u8 32, .int .u8 61, .int .u8 32, .int .u8 66, .int .u8 32, .int .u8 123, .int .u8 32, .int .u8 97, .int .u8 32, .int .u8 125] 5 (28, 29)))
  have hVs : (w1.alloc (.cells #[.int .u8 97, .int .u8 32, .int .u8 61, .int .u8 32, .int .u8 123, .int .u8 32, .int .u8 98, .int .u8 32, .int .u8 125, .int .u8 32, .int .u8 123, .int .u8 32, .int .u8 36, .int .u8 120, .int .u8 32, .int .u8 125, .int .u8 10, .int .u8 98, .int .u8 32, .int .u8 61, .int .u8 32, .int .u8 66, .int .u8 32, .int .u8 123, .int .u8 32, .int .u8 97, .int .u8 32, .int .u8 125] 5 (28, 29))).heap.size = w1.heap.size + 1 := by simp
  generalize w1.alloc (.cells #[.int .u8 97, .int .u8 32, .int .u8 61, .int .u8 32, .int .u8 123, .int .u8 32, .int .u8 98, .int .u8 32, .int .u8 125, .int .u8 32, .int .u8 123, .int .u8 32, .int .u8 36, .int .u8 120, .int .u8 32, .int .u8 125, .int .u8 10, .int .u8 98, .int .u8 32, .int .u8 61, .int .u8 32, .int .u8 66, .int .u8 32, .int .u8 123, .int .u8 32, .int .u8 97, .int .u8 32, .int .u8 125] 5 (28, 29)) = V1 at *
  have hB1s := B1.out.size
  have HSr : SrcsAt (V1.alloc (.cells #[.slice (some ⟨w1.heap.size, 0, none⟩) 28 28, .bool false] 32)) (w1.heap.size + 1) [⟨some ⟨w1.heap.size, 0, none⟩, h16, 28, false⟩] := by
    rw [← hVs]
    exact srcs_one V1 _ h16 28 28 false rfl
  refine (build_any (w0 := V1) (w1.heap.size + 1) 1 [⟨some ⟨w1.heap.size, 0, none⟩, h16, 28, false⟩] _ _ _ _ (by simp; omega) HSr (of_decide_eq_true (by kernel_rfl)) (by simp) (fun e he => by simp only [List.mem_singleton] at he; subst he; exact res_lit V1 V1 h16 w1.heap.size hby.out (by omega)) ((Below.refl _ _).alloc (Nat.le_refl _) _)).mono ?_
  rintro e w2 ⟨b, M, T, rfl, hb0, hbun, hf, hbel⟩
  obtain ⟨mb, tb, hB⟩ := hbun (by simp)
  have B2 := Lib.hid (HA1.out.trans (((Below.refl _ V1).alloc (Nat.le_refl _) _ |>.trans (hbel.mono (by simp))).mono (by omega)))
  have hBs2 := B2.out.size
  obtain ⟨vs, hv, hM, hT⟩ := fills_one hf
  rw [h16_doc] at hv
  obtain ⟨⟨x1, A1, c1, D1, d1⟩, ⟨x2, A2, c2, D2, d2⟩, rfl, h1, h2⟩ := two_of16 hv
  dsimp only at h1 h2
  subst h1 h2
  obtain rfl : M = [⟨a16, A1, c1, D1, d1⟩, ⟨b16, A2, c2, D2, d2⟩] := hM.trans (by simp [putS, putL])
  obtain rfl : T = [] := hT.trans (by simp [putS, putL])
  have HB := Lib.hid hB
  clear hB hbun hf hv hM hT hbel HSr hby hcc HA1 B1
  have HOk := Lib.hid (fm_in (km := w2.heap.size) HB.out (fun e he => by
    simp only [List.mem_cons, List.not_mem_nil, or_false] at he
    rcases he with rfl | rfl <;> exact of_decide_eq_true (by kernel_rfl)) (Nat.le_refl _))
  go_wp2_with fail
  go_at_call 11
  refine (format_yes HOk.out ⟨#[97]⟩ ⟨#[]⟩ (entE ⟨a16, A1, c1, D1, d1⟩) (by kernel_rfl) (by kernel_rfl) (of_decide_eq_true (by kernel_rfl)) [] (.map none) 0 101 false ⟨#[66, 32, 123, 97, 125, 32, 123, 36, 120, 125]⟩ 3 0 [(7, ⟨#[97]⟩), (1, ⟨#[36, 120]⟩)] (fun wb ob => by kernel_rfl) _ ((Below.refl _ _).alloc (Nat.le_refl _) _) (marks_new0 w2) (.inl ⟨rfl, rfl⟩)).mono ?_
  rintro e w3 ⟨Ae, ce, rfl, hrow, ⟨m', hm'⟩, hbl, hoth⟩
  obtain ⟨g, rfl, hcs⟩ := er_cell hrow (by simp)
  have B3 := Lib.hid (B2.out.trans (((Below.refl _ w2).alloc (Nat.le_refl _) _ |>.trans hbl).mono hBs2))
  have q0 : w3.cell? ⟨g, 0, none⟩ = some (.int .i64 7) := hcs 0 _ rfl
  have q1 : w3.cell? ⟨g, 1, none⟩ = some (.string ⟨#[97]⟩) := hcs 1 _ rfl
  have q2 : w3.cell? ⟨g, 2, none⟩ = some (.int .i64 1) := hcs 2 _ rfl
  have q3 : w3.cell? ⟨g, 3, none⟩ = some (.string ⟨#[36, 120]⟩) := hcs 3 _ rfl
  clear hrow hm' hbl hoth hcs HOk HB B2
  dsimp only [List.length_cons, List.length_nil]
  go_wp2
  go_ret
  exact ⟨rfl, B3.out⟩
end Go.Proofs.YtpgiboblonlddaaGreatDoor

namespace Go.Proofs.YtpgiboblonlddaaGreatDoor
open Go.RowKit Go.ChangeMaps
set_option linter.unusedVariables false
set_option linter.unusedSimpArgs false
def repL (u : List UInt8) : Nat → List UInt8
  | 0 => []
  | n + 1 => repL u n ++ u
def repB (u : List UInt8) (n : Nat) : ByteArray := ⟨(repL u n).toArray⟩
theorem repL_length (u : List UInt8) : ∀ n, (repL u n).length = n * u.length
  | 0 => by simp [repL]
  | n + 1 => by rw [repL, List.length_append, repL_length u n, Nat.add_mul, Nat.one_mul]
theorem repB_size (u : List UInt8) (n : Nat) : (repB u n).size = n * u.length := by
  unfold repB
  rw [size_mk, repL_length]
theorem repB_succ (u : List UInt8) (n : Nat) : repB u n ++ ⟨u.toArray⟩ = repB u (n + 1) := by
  apply bytes_eq
  rw [app_data]
  rfl
theorem repL_one (a : UInt8) : ∀ (n i : Nat), i < n → (repL [a] n)[i]? = some a
  | n + 1, i, h => by
    rw [repL]
    have hl := repL_length [a] n
    simp at hl
    by_cases hi : i < n
    · rw [List.getElem?_append_left (by omega)]
      exact repL_one a n i hi
    · rw [List.getElem?_append_right (by omega), show i - (repL [a] n).length = 0 by omega]
      rfl
theorem repL_two (a b : UInt8) : ∀ (n i : Nat), i < n → (repL [a, b] n)[2 * i]? = some a ∧ (repL [a, b] n)[2 * i + 1]? = some b
  | n + 1, i, h => by
    rw [repL]
    have hl := repL_length [a, b] n
    simp at hl
    by_cases hi : i < n
    · rw [List.getElem?_append_left (by omega), List.getElem?_append_left (by omega)]
      exact repL_two a b n i hi
    · obtain rfl : i = n := by omega
      rw [List.getElem?_append_right (by omega), List.getElem?_append_right (by omega), show 2 * i - (repL [a, b] i).length = 0 by omega, show 2 * i + 1 - (repL [a, b] i).length = 1 by omega]
      exact ⟨rfl, rfl⟩
theorem count_one (n : Nat) : Lib.runeCount (repB [97] n) = n := by
  rw [Lib.runeCount_ascii, repB_size]
  · simp
  · intro j h
    have hj : j < n := by rw [repB_size] at h; simpa using h
    have h1 := repL_one 97 n j hj
    have h2 : (repB [97] n)[j] = 97 := by
      have h3 : (repL [97] n)[j]'(by rw [repL_length]; simpa using hj) = 97 := (List.getElem?_eq_some_iff.1 h1).2
      exact h3
    rw [h2]
    decide
theorem getB (l : List UInt8) (i : Nat) (c : UInt8) (h : l[i]? = some c) : (⟨l.toArray⟩ : ByteArray).get! i = c := by
  show l.toArray[i]! = c
  rw [getElem!_def]
  simp [h]
theorem count_two (n : Nat) : Lib.runeCount (repB [195, 169] n) = n := by
  have hs : (repB [195, 169] n).size = 2 * n := by rw [repB_size]; simp; omega
  have aux : ∀ (f i : Nat), i ≤ n → n - i ≤ f → Lib.runeCountFrom (repB [195, 169] n) f (2 * i) = n - i := by
    intro f
    induction f with
    | zero => intro i hi hf; rw [Lib.runeCountFrom]; omega
    | succ f ih =>
      intro i hi hf
      rw [Lib.runeCountFrom]
      by_cases h : i < n
      · rw [if_pos (by omega)]
        obtain ⟨h1, h2⟩ := repL_two 195 169 n i h
        have g1 := getB _ _ _ h1
        have g2 := getB _ _ _ h2
        have hd : (Utf8.decode (repB [195, 169] n) (2 * i)).2 = 2 := by
          have k1 : (repB [195, 169] n).get! (2 * i + 0) = 195 := g1
          have k2 : (repB [195, 169] n).get! (2 * i + 1) = 169 := g2
          have k3 : decide (2 * i + 1 < (repB [195, 169] n).size) = true := decide_eq_true (by omega)
          simp [Utf8.decode, k1, k2, k3, Nat.add_zero] 
          simp [show (repB [195, 169] n).get! (2 * i) = 195 from g1, k3]
        rw [hd, show 2 * i + 2 = 2 * (i + 1) by omega, ih (i + 1) (by omega) (by omega)]
        omega
      · rw [if_neg (by omega)]
        omega
  have := aux (repB [195, 169] n).size 0 (Nat.zero_le _) (by omega)
  rw [Nat.sub_zero] at this
  exact this
theorem long_spec (R : RL) (hR : R.str = strT) (nm : ByteArray) (s : ByteArray) (n : Nat) (hs : s.size ≤ 10000) :
    namedG (placeG R (n + 1)) nm [.mk ⟨#[120]⟩ none, .mk E0 (some (.mk 2 E0 ⟨#[118]⟩ E0 [] none [])), .mk ⟨#[121]⟩ none] [(⟨#[118]⟩, strV s)] [] ⟨0, [], 0⟩ =
      if 2500 < Lib.runeCount s then some (⟨#[120, 123, 63, 125, 121]⟩, ⟨1, [(9, ⟨#[63]⟩)], 0⟩) else some (⟨(120 :: s.data.toList ++ [121]).toArray⟩, ⟨1, [], 0⟩) := by
  have hv : valG R (placeG R n) (.mk 2 E0 ⟨#[118]⟩ E0 [] none []) [(⟨#[118]⟩, strV s)] [nm] ⟨1, [], 0⟩ = some (some (strV s), ⟨1, [], 0⟩) := by
    unfold valG
    simp [exK, exN, lookS]
  have he : exprG R (placeG R n) (.mk 2 E0 ⟨#[118]⟩ E0 [] none []) [(⟨#[118]⟩, strV s)] [nm] ⟨1, [], 0⟩ = some (s, ⟨1, [], 0⟩) := by
    unfold exprG
    rw [hv, hR]
    have : strT (strV s) = some (s, 0) := rfl
    dsimp only
    rw [this]
    dsimp only
    rw [if_pos ⟨by omega, by omega⟩]
  have hp : placeG R (n + 1) (.mk 2 E0 ⟨#[118]⟩ E0 [] none []) [(⟨#[118]⟩, strV s)] ([] ++ [nm]) ⟨0, [], 0⟩ = if 2500 < Lib.runeCount s then some (leftB, ⟨1, [(9, ⟨#[63]⟩)], 0⟩) else some (s, ⟨1, [], 0⟩) := by
    show (if (0 : Nat) = 100 then (badG 8 ⟨#[63]⟩ ⟨0 + 1, [], 0⟩).map (fun s => (leftB, s)) else if 100 < 0 then (if (0 : Nat) ≤ 1000000000 then some (leftB, (⟨0 + 1, [], 0⟩ : RSt)) else none) else match exprG R (placeG R n) (.mk 2 E0 ⟨#[118]⟩ E0 [] none []) [(⟨#[118]⟩, strV s)] [nm] ⟨0 + 1, [], 0⟩ with
      | none => none
      | some q => if 2500 < Lib.runeCount q.1 then (badG 9 ⟨#[63]⟩ q.2).map fun s => (leftB, s) else some q) = _
    rw [if_neg (by omega), if_neg (by omega), he]
    dsimp only
    split
    · rfl
    · rfl
  unfold namedG
  rw [patG, if_pos (by decide), patG]
  dsimp only
  rw [hp]
  by_cases h : 2500 < Lib.runeCount s
  · rw [if_pos h, if_pos h]
    rfl
  · rw [if_neg h, if_neg h]
    dsimp only
    rw [if_pos (by simp; show 1 + s.size ≤ 100000000000; omega), patG, if_pos (by simp; show s.size + 1 + 1 ≤ 100000000000; omega), patG]
    rfl
end Go.Proofs.YtpgiboblonlddaaGreatDoor

namespace Go.Proofs.YtpgiboblonlddaaGreatDoor
open Go.RowKit Go.ChangeMaps
set_option linter.unusedVariables false
set_option linter.unusedSimpArgs false
theorem erC_two : ∀ (l : List (Int × ByteArray)) (i : Nat) (h : i < l.length), (erC l)[i * 2]? = some (.int .i64 l[i].1) ∧ (erC l)[i * 2 + 1]? = some (.string l[i].2)
  | [], i, h => absurd h (by simp)
  | (c, n) :: r, 0, h => ⟨rfl, rfl⟩
  | (c, n) :: r, i + 1, h => by
    have e : erC ((c, n) :: r) = .int .i64 c :: .string n :: erC r := rfl
    have ih := erC_two r i (by simpa using h)
    rw [e, show (i + 1) * 2 = i * 2 + 1 + 1 by omega]
    simp only [List.getElem?_cons_succ, List.getElem_cons_succ]
    exact ih
def ErAt (w : World) (A : Option Addr) (er : List (Int × ByteArray)) : Prop := 0 < er.length → ∃ g, A = some ⟨g, 0, none⟩ ∧ g < w.heap.size ∧ ∀ j u, (erC er)[j]? = some u → w.cell? ⟨g, j, none⟩ = some u
theorem ErAt.row {w : World} {B : Nat} {A : Option Addr} {c : Nat} {er : List (Int × ByteArray)} (h : w.ownsRow B 59 2 (.slice A er.length c) er.length (erC er)) : ErAt w A er := fun h0 => by
  obtain ⟨g, rfl, hc⟩ := er_cell h h0
  refine ⟨g, rfl, ?_, hc⟩
  have h1 := hc 0 _ ((erC_two er 0 h0).1)
  exact cell_lt h1
theorem ErAt.later {w w' : World} {A : Option Addr} {er : List (Int × ByteArray)} (h : ErAt w A er) (g : Below w.heap.size w w') : ErAt w' A er := fun h0 => by
  obtain ⟨k, e, hk, hc⟩ := h h0
  exact ⟨k, e, Nat.lt_of_lt_of_le hk g.size, fun j u hj => (g.cell (p := ⟨k, j, none⟩) hk).trans (hc j u hj)⟩
set_option maxHeartbeats 8000000 in
set_option maxRecDepth 100000 in
theorem same16_any (A A' : Option Addr) (c c' : Nat) (er : List (Int × ByteArray)) (w : World) (h1 : ErAt w A er) (h2 : ErAt w A' er) (hn : er.length ≤ 1000000) :
    Calls Tryz.prog 12 #[.slice A er.length c, .slice A' er.length c'] w fun e w' => e = .returned (.bool true) ∧ Below w.heap.size w w' := by
  have hn0 : (er.length : Int) ≤ 1000000 := by omega
  have f0 : ((er.length : Int) == (er.length : Int)) = true := beq_self_eq_true _
  have Ha := Lib.hid h1
  have Hb := Lib.hid h2
  clear h1 h2
  go_enter Tryz.func12, Tryz.ntmps12
  go_wp2
  go_loopw [13] (fun t13 wr => ∃ (i : Nat), t13 = .int .i64 i ∧ i ≤ er.length ∧ Hid (Below w.heap.size w wr)) (fun t13 _ => er.length - (intOf t13).toNat)
  case atStart => exact ⟨0, rfl, Nat.zero_le _, Lib.hid (Below.refl _ _)⟩
  case round =>
    obtain ⟨i, rfl, hi, HB⟩ := hrel
    have hi0 : (i : Int) ≤ 1000000 := by omega
    by_cases hlt : i < er.length
    · have f1 : decide ((i : Int) < (er.length : Int)) = true := decide_eq_true (by omega)
      have f2 : (i : Int) < (er.length : Int) := by omega
      obtain ⟨ka, rfl, hka, hca⟩ := Ha.out (by omega)
      obtain ⟨kb, rfl, hkb, hcb⟩ := Hb.out (by omega)
      obtain ⟨t1, t2⟩ := erC_two er i hlt
      have c1 := (HB.out.cell (p := ⟨ka, i * 2, none⟩) hka).trans (hca _ _ t1)
      have c2 := (HB.out.cell (p := ⟨ka, i * 2 + 1, none⟩) hka).trans (hca _ _ t2)
      have c3 := (HB.out.cell (p := ⟨kb, i * 2, none⟩) hkb).trans (hcb _ _ t1)
      have c4 := (HB.out.cell (p := ⟨kb, i * 2 + 1, none⟩) hkb).trans (hcb _ _ t2)
      have z1 : ka < wr.heap.size := Nat.lt_of_lt_of_le hka HB.out.size
      have z2 : kb < wr.heap.size := Nat.lt_of_lt_of_le hkb HB.out.size
      generalize er[i].1 = p at *
      generalize er[i].2 = q at *
      clear hca hcb t1 t2
      have g1 : q.toList == q.toList := beq_self_eq_true _
      have g2 : (p == p) = true := beq_self_eq_true _
      go_wp2
      go_quiet (fail)
      go_wp2
      exact ⟨⟨i + 1, by go_num, hlt, Lib.hid (below_drewN HB.out _)⟩, by simp [intOf]; omega⟩
    · obtain rfl : i = er.length := by omega
      have f1 : decide ((er.length : Int) < (er.length : Int)) = false := decide_eq_false (by omega)
      go_wp2
      go_ret
      exact ⟨rfl, HB.out⟩
end Go.Proofs.YtpgiboblonlddaaGreatDoor
