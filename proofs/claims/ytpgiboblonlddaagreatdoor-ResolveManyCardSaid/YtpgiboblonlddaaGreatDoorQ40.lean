/-
  Several texts put together (part 40): what the law and the program call, walked; their contracts.
-/
import Derived.Test.YtpgiboblonlddaaGreatDoorQ27
import Derived.Test.YtpgiboblonlddaaGreatDoorQ33
import Derived.Test.YtpgiboblonlddaaGreatDoorQ38
import Derived.OwnWalk
import Derived.Test.YtpgiboblonlddaaGreatDoorQ39
import Derived.Laws.StructEq
import Derived.Test.YtpgiboblonlddaaGreatDoorQ20
import Derived.Lib.ConvBytes
namespace Go.Proofs.YtpgiboblonlddaaGreatDoor
open Go.RowKit Go.ChangeMaps
set_option linter.unusedVariables false
set_option linter.unusedSimpArgs false
theorem es_get {W : World} : ∀ {l : List EL} {b o : Nat} (j : Nat) {t : ByteArray} {p : Option EX}, EsAt W l b o → l[j]? = some (.mk t p) → W.cell? ⟨b, o + j * 2, none⟩ = some (.string t) ∧ ∃ u, W.cell? ⟨b, o + j * 2 + 1, none⟩ = some u ∧ OAt W p u
  | [], b, o, j, t, p, h, hj => by simp at hj
  | .mk t0 p0 :: r, b, o, 0, t, p, h, hj => by
    simp at hj
    obtain ⟨rfl, rfl⟩ := hj
    rw [EsAt] at h
    obtain ⟨_, h1, ⟨u, h2, h3⟩, _⟩ := h
    exact ⟨h1, u, h2, h3⟩
  | .mk t0 p0 :: r, b, o, j + 1, t, p, h, hj => by
    rw [EsAt] at h
    have := es_get j h.2.2.2 (by simpa using hj)
    rw [show o + (j + 1) * 2 = o + 2 + j * 2 by omega]
    exact this
theorem CP.patw2 {R : RL} {W : World} {B : Nat} {l : List EL} {A : Option Addr} {c : Nat} (h : CP R.w0 B l W A c) (hne : ∀ g, B ≤ g → (∃ cs fz, W.heap[g]? = some (.cells cs 123 fz)) → g ≠ R.wb ∧ g ≠ R.ob ∧ g ≠ R.km) : PatW R W l A c := by
  intro h0
  obtain ⟨_, _, h4⟩ := h
  obtain ⟨g, news, rfl, hB, hgl, hc, _, ⟨cs, fz, ht⟩, hl, b0, o0, hE, hn⟩ := h4 h0
  obtain ⟨n1, n2, n3⟩ := hne g hB ⟨cs, fz, ht⟩
  refine ⟨g, 0, rfl, .inr ⟨hgl, n1, n2, n3, fun cs' fz' e => ?_⟩, fun j t p hj => ?_⟩
  · rw [ht] at e
    exact absurd (Obj.cells.inj (Option.some.inj e)).2.1 (by decide)
  · obtain ⟨g1, u, g2, g3⟩ := es_get j hE hj
    have hjl : j < l.length := (List.getElem?_eq_some_iff.1 hj).1
    obtain ⟨x, hx⟩ : ∃ x, news[j * 2]? = some x := ⟨_, List.getElem?_eq_getElem (by omega)⟩
    obtain ⟨y, hy⟩ : ∃ y, news[j * 2 + 1]? = some y := ⟨_, List.getElem?_eq_getElem (by omega)⟩
    have e1 := hn _ _ hx
    have e2 := hn _ _ hy
    rw [g1] at e1
    rw [show o0 + (j * 2 + 1) = o0 + j * 2 + 1 by omega, g2] at e2
    have k1 := hc _ _ hx
    have k2 := hc _ _ hy
    simp only [Option.some.injEq] at e1 e2
    subst e1
    subst e2
    rw [Nat.zero_add]
    refine ⟨k1, ?_⟩
    cases p with
    | none =>
      simp only [OAt] at g3
      subst g3
      exact .inl ⟨rfl, k2⟩
    | some e =>
      obtain ⟨eb, eo, rfl, hx⟩ := g3.exw
      exact .inr ⟨e, eb, eo, rfl, k2, hx⟩
theorem TsF.atR {W : World} {F : Nat → Prop} (g : ∀ b, F b → b < W.heap.size) : ∀ (l : List AT) (b o : Nat), TsF W F l b o → TsAt W l b o
  | [], b, o, _ => by rw [TsAt]; trivial
  | .mk n v :: r, b, o, h => by
    rw [TsF] at h
    rw [TsAt]
    obtain ⟨hb, h1, ⟨u, h3, h5⟩, h4⟩ := h
    exact ⟨g b hb, h1, ⟨u, h3, LieAt.imp h5 (fun b o => EsF.at_ g v b o)⟩, TsF.atR g r b _ h4⟩
theorem AtsF.atR {W : World} {F : Nat → Prop} (g : ∀ b, F b → b < W.heap.size) {l : List AT} {v : Value} (h : AtsF W F l v) : LieAt (TsAt W l) v l.length := LieAt.imp h (fun b o => TsF.atR g l b o)
theorem PatF.atR {W : World} {F : Nat → Prop} (g : ∀ b, F b → b < W.heap.size) {l : List EL} {v : Value} (h : PatF W F l v) : PatAt W l v := LieAt.imp h (fun b o => EsF.at_ g l b o)
theorem CP.patw {R : RL} {W : World} {B : Nat} {l : List EL} {A : Option Addr} {c : Nat} (h : CP R.w0 B l W A c) (h1 : R.wb < B) (h2 : R.ob < B) (h3 : R.km < B) : PatW R W l A c := h.patw2 fun g hg _ => ⟨by omega, by omega, by omega⟩
def entE (e : VE) : Ent := ⟨e.x.ty, e.x.lv, e.x.tx, e.x.nm, e.A, e.x.val.length, e.c, e.B, e.x.ats.length, e.d, e.x.fr, e.x.tu, attrF e.x.val e.x.ats⟩
def entB (M T : List VE) (tm : Bool) (n : ByteArray) : Option Ent := (lookL n (if tm then T else M)).map entE
theorem ent_msg {w0 : World} {b mb tb : Nat} {l sc rg : ByteArray} {M T : List VE} (h : BunAt w0 b mb tb l sc rg M T) (n : ByteArray) (W : World) (hW : Below w0.heap.size w0 W) :
    Calls Tryz.prog 22 #[.pointer (some ⟨b, 0, none⟩), .string n] W fun e w' => e = .returned (.tuple #[((entB M T false n).getD noEnt).v, .bool (entB M T false n).isSome]) ∧ Below W.heap.size W w' := by
  unfold entB
  simp only [Bool.false_eq_true, if_false]
  cases hl : lookL n M with
  | none => exact message_no (h.later hW) hl
  | some e =>
    obtain ⟨x, A, c, B, d⟩ := e
    exact message_is (h.later hW) hl
theorem lookL_mem {n : ByteArray} {L : List VE} {e : VE} (h : lookL n L = some e) : e ∈ L := (look_some h).1
theorem ent_att {w0 : World} {b mb tb : Nat} {l sc rg : ByteArray} {M T : List VE} (h : BunAt w0 b mb tb l sc rg M T) (hok : ∀ e, e ∈ M ∨ e ∈ T → sizeEs e.x.val + sizeTs e.x.ats ≤ 4000000) (tm : Bool) (n at' : ByteArray) (x : Ent) (W : World) (hx : entB M T tm n = some x) (hW : Below w0.heap.size w0 W) :
    Calls Tryz.prog 23 #[x.v, .string at'] W fun e w' => ∃ A c, e = .returned (.tuple #[.slice A (x.pat at').2.length c, .bool (x.pat at').1]) ∧ CP w0 W.heap.size (x.pat at').2 w' A c ∧ Below W.heap.size W w' := by
  unfold entB at hx
  obtain ⟨e, he, rfl⟩ := Option.map_eq_some_iff.1 hx
  have hm : e ∈ M ∨ e ∈ T := by
    cases tm with
    | false => exact .inl (lookL_mem he)
    | true => exact .inr (lookL_mem he)
  obtain ⟨h1, h2⟩ := h.tr e hm
  exact attr_any e.x.ty e.x.lv e.x.fr e.x.tu e.x.tx e.x.nm at' e.x.val e.x.ats _ _ (h1.atR (fun k hk => hk.1)) (h2.atR (fun k hk => hk.1)) (hok e hm) W hW
theorem ent_siz {M T : List VE} (hok : ∀ e, e ∈ M ∨ e ∈ T → sizeEs e.x.val + sizeTs e.x.ats ≤ 4000000) (tm : Bool) (n at' : ByteArray) (x : Ent) (hx : entB M T tm n = some x) : sizeEs (x.pat at').2 ≤ 4000000 := by
  unfold entB at hx
  obtain ⟨e, he, rfl⟩ := Option.map_eq_some_iff.1 hx
  have hm : e ∈ M ∨ e ∈ T := by
    cases tm with
    | false => exact .inl (lookL_mem he)
    | true => exact .inr (lookL_mem he)
  have := hok e hm
  show sizeEs (attrF e.x.val e.x.ats at').2 ≤ 4000000
  unfold attrF
  split
  · show sizeEs e.x.val ≤ _
    omega
  · have h := lastA_size at' e.x.ats (false, [])
    simp only [sizeEs] at h
    omega
set_option maxHeartbeats 2000000 in
set_option maxRecDepth 100000 in
theorem tag_any (b : Nat) (l sc rg : ByteArray) (m t : Value) (w : World) (h : BoxAt w b (bunC l sc rg m t) 115) :
    Calls Tryz.prog 24 #[.pointer (some ⟨b, 0, none⟩)] w fun e w' => e = .returned (.agg #[.string l, .string sc, .string rg, .slice none 0 0]) ∧ Below w.heap.size w w' := by
  have c0 : w.cell? ⟨b, 0, none⟩ = some (.string l) := h.cell 0
  have c1 : w.cell? ⟨b, 1, none⟩ = some (.string sc) := h.cell 1
  have c2 : w.cell? ⟨b, 2, none⟩ = some (.string rg) := h.cell 2
  have c3 : w.cell? ⟨b, 3, none⟩ = some (.slice none 0 0) := h.cell 3
  have hc := fun W => copied_nil l sc rg W
  have hbl := h.lt
  have HO := Lib.hid (BoxAt.new w #[.string ⟨#[]⟩, .string ⟨#[]⟩, .string ⟨#[]⟩, .slice none 0 0] 29)
  have HA := Lib.hid ((Below.refl w.heap.size w).alloc (Nat.le_refl _) (.cells #[.string ⟨#[]⟩, .string ⟨#[]⟩, .string ⟨#[]⟩, .slice none 0 0] 29))
  clear h
  go_enter Tryz.func24, Tryz.ntmps24
  go_wp2_with fail
  go_at_call 39
  refine (hc _).mono ?_
  rintro e w2 ⟨rfl, hb2⟩
  have HO2 := Lib.hid (HO.out.later hb2)
  have HB2 := Lib.hid (HA.out.trans (hb2.mono HA.out.size))
  have o0 := fun j => BoxAt.cell HO2.out j
  have oz := fun j => BoxAt.z HO2.out j
  have ol := BoxAt.lt HO2.out
  clear hb2
  go_wp2
  have B4 := (((HO2.out.set 0 (.string l)).set 1 (.string sc)).set 2 (.string rg)).set 3 (.slice none 0 0)
  have hL := Lib.hid ((((HB2.out.setCell (p := ⟨w.heap.size, 0, none⟩) (Nat.le_refl _) (.string l)).setCell (p := ⟨w.heap.size, 1, none⟩) (Nat.le_refl _) (.string sc)).setCell (p := ⟨w.heap.size, 2, none⟩) (Nat.le_refl _) (.string rg)).setCell (p := ⟨w.heap.size, 3, none⟩) (Nat.le_refl _) (.slice none 0 0))
  have y0 := B4.cell 0
  have y1 := B4.cell 1
  have y2 := B4.cell 2
  have y3 := B4.cell 3
  simp only [List.getElem?_toArray, List.getElem?_cons_zero, List.getElem?_cons_succ, List.setIfInBounds_toArray, List.set_cons_zero, List.set_cons_succ] at y0 y1 y2 y3
  clear B4 o0 oz
  generalize (((w2.setCell ⟨w.heap.size, 0, none⟩ (.string l)).setCell ⟨w.heap.size, 1, none⟩ (.string sc)).setCell ⟨w.heap.size, 2, none⟩ (.string rg)).setCell ⟨w.heap.size, 3, none⟩ (.slice none 0 0) = w4 at *
  exact bodyPost_ret (v := .agg #[.string l, .string sc, .string rg, .slice none 0 0]) (by simp [results, Tryz.results24, go_sem, y0, y1, y2, y3]) rfl ⟨rfl, hL.out⟩
end Go.Proofs.YtpgiboblonlddaaGreatDoor

namespace Go.Proofs.YtpgiboblonlddaaGreatDoor
open Go.RowKit Go.ChangeMaps
set_option linter.unusedVariables false
set_option linter.unusedSimpArgs false
structure FmIn (w0 : World) (b mb tb km : Nat) (l sc rg : ByteArray) (M T : List VE) (wri : ByteArray → Option VV) (str : VV → Option (ByteArray × Nat)) : Prop where
  bun : BunAt w0 b mb tb l sc rg M T
  ok : ∀ e, e ∈ M ∨ e ∈ T → sizeEs e.x.val + sizeTs e.x.ats ≤ 4000000
  kmb : w0.heap.size ≤ km
  wris : ∀ (t : ByteArray) (v : VV) (W : World), wri t = some v → Below w0.heap.size w0 W → Calls Tryz.prog 32 #[.string t] W fun e w' => e = .returned v.v ∧ Below W.heap.size W w'
  strs : ∀ (v : VV) (t : ByteArray) (d : Nat), str v = some (t, d) → ∀ (W : World) (made : Bool) (n : Nat), MarksAt W km made n → n ≤ 900 → Below w0.heap.size w0 W → Calls Tryz.prog 18 #[v.v, .pointer (some ⟨km, 0, none⟩), .string l] W fun e w' => e = .returned (.string t) ∧ (∃ made', MarksAt w' km made' (n + d)) ∧ Kp km W w'
theorem FmIn.rl {w0 : World} {b mb tb km : Nat} {l sc rg : ByteArray} {M T : List VE} {wri : ByteArray → Option VV} {str : VV → Option (ByteArray × Nat)} (h : FmIn w0 b mb tb km l sc rg M T wri str) {wb ob : Nat} (h1 : km < ob) (h2 : ob < wb) : (RL.mk w0 b km wb ob l (entB M T) wri str).Ok where
  wb := by have := h.kmb; show w0.heap.size ≤ wb; omega
  ob := by have := h.kmb; show w0.heap.size ≤ ob; omega
  km := h.kmb
  n1 := by show wb ≠ ob; omega
  n2 := by show wb ≠ km; omega
  n3 := by show ob ≠ km; omega
  msg := fun n W hW => ent_msg h.bun n W hW
  att := fun tm n at' x W hx hW hl => (ent_att h.bun h.ok tm n at' x W hx hW).mono fun e w' ⟨A, c, g1, g2, g3⟩ => ⟨A, c, g1, g2.patw hl.1 hl.2.1 hl.2.2, g3⟩
  siz := fun tm n at' x hx => ent_siz h.ok tm n at' x hx
  wris := h.wris
  strs := h.strs
set_option maxHeartbeats 16000000 in
set_option maxRecDepth 100000 in
theorem format_yes {w0 : World} {b mb tb km : Nat} {l sc rg : ByteArray} {M T : List VE} {wri : ByteArray → Option VV} {str : VV → Option (ByteArray × Nat)} (hI : FmIn w0 b mb tb km l sc rg M T wri str) (nm at' : ByteArray) (x : Ent) (hx : entB M T false nm = some x) (hp : (x.pat at').1 = true) (hns : nm.size + at'.size ≤ 900000000)
    (a : Sc) (av : Value) (n0 N : Nat) (made : Bool) (t : ByteArray) (pl ask : Nat) (er : List (Int × ByteArray)) (hg : ∀ wb ob, namedG (placeG (RL.mk w0 b km wb ob l (entB M T) wri str) N) (joinN nm at') (x.pat at').2 a [] ⟨0, [], n0⟩ = some (t, ⟨pl, er, ask⟩))
    (W : World) (hW : Below w0.heap.size w0 W) (hm : MarksAt W km made n0) (ha : (a = [] ∧ av = .map none) ∨ ∃ ab c, av = .map (some ab) ∧ ab ≠ km ∧ MapAt W ab (a.zipIdx.map fun p => ({ key := .string p.1.1, val := p.1.2.v, born := p.2 } : MapEntry)).toArray c) :
    Calls Tryz.prog 11 #[.pointer (some ⟨b, 0, none⟩), .pointer (some ⟨km, 0, none⟩), .string nm, .string at', av] W fun e w' =>
      ∃ A c, e = .returned (.tuple #[.string t, .slice A er.length c, .bool true]) ∧ w'.ownsRow w0.heap.size 59 2 (.slice A er.length c) er.length (erC er) ∧ (∃ made', MarksAt w' km made' ask) ∧ Below w0.heap.size W w' ∧
        (∀ k, k < W.heap.size → k ≠ km → NotErr W k → w'.heap[k]? = W.heap[k]?) := by
  have HI := Lib.hid hI
  have HM := Lib.hid (fun V hV => ent_msg hI.bun nm V hV)
  have HAt := Lib.hid (fun V hV => ent_att hI.bun hI.ok false nm at' x V hx hV)
  have HSz := Lib.hid (ent_siz hI.ok false nm at' x hx)
  have HTg := Lib.hid (fun V (hV : Below w0.heap.size w0 V) => tag_any b l sc rg _ _ V (hI.bun.box.later hV))
  have HJ := Lib.hid (fun V => joined_any nm at' V (by omega))
  have hkl := hm.lt
  have hw0 := hW.size
  obtain ⟨pok, pq, hpat⟩ : ∃ pok pq, x.pat at' = (pok, pq) := ⟨_, _, rfl⟩
  rw [hpat] at hp hg HSz
  simp only [hpat] at HAt
  dsimp only at hp hg HSz
  subst hp
  rw [hx] at HM
  obtain ⟨ty, lv, tx, xnm, A1, n1, c1, A2, n2, c2, fr, tu, pat⟩ := x
  unfold Ent.v at HM HAt
  dsimp only [Option.getD_some, Option.isSome_some] at HM HAt
  have HG := Lib.hid hg
  have HW0 := Lib.hid hW
  have HMs := Lib.hid hm
  have HAv := Lib.hid ha
  have hmk := fun W => run_makeMap (P := Tryz.prog) 94 W
  obtain ⟨ao, rfl⟩ : ∃ o, av = .map o := by
    rcases ha with ⟨_, rfl⟩ | ⟨ab, c, rfl, _⟩ <;> exact ⟨_, rfl⟩
  have hfd : ∀ w : World, (Instr.field 29 (.agg #[.string l, .string sc, .string rg, .slice none 0 0]) 0).run Tryz.prog w = .ok (.string l) w := fun _ => by kernel_rfl
  clear hI hx hg hW hm ha hpat hns
  go_enter Tryz.func11, Tryz.ntmps11
  go_wp2_with fail
  go_at_call 22
  refine (HM.out W HW0.out).mono ?_
  rintro e w1 ⟨rfl, b1⟩
  have B1 := Lib.hid (below_new b1 (Nat.le_refl _) (.cells #[.int .i64 ty, .int .i64 lv, .string tx, .string xnm, .slice A1 n1 c1, .slice A2 n2 c2, .int .i64 fr, .int .i64 tu] 89))
  have HE1 := Lib.hid (BoxAt.new w1 #[.int .i64 ty, .int .i64 lv, .string tx, .string xnm, .slice A1 n1 c1, .slice A2 n2 c2, .int .i64 fr, .int .i64 tu] 89)
  clear b1 HM
  go_upto_region 2 with fail
  generalize w1.alloc (.cells #[.int .i64 ty, .int .i64 lv, .string tx, .string xnm, .slice A1 n1 c1, .slice A2 n2 c2, .int .i64 fr, .int .i64 tu] 89) = V1 at *
  have e0 := BoxAt.cell HE1.out 0
  have e1 := BoxAt.cell HE1.out 1
  have e2 := BoxAt.cell HE1.out 2
  have e3 := BoxAt.cell HE1.out 3
  have e4 := BoxAt.cell HE1.out 4
  have e5 := BoxAt.cell HE1.out 5
  have e6 := BoxAt.cell HE1.out 6
  have e7 := BoxAt.cell HE1.out 7
  simp only [List.getElem?_toArray, List.getElem?_cons_zero, List.getElem?_cons_succ] at e0 e1 e2 e3 e4 e5 e6 e7
  have hbf1 := HW0.out.trans (B1.out.mono hw0)
  go_wp2_with fail
  go_at_call 23
  refine (HAt.out V1 hbf1).mono ?_
  rintro e w2 ⟨Ap, cp, rfl, hcp, b2⟩
  have B2 := Lib.hid (B1.out.trans (b2.mono B1.out.size))
  have HCP := Lib.hid hcp
  have hs1 := B1.out.size
  clear b2 hcp HAt e0 e1 e2 e3 e4 e5 e6 e7 hbf1 HE1
  have hbf2 := HW0.out.trans (B2.out.mono hw0)
  go_wp2_with fail
  go_at_call 24
  refine (HTg.out w2 hbf2).mono ?_
  rintro e w3 ⟨rfl, b3⟩
  have B3 := Lib.hid (B2.out.trans (b3.mono B2.out.size))
  have hs3 := B3.out.size
  have HC3 := Lib.hid (HCP.out.same (W' := w3) (fun g _ hgl _ => b3.block g hgl))
  clear b3 HTg HCP B1 B2 hbf2
  have HB5 := Lib.hid (((B3.out.alloc hs3 (.map #[] 0)).alloc (by simp; omega) (.cells #[.pointer (some ⟨b, 0, none⟩), .pointer (some ⟨km, 0, none⟩), .string l, .map (some w3.heap.size), .int .i64 0, .slice none 0 0] 96)))
  have hX5 : BoxAt ((w3.alloc (.map #[] 0)).alloc (.cells #[.pointer (some ⟨b, 0, none⟩), .pointer (some ⟨km, 0, none⟩), .string l, .map (some w3.heap.size), .int .i64 0, .slice none 0 0] 96)) (w3.heap.size + 1) #[.pointer (some ⟨b, 0, none⟩), .pointer (some ⟨km, 0, none⟩), .string l, .map (some w3.heap.size), .int .i64 0, .slice none 0 0] 96 := BoxAt.new' _ _ _ _ (by simp)
  have hM5 : MapAt ((w3.alloc (.map #[] 0)).alloc (.cells #[.pointer (some ⟨b, 0, none⟩), .pointer (some ⟨km, 0, none⟩), .string l, .map (some w3.heap.size), .int .i64 0, .slice none 0 0] 96)) w3.heap.size (openE []) 0 := (MapAt.new w3 w3.heap.size #[] 0 rfl).alloc _
  have HWr := Lib.hid (show WrAt (RL.mk w0 b km (w3.heap.size + 1) w3.heap.size l (entB M T) wri str) _ [] ⟨0, [], n0⟩ from ⟨HW0.out.trans (HB5.out.mono hw0), ⟨.slice none 0 0, hX5, World.ownsRow_nil _ _ _ _⟩, ⟨[], 0, hM5, rfl⟩, made, HMs.out.later HB5.out⟩)
  have HOk := Lib.hid (HI.out.rl (wb := w3.heap.size + 1) (ob := w3.heap.size) (by omega) (by omega))
  have HC5 := Lib.hid (HC3.out.same (W' := (w3.alloc (.map #[] 0)).alloc (.cells #[.pointer (some ⟨b, 0, none⟩), .pointer (some ⟨km, 0, none⟩), .string l, .map (some w3.heap.size), .int .i64 0, .slice none 0 0] 96)) (fun g _ hgl _ => by rw [Below.heap_alloc _ _ _ (by simp; omega), Below.heap_alloc _ _ _ hgl]))
  have HPw := Lib.hid (HC5.out.patw2 (R := RL.mk w0 b km (w3.heap.size + 1) w3.heap.size l (entB M T) wri str) (fun g hg ht0 => by
    obtain ⟨cs, fz, ht⟩ := ht0
    refine ⟨fun e => ?_, fun e => ?_, fun e => ?_⟩
    · have h2 := hX5
      unfold BoxAt at h2
      rw [show g = w3.heap.size + 1 from e, h2] at ht
      exact absurd (Obj.cells.inj (Option.some.inj ht)).2.1 (by decide)
    · have h2 := hM5
      unfold MapAt at h2
      rw [show g = w3.heap.size from e, h2] at ht
      cases ht
    · have e2 : g = km := e
      omega))
  have HSc := Lib.hid (show ScAt (RL.mk w0 b km (w3.heap.size + 1) w3.heap.size l (entB M T) wri str) _ a (.map ao) from by
    rcases HAv.out with h | ⟨ab, c, h1, h2, h3⟩
    · exact .inl h
    · have := h3.lt
      exact .inr ⟨ab, c, h1, by show ab ≠ w3.heap.size; omega, h2, h3.later HB5.out⟩)
  have HN5 := Lib.hid (namedR_any HOk.out.toFar (placeG_to HOk.out N) (joinN nm at') pq Ap cp a (.map ao) ⟨0, [], n0⟩ ⟨pl, er, ask⟩ t _ rfl HPw.out HSz.out (HG.out _ _) HWr.out HSc.out)
  have hV5 : w3.heap.size + 1 < ((w3.alloc (.map #[] 0)).alloc (.cells #[.pointer (some ⟨b, 0, none⟩), .pointer (some ⟨km, 0, none⟩), .string l, .map (some w3.heap.size), .int .i64 0, .slice none 0 0] 96)).heap.size := by simp
  clear hM5 hX5 HPw HSc HC3 HC5
  go_upto_region 8 with fail
  generalize (w3.alloc (.map #[] 0)).alloc (.cells #[.pointer (some ⟨b, 0, none⟩), .pointer (some ⟨km, 0, none⟩), .string l, .map (some w3.heap.size), .int .i64 0, .slice none 0 0] 96) = V5 at *
  generalize w3.heap.size = ob at *
  go_wp2_with fail
  go_at_call 26
  refine (HJ.out V5).mono ?_
  rintro e w5 ⟨rfl, rfl⟩
  go_wp2_with fail
  go_at_call 25
  refine HN5.out.mono ?_
  rintro e w6 ⟨rfl, hw6, hk6⟩
  obtain ⟨ev, hbx, hrow⟩ := hw6.box
  obtain ⟨made6, hms6⟩ := hw6.ms
  obtain ⟨A6, c6, rfl⟩ : ∃ A c, ev = .slice A er.length c := by
    rcases Joins.ownsRow_forms hrow with ⟨rfl, h0⟩ | ⟨g, cap, rfl⟩
    · exact ⟨none, 0, by rw [show er.length = 0 from h0]⟩
    · exact ⟨_, _, rfl⟩
  have c5 : w6.cell? ⟨ob + 1, 5, none⟩ = some (.slice A6 er.length c6) := hbx.cell 5
  have HRow := Lib.hid hrow
  have HMs6 := Lib.hid hms6
  have HK6 := Lib.hid hk6
  clear hbx hrow hms6 hw6 hk6 HN5
  go_wp2_with fail
  go_region
  all_goals
    go_wp2
    go_ret3
    refine ⟨A6, c6, rfl, HRow.out, ⟨made6, HMs6.out⟩, ((HB5.out.mono hw0).trans HK6.out.low).drew, fun k hk h1 h2 => ?_⟩
    refine (HK6.out.own k (Nat.lt_of_lt_of_le hk HB5.out.size) (by show k ≠ ob + 1; omega) (by show k ≠ ob; omega) h1 (fun cs fz => by rw [HB5.out.block k hk]; exact h2 cs fz)).trans (HB5.out.block k hk)
end Go.Proofs.YtpgiboblonlddaaGreatDoor

namespace Go.Proofs.YtpgiboblonlddaaGreatDoor
open Go.RowKit Go.ChangeMaps
set_option linter.unusedVariables false
set_option linter.unusedSimpArgs false
abbrev h16 : ByteArray := ⟨#[97, 32, 61, 32, 123, 32, 98, 32, 125, 32, 123, 32, 36, 120, 32, 125, 10, 98, 32, 61, 32, 66, 32, 123, 32, 97, 32, 125]⟩
abbrev a16 : EN := ⟨1, 0, E0, ⟨#[97]⟩, [.mk E0 (some (.mk 3 E0 ⟨#[98]⟩ E0 [] none [])), .mk ⟨#[32]⟩ none, .mk E0 (some (.mk 2 E0 ⟨#[120]⟩ E0 [] none []))], [], 0, 17⟩
abbrev b16 : EN := ⟨1, 0, E0, ⟨#[98]⟩, [.mk ⟨#[66, 32]⟩ none, .mk E0 (some (.mk 3 E0 ⟨#[97]⟩ E0 [] none []))], [], 17, 28⟩
theorem h16_doc : docS h16 = [a16, b16] := by
  unfold docS
  rw [show (⟨(decAll h16).toArray⟩ : ByteArray) = h16 by kernel_rfl]
  exact docF_ok (n := 60) (by kernel_rfl)
theorem lit_bytes (w : World) (s : ByteArray) (cs : Array Value) (fz : Nat × Nat) (hc : ∀ i, i < s.size → cs[i]? = some (.int .u8 (s.data.toList.getD i 0).toNat)) : Lib.Bytes (w.alloc (.cells cs 5 fz)) w.heap.size 0 s := by
  intro i hi
  rw [Nat.zero_add, Lib.cell_of_heap (heap_alloc_new w _), hc i hi]
  congr 2
  simp [List.getD, hi]
  rfl
theorem res_lit (w w0 : World) (s : ByteArray) (n : Nat) (h : Lib.Bytes w0 n 0 s) (hn : n < w0.heap.size) : ResAt w0 (some ⟨n, 0, none⟩) s s.size := fun W hW => conv_bytes s n s.size W (bytes_same h (hW.block n hn))
theorem srcs_one (w : World) (A : Option Addr) (s : ByteArray) (n c : Nat) (o : Bool) (hn : s.size = n) :
    SrcsAt (w.alloc (.cells #[.slice A n c, .bool o] 32)) w.heap.size [⟨A, s, c, o⟩] := by
  subst hn
  have hb : BoxAt (w.alloc (.cells #[.slice A s.size c, .bool o] 32)) w.heap.size #[.slice A s.size c, .bool o] 32 := BoxAt.new _ _ _
  intro j e h
  match j, h with
  | 0, h => simp at h; subst h; exact ⟨hb.cell 0, hb.cell 1⟩
set_option maxHeartbeats 1000000 in
theorem english_any (w : World) : Calls Tryz.prog 10 #[] w fun e w' => e = .returned (.agg #[.string ⟨#[101, 110]⟩, .string ⟨#[]⟩, .string ⟨#[]⟩, .slice none 0 0]) ∧ Below w.heap.size w w' := by
  go_enter Tryz.func10, Tryz.ntmps10
  go_wp2
  exact bodyPost_ret (v := .agg #[.string ⟨#[101, 110]⟩, .string ⟨#[]⟩, .string ⟨#[]⟩, .slice none 0 0]) (by simp [results, Tryz.results10, go_sem]) rfl ⟨rfl, (Below.refl _ _).alloc (Nat.le_refl _) _⟩
def strT (v : VV) : Option (ByteArray × Nat) := if v.kd = 0 then some (v.tx, 0) else none
set_option maxHeartbeats 2000000 in
set_option maxRecDepth 100000 in
theorem strT_any (km : Nat) (lang : ByteArray) (v : VV) (t : ByteArray) (d : Nat) (hs : strT v = some (t, d)) (W : World) (made : Bool) (n : Nat) (hm : MarksAt W km made n) : Calls Tryz.prog 18 #[v.v, .pointer (some ⟨km, 0, none⟩), .string lang] W fun e w' => e = .returned (.string t) ∧ (∃ made', MarksAt w' km made' (n + d)) ∧ Kp km W w' := by
  unfold strT at hs
  split at hs
  case isFalse => cases hs
  case isTrue h0 =>
    obtain ⟨kd, tx, v2, v3, v4, v5, v6, v7, v8, v9, v10, v11⟩ := v
    dsimp only at h0 hs
    subst h0
    simp only [Option.some.injEq, Prod.mk.injEq] at hs
    obtain ⟨rfl, rfl⟩ := hs
    have HM := Lib.hid hm
    have hl := hm.lt
    clear hm
    unfold VV.v VV.cells
    dsimp only
    go_enter Tryz.func18, Tryz.ntmps18
    go_wp2
    go_ret
    have hB := (Below.refl W.heap.size W).alloc (Nat.le_refl _) (.cells #[.int .i64 0, .string tx, .bool v2, .string v3, .int .i64 v4, .int .i64 v5, .int .i64 v6, .int .i64 v7, .bool v8, .bool v9, .int .i64 v10, .int .i64 v11] 69)
    exact ⟨rfl, ⟨made, HM.out.later hB⟩, Kp.of_below hB (Nat.le_of_lt hl)⟩
theorem marks_new0 (w : World) : MarksAt (w.alloc (.cells #[.int .u32 0, .int .i32 0, .int .u32 0, .map none, .int .i64 0] 55)) w.heap.size false 0 :=
  ⟨.map none, BoxAt.new _ _ _, fun h => by cases h⟩
theorem fm_in {w0 : World} {b mb tb km : Nat} {l sc rg : ByteArray} {M T : List VE} (hb : BunAt w0 b mb tb l sc rg M T) (hok : ∀ e, e ∈ M ∨ e ∈ T → sizeEs e.x.val + sizeTs e.x.ats ≤ 4000000) (hk : w0.heap.size ≤ km) : FmIn w0 b mb tb km l sc rg M T (fun _ => none) strT :=
  { bun := hb, ok := hok, kmb := hk, wris := fun t v W h _ => by simp at h, strs := fun v t d h W made n hm _ _ => strT_any km l v t d h W made n hm }
theorem two_of16 {vs : List VE} {a b : EN} (h : vs.map (·.x) = [a, b]) : ∃ e1 e2 : VE, vs = [e1, e2] ∧ e1.x = a ∧ e2.x = b := by
  match vs, h with
  | [e1, e2], h => simp at h; exact ⟨e1, e2, rfl, h.1, h.2⟩
theorem one_of16 {vs : List VE} {a : EN} (h : vs.map (·.x) = [a]) : ∃ e1 : VE, vs = [e1] ∧ e1.x = a := by
  match vs, h with
  | [e1], h => simp at h; exact ⟨e1, rfl, h⟩
theorem er_cell {w : World} {B : Nat} {A : Option Addr} {c : Nat} {er : List (Int × ByteArray)} (h : w.ownsRow B 59 2 (.slice A er.length c) er.length (erC er)) (h0 : 0 < er.length) : ∃ g, A = some ⟨g, 0, none⟩ ∧ ∀ j u, (erC er)[j]? = some u → w.cell? ⟨g, j, none⟩ = some u := by
  obtain ⟨g, cap, e⟩ := Joins.ownsRow_form h h0
  simp only [Value.slice.injEq] at e
  obtain ⟨rfl, _, rfl⟩ := e
  refine ⟨g, rfl, fun j u hj => ?_⟩
  have := h.cells (g := g) rfl j u hj
  rw [Addr.add_mid, Nat.zero_add] at this
  exact this
set_option maxHeartbeats 8000000 in
set_option maxRecDepth 100000 in
theorem head16_any (w : World) : Calls Tryz.prog 8 #[] w fun e w' => e = .returned (.bool true) ∧ Below w.heap.size w w' := by
  go_enter Tryz.func8, Tryz.ntmps8
  go_wp2_with fail
  go_at_call 10
  refine (english_any _).mono ?_
  rintro e w1 ⟨rfl, hb1⟩
  have B1 := Lib.hid hb1
  have hcc := Lib.run_convert_bytes_const (P := Tryz.prog) w1 24 5 #[.int .u8 97, .int .u8 32, .int .u8 61, .int .u8 32, .int .u8 123, .int .u8 32, .int .u8 98, .int .u8 32, .int .u8 125, .int .u8 32, .int .u8 123, .int .u8 32, .int .u8 36, .int .u8 120, .int .u8 32, .int .u8 125, .int .u8 10, .int .u8 98, .int .u8 32, .int .u8 61, .int .u8 32, .int .u8 66, .int .u8 32, .int .u8 123, .int .u8 32, .int .u8 97, .int .u8 32, .int .u8 125] 28 28 Tryz.underlying24 Tryz.underlying5
  clear hb1
  go_wp2_with fail
  go_at_call 9
  have hby := Lib.hid (lit_bytes w1 h16 #[.int .u8 97, .int .u8 32, .int .u8 61, .int .u8 32, .int .u8 123, .int .u8 32, .int .u8 98, .int .u8 32, .int .u8 125, .int .u8 32, .int .u8 123, .int .u8 32, .int .u8 36, .int .u8 120, .int .u8 32, .int .u8 125, .int .u8 10, .int .u8 98, .int .u8 32, .int .u8 61, .int .u8 32, .int .u8 66, .int .u8 32, .int .u8 123, .int .u8 32, .int .u8 97, .int .u8 32, .int .u8 125] (28, 29) (fun i hi => by
    have h4 : i < 28 := hi
    match i, h4 with
  | 0, _ => rfl
  | 1, _ => rfl
  | 2, _ => rfl
  | 3, _ => rfl
  | 4, _ => rfl
  | 5, _ => rfl
  | 6, _ => rfl
  | 7, _ => rfl
  | 8, _ => rfl
  | 9, _ => rfl
  | 10, _ => rfl
  | 11, _ => rfl
  | 12, _ => rfl
  | 13, _ => rfl
  | 14, _ => rfl
  | 15, _ => rfl
  | 16, _ => rfl
  | 17, _ => rfl
  | 18, _ => rfl
  | 19, _ => rfl
  | 20, _ => rfl
  | 21, _ => rfl
  | 22, _ => rfl
  | 23, _ => rfl
  | 24, _ => rfl
  | 25, _ => rfl
  | 26, _ => rfl
  | 27, _ => rfl
  | k + 28, h => exact absurd h (by omega)
))
  have HA1 := Lib.hid (B1.out.alloc B1.out.size (.cells #[.int .u8 97, .int .u8 32, .int .u8 61, .int .u8 32, .int .u8 123, .int .u8 32, .int .u8 98, .int .u8 32, .int .u8 125, .int .u8 32, .int .u8 123, .int .u8 32, .int .u8 36, .int .u8 120, .int .u8 32, .int .u8 125, .int .u8 10, .int .u8 98, .int .u8 32, .int .u8 61, .int .u8 32, .int .u8 66, .int .u8 32, .int .u8 123, .int .u8 32, .int .u8 97, .int .u8 32, .int .u8 125] 5 (28, 29)))
  have hVs : (w1.alloc (.cells #[.int .u8 97, .int .u8 32, .int .u8 61, .int .u8 32, .int .u8 123, .int .u8 32, .int .u8 98, .int .u8 32, .int .u8 125, .int .u8 32, .int .u8 123, .int .u8 32, .int .u8 36, .int .u8 120, .int .u8 32, .int .u8 125, .int .u8 10, .int .u8 98, .int .u8 32, .int .u8 61, .int .u8 32, .int .u8 66, .int .u8 32, .int .u8 123, .int .u8 32, .int .u8 97, .int .u8 32, .int .u8 125] 5 (28, 29))).heap.size = w1.heap.size + 1 := by simp
  generalize w1.alloc (.cells #[.int .u8 97, .int .u8 32, .int .u8 61, .int .u8 32, .int .u8 123, .int .u8 32, .int .u8 98, .int .u8 32, .int .u8 125, .int .u8 32, .int .u8 123, .int .u8 32, .int .u8 36, .int .u8 120, .int .u8 32, .int .u8 125, .int .u8 10, .int .u8 98, .int .u8 32, .int .u8 61, .int .u8 32, .int .u8 66, .int .u8 32, .int .u8 123, .int .u8 32, .int .u8 97, .int .u8 32, .int .u8 125] 5 (28, 29)) = V1 at *
  have hB1s := B1.out.size
  have HSr : SrcsAt (V1.alloc (.cells #[.slice (some ⟨w1.heap.size, 0, none⟩) 28 28, .bool false] 32)) (w1.heap.size + 1) [⟨some ⟨w1.heap.size, 0, none⟩, h16, 28, false⟩] := by
    rw [← hVs]
    exact srcs_one V1 _ h16 28 28 false rfl
  refine (build_any (w0 := V1) (w1.heap.size + 1) 1 [⟨some ⟨w1.heap.size, 0, none⟩, h16, 28, false⟩] _ _ _ _ (by simp; omega) HSr (of_decide_eq_true (by kernel_rfl)) (by simp) (fun e he => by simp only [List.mem_singleton] at he; subst he; exact res_lit V1 V1 h16 w1.heap.size hby.out (by omega)) ((Below.refl _ _).alloc (Nat.le_refl _) _)).mono ?_
  rintro e w2 ⟨b, M, T, rfl, hb0, hbun, hf, hbel⟩
  obtain ⟨mb, tb, hB⟩ := hbun (by simp)
  have B2 := Lib.hid (HA1.out.trans (((Below.refl _ V1).alloc (Nat.le_refl _) _ |>.trans (hbel.mono (by simp))).mono (by omega)))
  have hBs2 := B2.out.size
  obtain ⟨vs, hv, hM, hT⟩ := fills_one hf
  rw [h16_doc] at hv
  obtain ⟨⟨x1, A1, c1, D1, d1⟩, ⟨x2, A2, c2, D2, d2⟩, rfl, h1, h2⟩ := two_of16 hv
  dsimp only at h1 h2
  subst h1 h2
  obtain rfl : M = [⟨a16, A1, c1, D1, d1⟩, ⟨b16, A2, c2, D2, d2⟩] := hM.trans (by simp [putS, putL])
  obtain rfl : T = [] := hT.trans (by simp [putS, putL])
  have HB := Lib.hid hB
  clear hB hbun hf hv hM hT hbel HSr hby hcc HA1 B1
  have HOk := Lib.hid (fm_in (km := w2.heap.size) HB.out (fun e he => by
    simp only [List.mem_cons, List.not_mem_nil, or_false] at he
    rcases he with rfl | rfl <;> exact of_decide_eq_true (by kernel_rfl)) (Nat.le_refl _))
  go_wp2_with fail
  go_at_call 11
  refine (format_yes HOk.out ⟨#[97]⟩ ⟨#[]⟩ (entE ⟨a16, A1, c1, D1, d1⟩) (by kernel_rfl) (by kernel_rfl) (of_decide_eq_true (by kernel_rfl)) [] (.map none) 0 101 false ⟨#[66, 32, 123, 97, 125, 32, 123, 36, 120, 125]⟩ 3 0 [(7, ⟨#[97]⟩), (1, ⟨#[36, 120]⟩)] (fun wb ob => by kernel_rfl) _ ((Below.refl _ _).alloc (Nat.le_refl _) _) (marks_new0 w2) (.inl ⟨rfl, rfl⟩)).mono ?_
  rintro e w3 ⟨Ae, ce, rfl, hrow, ⟨m', hm'⟩, hbl, hoth⟩
  obtain ⟨g, rfl, hcs⟩ := er_cell hrow (by simp)
  have B3 := Lib.hid (B2.out.trans (((Below.refl _ w2).alloc (Nat.le_refl _) _ |>.trans hbl).mono hBs2))
  have q0 : w3.cell? ⟨g, 0, none⟩ = some (.int .i64 7) := hcs 0 _ rfl
  have q1 : w3.cell? ⟨g, 1, none⟩ = some (.string ⟨#[97]⟩) := hcs 1 _ rfl
  have q2 : w3.cell? ⟨g, 2, none⟩ = some (.int .i64 1) := hcs 2 _ rfl
  have q3 : w3.cell? ⟨g, 3, none⟩ = some (.string ⟨#[36, 120]⟩) := hcs 3 _ rfl
  clear hrow hm' hbl hoth hcs HOk HB B2
  dsimp only [List.length_cons, List.length_nil]
  go_wp2
  go_ret
  exact ⟨rfl, B3.out⟩
end Go.Proofs.YtpgiboblonlddaaGreatDoor

namespace Go.Proofs.YtpgiboblonlddaaGreatDoor
open Go.RowKit Go.ChangeMaps
set_option linter.unusedVariables false
set_option linter.unusedSimpArgs false
def oneE : EX := .mk 1 ⟨#[49]⟩ E0 E0 [] none []
def oneP (b : Bool) : List UInt8 := if b then [123, 32, 123, 32, 49, 32, 125, 32, 125] else [123, 32, 49, 32, 125]
def oneX (b : Bool) : EX := if b then .mk 6 E0 E0 E0 [] (some oneE) [] else oneE
theorem bl_one (A R : List UInt8) (c : UInt8) (h : blB c = false) : bl (mkB (A ++ 32 :: c :: R)) A.length = A.length + 1 := by
  rw [bl_app, List.takeWhile_cons, List.takeWhile_cons, h]
  rfl
theorem nub_one (A R : List UInt8) : nubS (mkB (A ++ 49 :: 32 :: R)) A.length = some (oneE, A.length + 1) := by
  have hn : nu (mkB (A ++ 49 :: 32 :: R)) A.length = A.length + 1 := by
    unfold nu numN
    rw [mkB_list, at0_app]
    have e1 : behN dgB (A ++ 49 :: 32 :: R) A.length = A.length + 1 := by
      rw [behN_app, List.takeWhile_cons, List.takeWhile_cons]
      rfl
    have e2 : at0 (A ++ 49 :: 32 :: R) (A.length + 1) = 32 := by
      have e : A ++ 49 :: 32 :: R = (A ++ [49]) ++ 32 :: R := by simp
      have e3 : A.length + 1 = (A ++ [(49 : UInt8)]).length := by simp
      rw [e, e3, at0_app]
    have e4 : behN dgB (A ++ 49 :: 32 :: R) (A.length + 1) = A.length + 1 := by
      have e : A ++ 49 :: 32 :: R = (A ++ [49]) ++ 32 :: R := by simp
      have e3 : A.length + 1 = (A ++ [(49 : UInt8)]).length := by simp
      rw [e, e3, behN_app, List.takeWhile_cons]
      rfl
    dsimp only
    simp only [show ¬ ((49 : UInt8) = 45) by decide, and_false, if_false, e1, e2, show ¬ ((32 : UInt8) = 46) by decide, e4]
    rw [if_pos (by omega), if_neg (by omega)]
  unfold nubS
  rw [hn, if_neg (by omega)]
  have hx : (mkB (A ++ 49 :: 32 :: R)).extract A.length (A.length + 1) = ⟨#[49]⟩ := by
    apply bytes_eq
    simp [mkB, ByteArray.extract, ByteArray.copySlice]
  rw [hx]
  rfl
theorem head_num (r : Nat) (A R : List UInt8) : headS (placeS (mkB (A ++ 49 :: 32 :: R)) r) (mkB (A ++ 49 :: 32 :: R)) A.length = some (oneE, A.length + 1) := by
  unfold headS
  rw [quo_none A (32 :: R) 49 (by decide)]
  have hv : varS (mkB (A ++ 49 :: 32 :: R)) A.length = none := by unfold varS; rw [isAt_app]; rfl
  have ht : terS (mkB (A ++ 49 :: 32 :: R)) A.length = none := by unfold terS; rw [isAt_app]; rfl
  have hr : refS 3 (mkB (A ++ 49 :: 32 :: R)) A.length = none := by unfold refS; rw [nm_none A (32 :: R) 49 (by decide), if_pos rfl]
  have hp : placeS (mkB (A ++ 49 :: 32 :: R)) r A.length = none := by
    cases r with
    | zero => rfl
    | succ r => rw [placeS, if_neg (by rw [isAt_app]; decide)]
  rw [hv, ht, hr, nub_one]
  unfold nestS
  rw [hp]
  rfl
theorem one_place (r : Nat) (A R : List UInt8) : placeS (mkB (A ++ 123 :: 32 :: 49 :: 32 :: 125 :: R)) (r + 1) A.length = some (oneE, A.length + 5) := by
  have e1 : A ++ 123 :: 32 :: 49 :: 32 :: 125 :: R = (A ++ [123]) ++ 32 :: 49 :: (32 :: 125 :: R) := by simp
  have e2 : A ++ 123 :: 32 :: 49 :: 32 :: 125 :: R = (A ++ [123, 32]) ++ 49 :: 32 :: (125 :: R) := by simp
  have e3 : A ++ 123 :: 32 :: 49 :: 32 :: 125 :: R = (A ++ [123, 32, 49]) ++ 32 :: 125 :: R := by simp
  have e4 : A ++ 123 :: 32 :: 49 :: 32 :: 125 :: R = (A ++ [123, 32, 49, 32]) ++ 125 :: R := by simp
  have b1 : bl (mkB (A ++ 123 :: 32 :: 49 :: 32 :: 125 :: R)) (A.length + 1) = A.length + 2 := by
    have h := bl_one (A ++ [123]) (32 :: 125 :: R) 49 (by decide)
    rw [← e1] at h
    simpa using h
  have b2 : bl (mkB (A ++ 123 :: 32 :: 49 :: 32 :: 125 :: R)) (A.length + 3) = A.length + 4 := by
    have h := bl_one (A ++ [123, 32, 49]) R 125 (by decide)
    rw [← e3] at h
    simpa using h
  have b3 : isAt (mkB (A ++ 123 :: 32 :: 49 :: 32 :: 125 :: R)) (A.length + 4) 125 = true := by
    have h := isAt_app (A ++ [123, 32, 49, 32]) R 125 125
    rw [← e4] at h
    simpa using h
  have hi : inlS (placeS (mkB (A ++ 123 :: 32 :: 49 :: 32 :: 125 :: R)) r) (mkB (A ++ 123 :: 32 :: 49 :: 32 :: 125 :: R)) (A.length + 2) = some (oneE, A.length + 3) := by
    have h := head_num r (A ++ [123, 32]) (125 :: R)
    rw [← e2] at h
    have h2 : headS (placeS (mkB (A ++ 123 :: 32 :: 49 :: 32 :: 125 :: R)) r) (mkB (A ++ 123 :: 32 :: 49 :: 32 :: 125 :: R)) (A.length + 2) = some (oneE, A.length + 3) := by simpa using h
    exact inl_flat _ _ _ h2 (by decide) (by decide)
  rw [placeS, if_pos (by rw [isAt_app]; rfl), b1, hi]
  dsimp only
  rw [b2, if_pos b3, if_neg (by decide)]
theorem two_place (r : Nat) (A R : List UInt8) : placeS (mkB (A ++ 123 :: 32 :: 123 :: 32 :: 49 :: 32 :: 125 :: 32 :: 125 :: R)) (r + 2) A.length = some (.mk 6 E0 E0 E0 [] (some oneE) [], A.length + 9) := by
  generalize hs : A ++ 123 :: 32 :: 123 :: 32 :: 49 :: 32 :: 125 :: 32 :: 125 :: R = L
  have e0 : L = A ++ 123 :: (32 :: 123 :: 32 :: 49 :: 32 :: 125 :: 32 :: 125 :: R) := by rw [← hs]
  have e1 : L = (A ++ [123]) ++ 32 :: 123 :: (32 :: 49 :: 32 :: 125 :: 32 :: 125 :: R) := by rw [← hs]; simp
  have e2 : L = (A ++ [123, 32]) ++ 123 :: 32 :: 49 :: 32 :: 125 :: (32 :: 125 :: R) := by rw [← hs]; simp
  have e3 : L = (A ++ [123, 32, 123, 32, 49, 32, 125]) ++ 32 :: 125 :: R := by rw [← hs]; simp
  have e4 : L = (A ++ [123, 32, 123, 32, 49, 32, 125, 32]) ++ 125 :: R := by rw [← hs]; simp
  have b1 : bl (mkB L) (A.length + 1) = A.length + 2 := by
    have h := bl_one (A ++ [123]) (32 :: 49 :: 32 :: 125 :: 32 :: 125 :: R) 123 (by decide)
    rw [← e1] at h
    simpa using h
  have b2 : bl (mkB L) (A.length + 7) = A.length + 8 := by
    have h := bl_one (A ++ [123, 32, 123, 32, 49, 32, 125]) R 125 (by decide)
    rw [← e3] at h
    simpa using h
  have b3 : isAt (mkB L) (A.length + 8) 125 = true := by
    have h := isAt_app (A ++ [123, 32, 123, 32, 49, 32, 125, 32]) R 125 125
    rw [← e4] at h
    simpa using h
  have hp : placeS (mkB L) (r + 1) (A.length + 2) = some (oneE, A.length + 7) := by
    have h := one_place r (A ++ [123, 32]) (32 :: 125 :: R)
    rw [← e2] at h
    simpa using h
  have hi : inlS (placeS (mkB L) (r + 1)) (mkB L) (A.length + 2) = some (.mk 6 E0 E0 E0 [] (some oneE) [], A.length + 7) := by
    have hp2 : placeS (mkB L) (r + 1) (A ++ [(123 : UInt8), 32]).length = some (oneE, A.length + 7) := by simpa using hp
    have h := head_nest (placeS (mkB L) (r + 1)) (A ++ [123, 32]) (32 :: 49 :: 32 :: 125 :: (32 :: 125 :: R)) hp2
    rw [← e2] at h
    have h2 : headS (placeS (mkB L) (r + 1)) (mkB L) (A.length + 2) = some (.mk 6 E0 E0 E0 [] (some oneE) [], A.length + 7) := by simpa using h
    exact inl_flat _ _ _ h2 (by decide) (by decide)
  rw [show r + 2 = (r + 1) + 1 from rfl, placeS, if_pos (by rw [e0, isAt_app]; rfl), b1, hi]
  dsimp only
  rw [b2, if_pos b3, if_neg (by decide)]
theorem x_place (b : Bool) (A R : List UInt8) : placeS (mkB (A ++ (oneP b ++ R))) 20 A.length = some (oneX b, A.length + (oneP b).length) := by
  cases b with
  | false => exact one_place 19 A R
  | true => exact two_place 18 A R
def many (b : Bool) (n : Nat) : List UInt8 := (List.replicate n (oneP b)).flatten
theorem many_succ (b : Bool) (n : Nat) : many b (n + 1) = oneP b ++ many b n := by simp [many, List.replicate_succ]
theorem oneP_cons (b : Bool) : ∃ u, oneP b = 123 :: u := by cases b <;> exact ⟨_, rfl⟩
theorem tx_brace (A R : List UInt8) : tx (mkB (A ++ 123 :: R)) A.length = A.length := by
  unfold tx
  rw [mkB_list, behN_app, List.takeWhile_cons, show txB 123 = false by decide]
  rfl
theorem parts_many (b : Bool) : ∀ (n : Nat) (A : List UInt8) (acc : List EL), partsS (placeS (mkB (A ++ many b n)) 20) (mkB (A ++ many b n)) acc A.length = some (acc ++ List.replicate n (.mk E0 (some (oneX b))), (A ++ many b n).length)
  | 0, A, acc => by
    have ht : tx (mkB (A ++ many b 0)) A.length = A.length := by
      unfold tx
      rw [mkB_list, behN_app]
      rfl
    rw [partsS, ht, if_neg, addT, if_neg (by omega)]
    · simp [many]
    · unfold isAt
      rw [mkB_size]
      simp [many]
  | n + 1, A, acc => by
    obtain ⟨u, hu⟩ := oneP_cons b
    have e1 : A ++ many b (n + 1) = A ++ 123 :: (u ++ many b n) := by rw [many_succ, hu]; rfl
    have e2 : A ++ many b (n + 1) = A ++ (oneP b ++ many b n) := by rw [many_succ]
    have e3 : A ++ many b (n + 1) = (A ++ oneP b) ++ many b n := by rw [e2, List.append_assoc]
    have ht : tx (mkB (A ++ many b (n + 1))) A.length = A.length := by rw [e1, tx_brace]
    have hp : placeS (mkB (A ++ many b (n + 1))) 20 A.length = some (oneX b, A.length + (oneP b).length) := by rw [e2, x_place]
    have hl : 1 ≤ (oneP b).length := by rw [hu]; simp
    have ih := parts_many b n (A ++ oneP b) (acc ++ [.mk E0 (some (oneX b))])
    rw [← e3, List.length_append] at ih
    rw [partsS, ht, if_pos (by rw [e1, isAt_app]; rfl), hp]
    dsimp only
    rw [dif_pos ⟨by omega, by rw [mkB_size, e3]; simp⟩, addT, if_neg (by omega), ih]
    simp [List.replicate_succ]
theorem enc_ascii (c : UInt8) (h : c.toNat < 128) : Lib.encodeRune c.toNat = [c] := by
  have : ∀ x : Fin 256, x.val < 128 → Lib.encodeRune (UInt8.ofNat x.val).toNat = [UInt8.ofNat x.val] := by decide +kernel
  have h2 := this ⟨c.toNat, UInt8.toNat_lt c⟩ h
  rw [show UInt8.ofNat c.toNat = c from UInt8.ofNat_toNat] at h2
  exact h2
theorem dec_from (L : List UInt8) (h : ∀ c ∈ L, c.toNat < 128 ∧ c ≠ 13) : ∀ (f pos : Nat), L.length - pos ≤ f → decFrom (mkB L) f pos = L.drop pos
  | 0, pos, hf => by rw [decFrom, List.drop_eq_nil_of_le (by omega)]
  | f + 1, pos, hf => by
    rw [decFrom]
    by_cases hp : pos < L.length
    · have hp2 : pos < (mkB L).size := by rw [mkB_size]; exact hp
      have hb : (mkB L)[pos]'hp2 = L[pos] := rfl
      obtain ⟨h1, h2⟩ := h L[pos] (List.getElem_mem hp)
      rw [if_pos hp2, decode_ascii (mkB L) pos hp2 (by rw [hb]; exact h1), hb]
      dsimp only
      rw [if_neg, enc_ascii _ h1, dec_from L h f (pos + 1) (by omega), List.drop_eq_getElem_cons hp]
      · rfl
      · intro e
        apply h2
        have e2 : L[pos].toNat = (13 : UInt8).toNat := by
          exact e
        exact UInt8.toNat_inj.1 e2
    · rw [if_neg (by rw [mkB_size]; exact hp), List.drop_eq_nil_of_le (by omega)]
theorem dec_plain (L : List UInt8) (h : ∀ c ∈ L, c.toNat < 128 ∧ c ≠ 13) : (⟨(decAll (mkB L)).toArray⟩ : ByteArray) = mkB L := by
  unfold decAll
  rw [dec_from L h _ 0 (by rw [mkB_size]; omega)]
  rfl
def manyL (b : Bool) (n : Nat) : List UInt8 := [97, 32, 61, 32, 120] ++ many b n
def psM (b : Bool) (n : Nat) : List EL := .mk ⟨#[120]⟩ none :: List.replicate n (.mk E0 (some (oneX b)))
def enM (b : Bool) (n : Nat) : EN := ⟨1, 0, E0, ⟨#[97]⟩, psM b n, [], 0, (manyL b n).length⟩
theorem many_plain (b : Bool) (n : Nat) : ∀ c ∈ manyL b n, c.toNat < 128 ∧ c ≠ 13 := by
  intro c hc
  unfold manyL at hc
  rw [List.mem_append] at hc
  rcases hc with hc | hc
  · revert c; decide
  · unfold many at hc
    rw [List.mem_flatten] at hc
    obtain ⟨l, hl, hc⟩ := hc
    obtain rfl := List.eq_of_mem_replicate hl
    cases b <;> revert c <;> decide
theorem fold_many (b : Bool) : ∀ (n : Nat) (acc : List EL), (List.replicate n (EL.mk E0 (some (oneX b)))).foldl partJ (acc, []) = (acc ++ List.replicate n (.mk E0 (some (oneX b))), [])
  | 0, acc => by simp
  | n + 1, acc => by
    rw [List.replicate_succ, List.foldl_cons]
    show (List.replicate n (EL.mk E0 (some (oneX b)))).foldl partJ (acc ++ [.mk E0 (some (oneX b))], []) = _
    rw [fold_many b n]
    simp
theorem join_many (b : Bool) (n : Nat) : joinS [⟨0, 0, psM b (n + 1)⟩] = psM b (n + 1) := by
  have h : (psM b (n + 1)).foldl partJ ([], []) = (psM b (n + 1), []) := by
    unfold psM
    rw [List.replicate_succ, List.foldl_cons, List.foldl_cons]
    show (List.replicate n (EL.mk E0 (some (oneX b)))).foldl partJ ([.mk ⟨#[120]⟩ none, .mk E0 (some (oneX b))], []) = _
    rw [fold_many b n]
    rfl
  unfold joinS
  show endS ((lineJ 0 ([], []) ⟨0, 0, psM b (n + 1)⟩).1, trimR (lineJ 0 ([], []) ⟨0, 0, psM b (n + 1)⟩).2) = _
  have h2 : lineJ 0 ([], []) ⟨0, 0, psM b (n + 1)⟩ = (psM b (n + 1), []) := by
    unfold lineJ headJ
    rw [if_pos ⟨rfl, rfl⟩]
    exact h
  rw [h2]
  rfl
theorem at_end (L : List UInt8) (c : UInt8) : isAt (mkB L) L.length c = false := by
  unfold isAt
  rw [mkB_size]
  simp
theorem beh_end (p : UInt8 → Bool) (L : List UInt8) : behN p (mkB L).data.toList L.length = L.length := by
  rw [mkB_list]
  have := behN_app L [] p
  rw [List.append_nil] at this
  rw [this]
  rfl
theorem many_read (b : Bool) (n : Nat) : parseS (mkB (manyL b (n + 1))) = [enM b (n + 1)] := by
  obtain ⟨u, hu⟩ := oneP_cons b
  generalize hL : manyL b (n + 1) = L
  have eL : L = [97, 32, 61, 32, 120] ++ many b (n + 1) := hL.symm
  have e5 : L = [97, 32, 61, 32, 120] ++ 123 :: (u ++ many b n) := by rw [eL, many_succ, hu]; rfl
  have hlen : 6 ≤ L.length := by rw [e5]; simp
  have hsz : (mkB L).size = L.length := mkB_size L
  have i0 : ∀ d, isAt (mkB L) 0 d = ((97 : UInt8) == d) := fun d => by rw [e5]; exact isAt_app [] _ 97 d
  have i2 : ∀ d, isAt (mkB L) 2 d = ((61 : UInt8) == d) := fun d => by rw [e5]; exact isAt_app [97, 32] _ 61 d
  have i5 : ∀ d, isAt (mkB L) 5 d = ((123 : UInt8) == d) := fun d => by rw [e5]; exact isAt_app [97, 32, 61, 32, 120] _ 123 d
  have b0 : ∀ p : UInt8 → Bool, p 97 = false → behN p (mkB L).data.toList 0 = 0 := fun p hp => by
    rw [mkB_list, e5]
    refine (behN_app [] _ p).trans ?_
    show 0 + (List.takeWhile p (97 :: ([32, 61, 32, 120] ++ 123 :: (u ++ many b n)))).length = 0
    rw [List.takeWhile_cons, hp]
    rfl
  have n0 : nm (mkB L) 0 = 1 := by
    unfold nm
    rw [if_pos ⟨by omega, by rw [mkB_list, e5]; rfl⟩, mkB_list, e5]
    refine (behN_app [] _ naB).trans ?_
    show 0 + (List.takeWhile naB (97 :: 32 :: ([61, 32, 120] ++ 123 :: (u ++ many b n)))).length = 1
    rw [List.takeWhile_cons, List.takeWhile_cons]
    rfl
  have s1 : sp (mkB L) 1 = 2 := by
    unfold sp
    rw [mkB_list, e5]
    refine (behN_app [97] _ spB).trans ?_
    rfl
  have s3 : sp (mkB L) 3 = 4 := by
    unfold sp
    rw [mkB_list, e5]
    refine (behN_app [97, 32, 61] _ spB).trans ?_
    rfl
  have t4 : tx (mkB L) 4 = 5 := by
    unfold tx
    rw [mkB_list, e5]
    refine (behN_app [97, 32, 61, 32] _ txB).trans ?_
    rfl
  have t5 : tx (mkB L) 5 = 5 := by rw [e5]; exact tx_brace [97, 32, 61, 32, 120] _
  have x4 : (mkB L).extract 4 5 = ⟨#[120]⟩ := by
    rw [e5]
    apply bytes_eq
    simp [mkB, ByteArray.extract, ByteArray.copySlice]
  have x0 : (mkB L).extract 0 1 = ⟨#[97]⟩ := by
    rw [e5]
    apply bytes_eq
    simp [mkB, ByteArray.extract, ByteArray.copySlice]
  have hparts : partsS (placeS (mkB L) 20) (mkB L) [] 4 = some (psM b (n + 1), L.length) := by
    have h := parts_many b (n + 1) [97, 32, 61, 32, 120] [.mk ⟨#[120]⟩ none]
    rw [← eL] at h
    have h5 : partsS (placeS (mkB L) 20) (mkB L) [.mk ⟨#[120]⟩ none] 5 = some (psM b (n + 1), L.length) := h
    rw [partsS, t5] at h5
    rw [partsS, t4]
    have a4 : addT (mkB L) [] 4 5 = [.mk ⟨#[120]⟩ none] := by unfold addT; rw [if_pos (by omega), x4]; rfl
    have a5 : addT (mkB L) [.mk ⟨#[120]⟩ none] 5 5 = [.mk ⟨#[120]⟩ none] := by unfold addT; rw [if_neg (by omega)]
    rw [a4]
    rw [a5] at h5
    rw [i5, if_pos (by rfl)] at h5
    rw [i5, if_pos (by rfl)]
    cases hp : placeS (mkB L) 20 5 with
    | none => rw [hp] at h5; cases h5
    | some q =>
      obtain ⟨e, j⟩ := q
      rw [hp] at h5
      dsimp only at h5 ⊢
      split at h5
      · next c => rw [dif_pos ⟨by omega, c.2⟩]; exact h5
      · cases h5
  have hnext : nextS (mkB L) L.length = none := by
    have hn : nlS (mkB L) 0 L.length L.length = (0, L.length, L.length) := by rw [nlS, dif_neg (by rw [at_end]; decide)]
    unfold nextS
    rw [hn, if_pos (.inl rfl)]
  have hpat : patS (placeS (mkB L) 20) (mkB L) 3 = some (psM b (n + 1), L.length) := by
    unfold patS
    rw [s3, linesS, hparts]
    dsimp only
    rw [hnext]
    dsimp only
    rw [List.nil_append, join_many]
  have hnamed : namedS (mkB L) 0 = some (⟨#[97]⟩, psM b (n + 1), L.length) := by
    unfold namedS
    rw [n0, if_neg (by omega), s1, i2, if_pos (by rfl), hpat]
    dsimp only
    rw [if_pos (.inl hsz.symm), x0]
  have hats : atsS (mkB L) [] L.length = ([], L.length) := by
    have ha : attrS (mkB L) L.length = none := by
      unfold attrS
      rw [show bl (mkB L) L.length = L.length from beh_end _ L, at_end]
      rfl
    rw [atsS, ha]
  have hbeh : beh (mkB L) L.length = L.length := by
    unfold beh
    rw [show li (mkB L) L.length = L.length from beh_end _ L, if_neg (by omega), hsz]
  have hmsg : msgS (mkB L) 0 = some (enM b (n + 1)) := by
    unfold msgS
    rw [i0, if_neg (by decide), hnamed]
    dsimp only
    rw [hats]
    dsimp only
    rw [hbeh, if_pos (by rfl)]
    unfold enM
    rw [hL]
    rfl
  have hcom : comS (mkB L) 0 = none := by
    have h0 : hs (mkB L) 0 = 0 := b0 _ (by decide)
    unfold comS
    rw [if_pos]
    unfold comL
    rw [h0]
    split <;> rfl
  have hread : readS (mkB L) 0 = enM b (n + 1) := by
    unfold readS
    rw [hcom, hmsg]
  have p0 : passE (mkB L) 0 = 0 := by
    have h0 : sp (mkB L) 0 = 0 := b0 _ (by decide)
    rw [passE, dif_pos (by omega), h0, if_pos ⟨by omega, by rw [i0]; decide⟩]
  have p1 : passE (mkB L) L.length = L.length := by rw [passE, dif_neg (by omega)]
  have htu : (enM b (n + 1)).tu = L.length := by rw [← hL]; rfl
  unfold parseS
  rw [p0, parseGo, hread, htu, p1, dif_pos ⟨by omega, by omega⟩, parseGo, dif_neg (fun h => by omega)]
  rfl
theorem many_doc (b : Bool) (n : Nat) : docS (mkB (manyL b (n + 1))) = [enM b (n + 1)] := by
  unfold docS
  rw [dec_plain _ (many_plain b (n + 1)), many_read]
end Go.Proofs.YtpgiboblonlddaaGreatDoor

namespace Go.Proofs.YtpgiboblonlddaaGreatDoor
open Go.RowKit Go.ChangeMaps
set_option linter.unusedVariables false
set_option linter.unusedSimpArgs false
theorem erC_two : ∀ (l : List (Int × ByteArray)) (i : Nat) (h : i < l.length), (erC l)[i * 2]? = some (.int .i64 l[i].1) ∧ (erC l)[i * 2 + 1]? = some (.string l[i].2)
  | [], i, h => absurd h (by simp)
  | (c, n) :: r, 0, h => ⟨rfl, rfl⟩
  | (c, n) :: r, i + 1, h => by
    have e : erC ((c, n) :: r) = .int .i64 c :: .string n :: erC r := rfl
    have ih := erC_two r i (by simpa using h)
    rw [e, show (i + 1) * 2 = i * 2 + 1 + 1 by omega]
    simp only [List.getElem?_cons_succ, List.getElem_cons_succ]
    exact ih
def ErAt (w : World) (A : Option Addr) (er : List (Int × ByteArray)) : Prop := 0 < er.length → ∃ g, A = some ⟨g, 0, none⟩ ∧ g < w.heap.size ∧ ∀ j u, (erC er)[j]? = some u → w.cell? ⟨g, j, none⟩ = some u
theorem ErAt.row {w : World} {B : Nat} {A : Option Addr} {c : Nat} {er : List (Int × ByteArray)} (h : w.ownsRow B 59 2 (.slice A er.length c) er.length (erC er)) : ErAt w A er := fun h0 => by
  obtain ⟨g, rfl, hc⟩ := er_cell h h0
  refine ⟨g, rfl, ?_, hc⟩
  have h1 := hc 0 _ ((erC_two er 0 h0).1)
  exact cell_lt h1
theorem ErAt.later {w w' : World} {A : Option Addr} {er : List (Int × ByteArray)} (h : ErAt w A er) (g : Below w.heap.size w w') : ErAt w' A er := fun h0 => by
  obtain ⟨k, e, hk, hc⟩ := h h0
  exact ⟨k, e, Nat.lt_of_lt_of_le hk g.size, fun j u hj => (g.cell (p := ⟨k, j, none⟩) hk).trans (hc j u hj)⟩
set_option maxHeartbeats 8000000 in
set_option maxRecDepth 100000 in
theorem same16_any (A A' : Option Addr) (c c' : Nat) (er : List (Int × ByteArray)) (w : World) (h1 : ErAt w A er) (h2 : ErAt w A' er) (hn : er.length ≤ 1000000) :
    Calls Tryz.prog 12 #[.slice A er.length c, .slice A' er.length c'] w fun e w' => e = .returned (.bool true) ∧ Below w.heap.size w w' := by
  have hn0 : (er.length : Int) ≤ 1000000 := by omega
  have f0 : ((er.length : Int) == (er.length : Int)) = true := beq_self_eq_true _
  have Ha := Lib.hid h1
  have Hb := Lib.hid h2
  clear h1 h2
  go_enter Tryz.func12, Tryz.ntmps12
  go_wp2
  go_loopw [13] (fun t13 wr => ∃ (i : Nat), t13 = .int .i64 i ∧ i ≤ er.length ∧ Hid (Below w.heap.size w wr)) (fun t13 _ => er.length - (intOf t13).toNat)
  case atStart => exact ⟨0, rfl, Nat.zero_le _, Lib.hid (Below.refl _ _)⟩
  case round =>
    obtain ⟨i, rfl, hi, HB⟩ := hrel
    have hi0 : (i : Int) ≤ 1000000 := by omega
    by_cases hlt : i < er.length
    · have f1 : decide ((i : Int) < (er.length : Int)) = true := decide_eq_true (by omega)
      have f2 : (i : Int) < (er.length : Int) := by omega
      obtain ⟨ka, rfl, hka, hca⟩ := Ha.out (by omega)
      obtain ⟨kb, rfl, hkb, hcb⟩ := Hb.out (by omega)
      obtain ⟨t1, t2⟩ := erC_two er i hlt
      have c1 := (HB.out.cell (p := ⟨ka, i * 2, none⟩) hka).trans (hca _ _ t1)
      have c2 := (HB.out.cell (p := ⟨ka, i * 2 + 1, none⟩) hka).trans (hca _ _ t2)
      have c3 := (HB.out.cell (p := ⟨kb, i * 2, none⟩) hkb).trans (hcb _ _ t1)
      have c4 := (HB.out.cell (p := ⟨kb, i * 2 + 1, none⟩) hkb).trans (hcb _ _ t2)
      have z1 : ka < wr.heap.size := Nat.lt_of_lt_of_le hka HB.out.size
      have z2 : kb < wr.heap.size := Nat.lt_of_lt_of_le hkb HB.out.size
      generalize er[i].1 = p at *
      generalize er[i].2 = q at *
      clear hca hcb t1 t2
      have g1 : q.toList == q.toList := beq_self_eq_true _
      have g2 : (p == p) = true := beq_self_eq_true _
      go_wp2
      go_quiet (fail)
      go_wp2
      exact ⟨⟨i + 1, by go_num, hlt, Lib.hid (below_drewN HB.out _)⟩, by simp [intOf]; omega⟩
    · obtain rfl : i = er.length := by omega
      have f1 : decide ((er.length : Int) < (er.length : Int)) = false := decide_eq_false (by omega)
      go_wp2
      go_ret
      exact ⟨rfl, HB.out⟩
end Go.Proofs.YtpgiboblonlddaaGreatDoor

namespace Go.Proofs.YtpgiboblonlddaaGreatDoor
open Go.RowKit Go.ChangeMaps
set_option linter.unusedVariables false
set_option linter.unusedSimpArgs false
def oneV : VV := ⟨1, ⟨#[]⟩, false, ⟨#[49]⟩, 0, 1, 0, 3, false, false, 0, 0⟩
def wriN (t : ByteArray) : Option VV := if t = ⟨#[49]⟩ then some oneV else none
open Classical in
noncomputable def strN (v : VV) : Option (ByteArray × Nat) := if v.kd = 0 then some (v.tx, 0) else if v = oneV then some (⟨#[49]⟩, 1) else none
def limM (b : Bool) : Nat := if b then 50 else 100
def stM (b : Bool) (i : Nat) : RSt := ⟨if i ≤ limM b then (if b then 2 * i else i) else 100 + (i - limM b), if i ≤ limM b then [] else [(8, ⟨#[63]⟩)], if i ≤ limM b then i else limM b⟩
def outM (b : Bool) (i : Nat) : ByteArray := if i < limM b then ⟨#[49]⟩ else leftB
theorem run1 : Lib.runeCount ⟨#[49]⟩ = 1 := by kernel_rfl
theorem strN_one : strN oneV = some (⟨#[49]⟩, 1) := by
  unfold strN
  rw [if_neg (by decide), if_pos rfl]
theorem strN_txt (t : ByteArray) : strN (strV t) = some (t, 0) := by
  unfold strN
  rw [if_pos (show (strV t).kd = 0 from rfl)]
  rfl
theorem num_expr (R : RL) (hW : R.wri = wriN) (hS : R.str = strN) (P : PlG) (op : List ByteArray) (p q : Nat) (er : List (Int × ByteArray)) (hq : q ≤ 800) : exprG R P oneE [] op ⟨p, er, q⟩ = some (⟨#[49]⟩, ⟨p, er, q + 1⟩) := by
  have hv : valG R P oneE [] op ⟨p, er, q⟩ = some (some oneV, ⟨p, er, q⟩) := by
    unfold valG oneE
    simp only [exK, exT]
    rw [if_neg (by decide), if_pos trivial, hW]
    unfold wriN
    rw [if_pos rfl]
    rfl
  unfold exprG
  rw [hv, hS]
  dsimp only
  rw [strN_one]
  dsimp only
  rw [if_pos ⟨hq, by decide⟩]
theorem num_place (R : RL) (hW : R.wri = wriN) (hS : R.str = strN) (k : Nat) (op : List ByteArray) (p q : Nat) (er : List (Int × ByteArray)) (hq : q ≤ 800) (hp : p < 100) : placeG R (k + 1) oneE [] op ⟨p, er, q⟩ = some (⟨#[49]⟩, ⟨p + 1, er, q + 1⟩) := by
  rw [placeG]
  dsimp only
  rw [if_neg (by omega), if_neg (by omega), num_expr R hW hS _ op (p + 1) q er hq]
  dsimp only
  rw [run1, if_neg (by omega)]
theorem nest_place (R : RL) (hW : R.wri = wriN) (hS : R.str = strN) (k : Nat) (op : List ByteArray) (p q : Nat) (er : List (Int × ByteArray)) (hq : q ≤ 700) (hp : p + 1 < 100) : placeG R (k + 2) (.mk 6 E0 E0 E0 [] (some oneE) []) [] op ⟨p, er, q⟩ = some (⟨#[49]⟩, ⟨p + 2, er, q + 1⟩) := by
  have hv : valG R (placeG R (k + 1)) (.mk 6 E0 E0 E0 [] (some oneE) []) [] op ⟨p + 1, er, q⟩ = some (some (strV ⟨#[49]⟩), ⟨p + 2, er, q + 1⟩) := by
    unfold valG
    simp only [exK, exI]
    rw [if_neg (by decide), if_neg (by decide), if_neg (by decide), if_neg (by decide), if_pos trivial]
    rw [num_place R hW hS k op (p + 1) q er (by omega) hp]
    rfl
  have he : exprG R (placeG R (k + 1)) (.mk 6 E0 E0 E0 [] (some oneE) []) [] op ⟨p + 1, er, q⟩ = some (⟨#[49]⟩, ⟨p + 2, er, q + 1⟩) := by
    unfold exprG
    rw [hv, hS]
    dsimp only
    rw [strN_txt]
    dsimp only
    rw [if_pos ⟨by omega, by decide⟩]
  rw [placeG]
  dsimp only
  rw [if_neg (by omega), if_neg (by omega), he]
  dsimp only
  rw [run1, if_neg (by omega)]
theorem over_place (R : RL) (k : Nat) (e : EX) (op : List ByteArray) (p q : Nat) (er : List (Int × ByteArray)) (hp : 100 < p) (h2 : p ≤ 1000) : placeG R (k + 1) e [] op ⟨p, er, q⟩ = some (leftB, ⟨p + 1, er, q⟩) := by
  rw [placeG]
  dsimp only
  rw [if_neg (by omega), if_pos hp, if_pos (by omega)]
theorem last_place (R : RL) (k : Nat) (e : EX) (op : List ByteArray) (q : Nat) : placeG R (k + 1) e [] op ⟨100, [], q⟩ = some (leftB, ⟨101, [(8, ⟨#[63]⟩)], q⟩) := by
  rw [placeG]
  dsimp only
  rw [if_pos rfl]
  rfl
theorem stM_lo (b : Bool) (i : Nat) (h : i ≤ limM b) : stM b i = ⟨if b then 2 * i else i, [], i⟩ := by
  unfold stM
  simp [h]
theorem stM_hi (b : Bool) (i : Nat) (h : limM b < i) : stM b i = ⟨100 + (i - limM b), [(8, ⟨#[63]⟩)], limM b⟩ := by
  unfold stM
  simp [Nat.not_le.2 h]
theorem many_place (R : RL) (hW : R.wri = wriN) (hS : R.str = strN) (b : Bool) (op : List ByteArray) (i : Nat) (hi : i ≤ 200) : placeG R 2 (oneX b) [] op (stM b i) = some (outM b i, stM b (i + 1)) := by
  rcases Nat.lt_trichotomy i (limM b) with h | h | h
  · have e1 : outM b i = ⟨#[49]⟩ := by unfold outM; rw [if_pos h]
    have e2 : stM b i = ⟨if b then 2 * i else i, [], i⟩ := stM_lo b i (by omega)
    have e3 : stM b (i + 1) = ⟨if b then 2 * (i + 1) else i + 1, [], i + 1⟩ := stM_lo b (i + 1) (by omega)
    rw [e1, e2, e3]
    cases b with
    | false =>
      have h1 : i < 100 := h
      exact num_place R hW hS 1 op i i [] (by omega) h1
    | true =>
      have h1 : i < 50 := h
      exact nest_place R hW hS 0 op (2 * i) i [] (by omega) (by omega)
  · have e1 : outM b i = leftB := by unfold outM; rw [if_neg (by omega)]
    have e2 : stM b i = ⟨100, [], i⟩ := by
      rw [stM_lo b i (by omega), h]
      cases b <;> rfl
    have e3 : stM b (i + 1) = ⟨101, [(8, ⟨#[63]⟩)], i⟩ := by
      rw [stM_hi b (i + 1) (by omega), h, show limM b + 1 - limM b = 1 by omega]
    rw [e1, e2, e3]
    exact last_place R 1 _ op i
  · have e1 : outM b i = leftB := by unfold outM; rw [if_neg (by omega)]
    have e2 : stM b i = ⟨100 + (i - limM b), [(8, ⟨#[63]⟩)], limM b⟩ := stM_hi b i h
    have e3 : stM b (i + 1) = ⟨100 + (i - limM b) + 1, [(8, ⟨#[63]⟩)], limM b⟩ := by
      rw [stM_hi b (i + 1) (by omega), show 100 + (i + 1 - limM b) = 100 + (i - limM b) + 1 by omega]
    rw [e1, e2, e3]
    exact over_place R 1 _ op _ _ _ (by omega) (by omega)
def wantM (b : Bool) : Nat → List UInt8
  | 0 => [120]
  | i + 1 => wantM b i ++ (outM b i).data.toList
theorem out_size (b : Bool) (i : Nat) : (outM b i).size ≤ 3 := by
  unfold outM
  split <;> decide
theorem wantM_length (b : Bool) : ∀ i, (wantM b i).length ≤ 1 + 3 * i
  | 0 => by simp [wantM]
  | i + 1 => by
    rw [wantM, List.length_append]
    have h := wantM_length b i
    have h2 := out_size b i
    have h3 : (outM b i).data.toList.length = (outM b i).size := by simp
    omega
theorem many_pat (R : RL) (hW : R.wri = wriN) (hS : R.str = strN) (b : Bool) (op : List ByteArray) (n : Nat) (hn : n ≤ 200) : ∀ k i, i + k = n →
    patG (fun e s => placeG R 2 e [] op s) (List.replicate k (.mk E0 (some (oneX b)))) (wantM b i) (stM b i) = some (wantM b n, stM b n)
  | 0, i, h => by
    obtain rfl : i = n := by omega
    rfl
  | k + 1, i, h => by
    rw [List.replicate_succ, patG]
    rw [many_place R hW hS b op i (by omega)]
    dsimp only
    have h1 := wantM_length b i
    have h2 := out_size b i
    rw [if_pos (by omega)]
    exact many_pat R hW hS b op n hn k (i + 1) (by omega)
theorem many_spec (R : RL) (hW : R.wri = wriN) (hS : R.str = strN) (b : Bool) (n : Nat) (hn : n ≤ 200) (nm : ByteArray) : namedG (placeG R 2) nm (psM b n) [] [] ⟨0, [], 0⟩ = some (⟨(wantM b n).toArray⟩, stM b n) := by
  unfold namedG psM
  rw [patG, if_pos (by decide)]
  have h0 : stM b 0 = ⟨0, [], 0⟩ := by cases b <;> rfl
  have h := many_pat R hW hS b ([] ++ [nm]) n hn n 0 (by omega)
  rw [h0] at h
  rw [show ([] ++ (⟨#[120]⟩ : ByteArray).data.toList) = wantM b 0 from rfl, h]
end Go.Proofs.YtpgiboblonlddaaGreatDoor

namespace Go.Proofs.YtpgiboblonlddaaGreatDoor
open Go.RowKit Go.ChangeMaps
set_option linter.unusedVariables false
set_option linter.unusedSimpArgs false
theorem and7 (x : Int) : ∃ j : Nat, j ≤ 7 ∧ bits BinOp.and IntKind.i64 x 7 = (j : Int) := by
  refine ⟨(BitVec.ofInt 64 x).toNat &&& 7, Nat.and_le_right, ?_⟩
  have h : (BitVec.ofInt 64 x).toNat &&& 7 ≤ 7 := Nat.and_le_right
  simp only [bits, BitVec.toNat_and]
  show IntKind.i64.wrap (((BitVec.ofInt 64 x).toNat &&& (BitVec.ofInt 64 7).toNat : Nat) : Int) = _
  rw [show (BitVec.ofInt 64 7).toNat = 7 by decide]
  generalize (BitVec.ofInt 64 x).toNat &&& 7 = y at *
  exact IntWalk.i64_in _ (by omega)
theorem err_lit2 (c : Int) (s : ByteArray) (w : World) : ErAt (w.alloc (.cells #[.int .i64 c, .string s] 59)) (some ⟨w.heap.size, 0, none⟩) [(c, s)] := fun _ => by
  have hb : BoxAt (w.alloc (.cells #[.int .i64 c, .string s] 59)) w.heap.size #[.int .i64 c, .string s] 59 := BoxAt.new _ _ _
  refine ⟨_, rfl, hb.lt, fun j u hj => ?_⟩
  match j, hj with
  | 0, hj => simp [erC] at hj; subst hj; exact hb.cell 0
  | 1, hj => simp [erC] at hj; subst hj; exact hb.cell 1
theorem bytes_world (w : World) (s : ByteArray) : Lib.Bytes (Lib.bytesWorld w 5 s) w.heap.size 0 s := fun i hi => by
  rw [Nat.zero_add, Lib.bytesWorld_cell w _ s i hi]
  congr 2
  simp [List.getD, hi]
  rfl
theorem below_bytes (w : World) (s : ByteArray) : Below w.heap.size w (Lib.bytesWorld w 5 s) :=
  ⟨rfl, rfl, rfl, by rw [Lib.bytesWorld_size]; omega, fun k hk => Lib.bytesWorld_at_old w _ s k hk⟩
theorem res_lit2 (w w0 : World) (s : ByteArray) (n c : Nat) (h : Lib.Bytes w0 n 0 s) (hn : n < w0.heap.size) : ResAt w0 (some ⟨n, 0, none⟩) s c := fun W hW => conv_bytes s n c W (bytes_same h (hW.block n hn))
end Go.Proofs.YtpgiboblonlddaaGreatDoor
