/-
  Several texts put together (part 24): what the law and the program call, walked; their contracts.
-/
import Derived.Test.YtpgiboblonlddaaGreatDoorQ23
import Derived.Test.YtpgiboblonlddaaGreatDoorQ7
import Derived.Lib.OthersKept
import Derived.Deep.DeepCutAuto
import Derived.StillTailTactics
import Derived.Defers
namespace Go.Proofs.YtpgiboblonlddaaGreatDoor
open Go.RowKit Go.ChangeMaps
set_option linter.unusedVariables false
set_option linter.unusedSimpArgs false
abbrev BldR (B tb : Nat) (bs : List UInt8) (W : World) : Prop := Lib.IsBuilderF 155 5 B tb (Lib.byteCells bs) W
structure PtAt (R : RL) (w : World) (bs : List UInt8) (op : List ByteArray) (s : RSt) (W : World) : Prop where
  wr : WrAt R W op s
  wk : WK R w W
  bld : BldR w.heap.size w.heap.size bs W
  l1 : R.wb < w.heap.size
  l2 : R.ob < w.heap.size
  l3 : R.km < w.heap.size
  l0 : R.w0.heap.size ≤ w.heap.size
  lt : w.heap.size < W.heap.size
variable {R : RL} {w W W' : World} {bs : List UInt8} {op : List ByteArray} {s s' : RSt}
theorem bldR_same {B tb : Nat} (h : BldR B tb bs W) (hk : ∀ k, B ≤ k → k < W.heap.size → (∃ cs t fz, W.heap[k]? = some (.cells cs t fz) ∧ (t = 155 ∨ t = 5)) → W'.heap[k]? = W.heap[k]?) : BldR B tb bs W' := by
  have aux : ∀ p, Lib.BuilderAtF 155 5 B tb p (Lib.byteCells bs) W → Lib.BuilderAtF 155 5 B tb p (Lib.byteCells bs) W' := by
    rintro p ⟨hB, v, hb, ⟨h1, h2⟩, hne⟩
    refine ⟨hB, v, (hk tb hB (Array.getElem?_eq_some_iff.1 hb).1 ⟨_, _, _, hb, .inl rfl⟩).trans hb, ⟨h1, ?_⟩, hne⟩
    rcases h2 with h2 | ⟨g, cap, cur, fz, hv, hg, hh, r⟩
    · exact .inl h2
    · exact .inr ⟨g, cap, cur, fz, hv, hg, (hk g hg (Array.getElem?_eq_some_iff.1 hh).1 ⟨_, _, _, hh, .inr rfl⟩).trans hh, r⟩
  exact h.elim (fun h => .inl (aux _ h)) (fun h => .inr (aux _ h))
theorem PtAt.step (h : PtAt R w bs op s W) (hw : WrAt R W' op s') (hk : WK R W W') : PtAt R w bs op s' W' := by
  refine ⟨hw, h.wk.trans hk, bldR_same h.bld (fun k hkB hkl ⟨cs, t, fz, hc, ht⟩ => ?_), h.l1, h.l2, h.l3, h.l0, Nat.lt_of_lt_of_le h.lt hk.size⟩
  have := h.l1; have := h.l2; have := h.l3
  refine hk.own k hkl (by omega) (by omega) (by omega) (fun cs' fz' e => ?_)
  rw [hc] at e
  have e2 := (Obj.cells.inj (Option.some.inj e)).2.1
  rcases ht with rfl | rfl
  · exact absurd e2 (by decide)
  · exact absurd e2 (by decide)
theorem PtAt.later (h : PtAt R w bs op s W) (hb : Below W.heap.size W W') : PtAt R w bs op s W' := h.step (h.wr.later hb) (h.wr.wk hb)
theorem WrAt.others (F : R.Far) (h : WrAt R W op s) {tb : Nat} (hb : Below R.w0.heap.size W W') (hk : Lib.OthersKept 5 (some tb) W W') (h1 : R.wb ≠ tb) (h2 : R.ob ≠ tb) (h3 : R.km ≠ tb) (ht : ∃ cs fz, W.heap[tb]? = some (.cells cs 155 fz)) : WrAt R W' op s := by
  obtain ⟨g1, ⟨ev, g2, g3⟩, ⟨L, c, g4, g5⟩, ⟨m0, x, g6, g7⟩⟩ := h
  have keep : ∀ k o, W.heap[k]? = some o → k ≠ tb → (∀ c fz, o ≠ .cells c 5 fz) → W'.heap[k]? = some o := fun k o hko hne ho => hk k o hko (fun e => hne (Option.some.inj e)) ho
  refine ⟨g1.trans hb, ⟨ev, keep _ _ g2 h1 (fun c fz e => absurd (Obj.cells.inj e).2.1 (by decide)), row_later g3 (fun g hg hc => ?_)⟩, ⟨L, c, keep _ _ g4 h2 (fun c fz e => by cases e), g5⟩, m0, x, keep _ _ g6 h3 (fun c fz e => absurd (Obj.cells.inj e).2.1 (by decide)), fun hm => ?_⟩
  · obtain ⟨cs, fz, hc⟩ := hc
    rw [hc]
    refine keep g _ hc (fun e => ?_) (fun c fz e => absurd (Obj.cells.inj e).2.1 (by decide))
    subst e
    obtain ⟨cs', fz', ht⟩ := ht
    rw [hc] at ht
    exact absurd (Obj.cells.inj (Option.some.inj ht)).2.1 (by decide)
  · obtain ⟨mb, e1, e2, e3⟩ := g7 hm
    refine ⟨mb, e1, e2, keep mb _ e3 (fun e => ?_) (fun c fz e => by cases e)⟩
    subst e
    obtain ⟨cs', fz', ht⟩ := ht
    rw [e3] at ht
    cases ht
theorem PtAt.write (F : R.Far) (h : PtAt R w bs op s W) {bs' : List UInt8} (hb : BldR w.heap.size w.heap.size bs' W') (hB : Below w.heap.size W W') (hk : Lib.OthersKept 5 (some w.heap.size) W W') : PtAt R w bs' op s W' := by
  have := h.l1; have := h.l2; have := h.l3
  have ht : ∃ cs fz, W.heap[w.heap.size]? = some (.cells cs 155 fz) := by
    rcases h.bld with ⟨_, v, hb, _⟩ | ⟨_, v, hb, _⟩ <;> exact ⟨_, _, hb⟩
  refine ⟨h.wr.others F (hB.mono h.l0) hk (by omega) (by omega) (by omega) ht, ⟨h.wk.low.trans (hB.mono h.l0), fun k hkl k1 k2 k3 k4 => (hB.block k hkl).trans (h.wk.own k hkl k1 k2 k3 k4)⟩, hb, h.l1, h.l2, h.l3, h.l0, Nat.lt_of_lt_of_le h.lt hB.size⟩
theorem PtAt.writeStr (F : R.Far) (X : ByteArray) (h : PtAt R w bs op s W) (hn : bs.length + X.size ≤ 140737488355328) :
    Calls Tryz.prog 72 #[.pointer (some ⟨w.heap.size, 0, none⟩), .string X] W fun e W' => e = .returned (.tuple #[.int .i64 X.size, .nilIface]) ∧ PtAt R w (bs ++ X.data.toList) op s W' := by
  refine (bld_WriteString w.heap.size w.heap.size (Lib.byteCells bs) X W h.bld (by rw [Lib.byteCells, List.length_map]; omega) (Nat.le_of_lt h.lt)).mono ?_
  rintro e W' ⟨he, h1, h2, h3⟩
  refine ⟨he, h.write F ?_ h2 h3⟩
  rw [Lib.strCells_eq, ← Lib.byteCells_append] at h1
  exact .inr h1
theorem PtAt.str (F : R.Far) (h : PtAt R w bs op s W) : Calls Tryz.prog 70 #[.pointer (some ⟨w.heap.size, 0, none⟩)] W fun e W' => e = .returned (.string ⟨bs.toArray⟩) ∧ PtAt R w bs op s W' := by
  refine (Tryz.Builder_String_any_k w.heap.size w.heap.size bs W h.bld (Nat.le_of_lt h.lt)).mono ?_
  rintro e W' ⟨he, h1, h2, h3⟩
  exact ⟨he, h.write F h1 h2 h3⟩
theorem PtAt.start (hw : WrAt R w op s) : PtAt R w [] op s (w.alloc (.cells #[.pointer none, .slice none 0 0] 155)) := by
  have hB := (Below.refl w.heap.size w).alloc (Nat.le_refl _) (.cells #[.pointer none, .slice none 0 0] 155)
  obtain ⟨ev, h1, _⟩ := hw.box
  obtain ⟨m0, h3⟩ := hw.ms
  exact ⟨hw.later hB, hw.wk hB, .inl ⟨Nat.le_refl _, .slice none 0 0, heap_alloc_new w _, ⟨rfl, .inl ⟨rfl, rfl⟩⟩, by simp [Value.ownBlock]⟩, h1.lt, hw.om.lt, h3.lt, hw.bf.size, by simp⟩
def PlaceTo (R : RL) (P : PlG) : Prop := ∀ (e : EX) (eb eo : Nat) (a : Sc) (av : Value) (op : List ByteArray) (s s' : RSt) (t : ByteArray) (W : World), ExW R e eb eo → e.size ≤ 4000000 → P e a op s = some (t, s') → WrAt R W op s → ScAt R W a av →
  Calls Tryz.prog 73 #[.pointer (some ⟨R.wb, 0, none⟩), .pointer (some ⟨eb, eo, none⟩), av] W fun e' w' => e' = .returned (.string t) ∧ WrAt R w' op s' ∧ WK R W w'
theorem PlaceTo.at_ {P : PlG} (h : PlaceTo R P) (e : EX) (eb eo : Nat) (a : Sc) (av : Value) (op : List ByteArray) (s s' : RSt) (t : ByteArray) (W : World) (h1 : ExW R e eb eo) (h2 : e.size ≤ 4000000) (h3 : P e a op s = some (t, s')) (h4 : WrAt R W op s) (h5 : ScAt R W a av) :
  Calls Tryz.prog 73 #[.pointer (some ⟨R.wb, 0, none⟩), .pointer (some ⟨eb, eo, none⟩), av] W fun e' w' => e' = .returned (.string t) ∧ WrAt R w' op s' ∧ WK R W w' := h e eb eo a av op s s' t W h1 h2 h3 h4 h5
theorem ScAt.nilmap {a : Sc} {v : Value} (h : ScAt R W a v) : ∃ o, v = .map o := by
  rcases h with ⟨_, rfl⟩ | ⟨b, c, rfl, _⟩
  · exact ⟨_, rfl⟩
  · exact ⟨_, rfl⟩
theorem sizeEs_drop {l : List EL} {i : Nat} {t : ByteArray} {p : Option EX} (h : l[i]? = some (.mk t p)) : t.size + sizeO p ≤ sizeEs l := by
  induction l generalizing i with
  | nil => simp at h
  | cons x r ih =>
    obtain ⟨t0, p0⟩ := x
    rw [sizeEs]
    cases i with
    | zero => simp at h; obtain ⟨rfl, rfl⟩ := h; omega
    | succ i => have := ih (by simpa using h); omega
theorem sizeEs_len : ∀ l : List EL, l.length ≤ sizeEs l
  | [] => Nat.zero_le _
  | .mk t p :: r => by rw [sizeEs, List.length_cons]; have := sizeEs_len r; omega
set_option maxHeartbeats 8000000 in
set_option maxRecDepth 100000 in
theorem patternR_any (F : R.Far) {P : PlG} (hP : PlaceTo R P) (l : List EL) (A : Option Addr) (c : Nat) (a : Sc) (av : Value) (s s' : RSt) (o : List UInt8) (w : World) (hl : PatW R w l A c) (hsz : sizeEs l ≤ 4000000) (hg : patG (fun e s => P e a op s) l [] s = some (o, s')) (hw : WrAt R w op s) (ha : ScAt R w a av) :
    Calls Tryz.prog 47 #[.pointer (some ⟨R.wb, 0, none⟩), .slice A l.length c, av] w fun e w' => e = .returned (.string ⟨o.toArray⟩) ∧ WrAt R w' op s' ∧ WK R w w' := by
  have HF := Lib.hid F
  have HP := Lib.hid hP
  have HL := Lib.hid hl
  have HG := Lib.hid hg
  have HS := Lib.hid hsz
  have HW := Lib.hid hw
  have HA := Lib.hid ha
  have P0 := Lib.hid (PtAt.start hw)
  have hln : (l.length : Int) ≤ 4000000 := by have := sizeEs_len l; omega
  obtain ⟨ao, rfl⟩ := ha.nilmap
  obtain ⟨n, hn⟩ : ∃ n, l.length = n := ⟨_, rfl⟩
  have HN := Lib.hid hn
  rw [hn] at hln ⊢
  clear F hP hl hg hsz hw ha hn
  go_enter Tryz.func47, Tryz.ntmps47
  go_wp2_with fail
  go_loopw [12] (fun t12 wr => ∃ (i : Nat) (b : List UInt8) (si : RSt), t12 = .int .i64 i ∧ i ≤ n ∧ Hid (patG (fun e s => P e a op s) (l.drop i) b si = some (o, s')) ∧ Hid (PtAt R w b op si wr) ∧ Hid (b.length ≤ 100000000000)) (fun t12 _ => n - (intOf t12).toNat)
  case atStart => exact ⟨0, [], s, rfl, Nat.zero_le _, by rw [List.drop_zero]; exact HG, P0, Lib.hid (Nat.zero_le _)⟩
  case round =>
    obtain ⟨i, b, si, rfl, hi, HGi, HPt, HB⟩ := hrel
    by_cases hlt : i < n
    · have f1 : decide ((i : Int) < (n : Int)) = true := decide_eq_true (by omega)
      have f1n : decide (i < n) = true := decide_eq_true hlt
      obtain ⟨t, p, he⟩ : ∃ t p, l[i]? = some (.mk t p) := by
        have hil : i < l.length := by rw [HN.out]; exact hlt
        cases e : l[i] with
        | mk t p => exact ⟨t, p, by rw [List.getElem?_eq_getElem hil, e]⟩
      obtain ⟨g, o0, rfl, _, hcs⟩ := (HL.out.wk HPt.out.wk) (by rw [HN.out]; omega)
      obtain ⟨k0, k1⟩ := hcs i t p he
      have hgi := HGi.out
      rw [drop_cons l i _ he] at hgi
      have hsz2 := sizeEs_drop he
      have HSz := Lib.hid hsz2
      have hgl : g < wr.heap.size := cell_lt k0
      have hi0 : (i : Int) ≤ 4000000 := by omega
      clear hcs he HGi
      rcases k1 with ⟨rfl, k1⟩ | ⟨x, eb, eo, rfl, k1, hx⟩
      · rw [patG] at hgi
        split at hgi
        case isFalse => cases hgi
        case isTrue hle =>
          have HG2 := Lib.hid hgi
          have HLe := Lib.hid hle
          have H1 := Lib.hid (HPt.out.later ((Below.refl wr.heap.size wr).alloc (Nat.le_refl _) (.cells #[.string t, .pointer none] 123)))
          clear hgi hle
          go_wp2_with fail
          go_at_call 72
          refine (PtAt.writeStr HF.out t H1.out (by have := HLe.out; omega)).mono ?_
          rintro e w2 ⟨rfl, hp2⟩
          have HP2 := Lib.hid hp2
          clear hp2
          go_wp2_with fail
          refine ⟨⟨i + 1, _, _, by go_num, hlt, HG2, HP2, Lib.hid (by rw [List.length_append, size_data]; exact HLe.out)⟩, by simp [intOf]; omega⟩
      · rw [patG] at hgi
        cases hq : P x a op si with
        | none => rw [hq] at hgi; cases hgi
        | some q =>
          obtain ⟨u, s2⟩ := q
          rw [hq] at hgi
          dsimp only at hgi
          split at hgi
          case isFalse => cases hgi
          case isTrue hle =>
            have HG2 := Lib.hid hgi
            have HLe := Lib.hid hle
            have HQ := Lib.hid hq
            have HX := Lib.hid hx
            have H1 := Lib.hid (HPt.out.later ((Below.refl wr.heap.size wr).alloc (Nat.le_refl _) (.cells #[.string t, .pointer (some ⟨eb, eo, none⟩)] 123)))
            clear hgi hle hq hx
            go_wp2_with fail
            go_at_call 73
            refine (HP.out.at_ x eb eo a (.map ao) op si s2 u _ HX.out (by have := HSz.out; have := HS.out; simp only [sizeO] at *; omega) HQ.out H1.out.wr (HA.out.wk HF.out HW.out H1.out.wk)).mono ?_
            rintro e w2 ⟨rfl, hw2, hk2⟩
            have H2 := Lib.hid (H1.out.step hw2 hk2)
            clear hw2 hk2
            go_wp2_with fail
            go_at_call 72
            refine (PtAt.writeStr HF.out u H2.out (by have := HLe.out; omega)).mono ?_
            rintro e w3 ⟨rfl, hp3⟩
            have HP3 := Lib.hid hp3
            clear hp3
            go_wp2_with fail
            refine ⟨⟨i + 1, _, _, by go_num, hlt, HG2, HP3, Lib.hid (by rw [List.length_append, size_data]; exact HLe.out)⟩, by simp [intOf]; omega⟩
    · obtain rfl : i = n := by omega
      have f1 : decide ((i : Int) < (i : Int)) = false := decide_eq_false (by omega)
      have f1n : decide (i < i) = false := decide_eq_false (by omega)
      have hgi := HGi.out
      rw [List.drop_of_length_le (by rw [HN.out]; exact Nat.le_refl _), patG] at hgi
      simp only [Option.some.injEq, Prod.mk.injEq] at hgi
      obtain ⟨rfl, rfl⟩ := hgi
      clear HGi
      go_wp2_with fail
      go_at_call 70
      refine (PtAt.str HF.out HPt.out).mono ?_
      rintro e w2 ⟨rfl, hp2⟩
      have HP2 := Lib.hid hp2
      clear hp2
      go_wp2
      go_ret
      exact ⟨rfl, HP2.out.wr, HP2.out.wk⟩
end Go.Proofs.YtpgiboblonlddaaGreatDoor

namespace Go.Proofs.YtpgiboblonlddaaGreatDoor
open Go.RowKit Go.ChangeMaps
set_option linter.unusedVariables false
set_option linter.unusedSimpArgs false
theorem openE_push (L : List (ByteArray × Nat)) (n : ByteArray) (c : Nat) : (openE L).push { key := .string n, val := .agg #[], born := c } = openE (L ++ [(n, c)]) := by
  apply Array.toList_inj.1
  simp [openE]
theorem openE_erase (L : List (ByteArray × Nat)) (x : ByteArray × Nat) : (openE (L ++ [x])).eraseIdxIfInBounds L.length = openE L := by
  apply Array.toList_inj.1
  simp [openE, Array.eraseIdxIfInBounds, List.eraseIdx_append]
set_option maxHeartbeats 2000000 in
set_option maxRecDepth 100000 in
theorem end_deferred {R : RL} (nm : ByteArray) (L : List (ByteArray × Nat)) (c c0 : Nat) (u : FrameMode) (W : World) (h3 : W.cell? ⟨R.wb, 3, none⟩ = some (.map (some R.ob))) (hm : MapAt W R.ob (openE (L ++ [(nm, c0)])) c) (hn : nm ∉ L.map (·.1)) :
    CallsD Tryz.prog 46 #[.pointer (some ⟨R.wb, 0, none⟩), .string nm] u W fun e u' w' => u' = u ∧ (e = .returned (.tuple #[]) ∧ w' = setBlock W R.ob (.map (openE L) c)) := by
  have hd := run_del (P := Tryz.prog) (t := 94) Tryz.underlying94 Tryz.underlying9 W R.ob _ c hm nm L.length (.agg #[]) (by rw [openE_list]; have := find_last nm c0 L 0 hn; rw [Nat.zero_add] at this; exact this) 9
  rw [openE_erase] at hd
  clear hm hn
  go_enter_d Tryz.func46, Tryz.ntmps46
  go_wp2
  go_end0
  exact ⟨rfl, rfl⟩
theorem memB_not {n : ByteArray} {l : List ByteArray} (h : memB n l = false) : n ∉ l := by
  intro hm
  unfold memB at h
  rw [List.any_eq_false] at h
  exact h n hm (decide_eq_true rfl)
set_option maxHeartbeats 4000000 in
set_option maxRecDepth 100000 in
theorem namedR_any {R : RL} (F : R.Far) {P : PlG} (hP : PlaceTo R P) (nm : ByteArray) (l : List EL) (A : Option Addr) (c : Nat) (a : Sc) (av : Value) {op : List ByteArray} (s s' : RSt) (t : ByteArray) (w : World) (hno : memB nm op = false) (hl : PatW R w l A c) (hsz : sizeEs l ≤ 4000000) (hg : namedG P nm l a op s = some (t, s')) (hw : WrAt R w op s) (ha : ScAt R w a av) :
    Calls Tryz.prog 25 #[.pointer (some ⟨R.wb, 0, none⟩), .string nm, .slice A l.length c, av] w fun e w' => e = .returned (.string t) ∧ WrAt R w' op s' ∧ WK R w w' := by
  unfold namedG at hg
  cases hq : patG (fun e s => P e a (op ++ [nm]) s) l [] s with
  | none => rw [hq] at hg; cases hg
  | some q =>
    obtain ⟨o, s2⟩ := q
    rw [hq] at hg
    simp only [Option.some.injEq, Prod.mk.injEq] at hg
    obtain ⟨rfl, rfl⟩ := hg
    have hn := memB_not hno
    obtain ⟨ev, hbx, _⟩ := hw.box
    obtain ⟨L, c1, hm, hL⟩ := hw.om
    obtain ⟨r, hf, hr, _⟩ := find_open nm L 0
    have hrn : r = none := by
      cases r with
      | none => rfl
      | some p => rw [hL] at hr; rw [hno] at hr; cases hr
    subst hrn
    have hU := run_put_new (P := Tryz.prog) (t := 94) Tryz.underlying94 Tryz.underlying9 w R.ob _ c1 hm nm (.agg #[]) (by rw [openE_list]; exact hf)
    rw [openE_push] at hU
    have c3 : w.cell? ⟨R.wb, 3, none⟩ = some (.map (some R.ob)) := hbx.cell 3
    obtain ⟨hw1, hk1⟩ := hw.opened F (op' := op ++ [nm]) (L := L ++ [(nm, c1)]) (c := c1 + 1) (by rw [List.map_append, hL]; rfl)
    have HPat := Lib.hid (patternR_any F hP l A c a av s s2 o _ (hl.wk hk1) hsz hq hw1 (ha.wk F hw hk1))
    have HF := Lib.hid F
    have HK1 := Lib.hid hk1
    have HN := Lib.hid hn
    obtain ⟨ao, rfl⟩ := ha.nilmap
    generalize l.length = n at *
    clear F hP hl hsz hw ha hq hbx hm hL hr hf hno hw1 hk1 hn
    go_enter_defers Tryz.func25, Tryz.ntmps25
    go_wp2_with fail
    go_at_call 47
    refine HPat.out.mono ?_
    rintro e w2 ⟨rfl, hw2, hk2⟩
    have HW2 := Lib.hid hw2
    have HK2 := Lib.hid hk2
    clear hw2 hk2 HPat
    go_wp2
    obtain ⟨ev2, hb2, _⟩ := HW2.out.box
    obtain ⟨L2, c2, hm2, hL2⟩ := HW2.out.om
    obtain ⟨L3, l3, rfl, e1, e2⟩ := List.map_eq_append_iff.1 hL2
    obtain ⟨x, rfl, e3⟩ : ∃ x : ByteArray × Nat, l3 = [x] ∧ x.1 = nm := by
      match l3, e2 with
      | [x], e2 => exact ⟨x, rfl, by simpa using e2⟩
    obtain ⟨x1, c0⟩ := x
    dsimp only at e3
    subst e3
    refine leaves_cons (f := 46) (args := #[.pointer (some ⟨R.wb, 0, none⟩), .string x1]) (by simp) (by simp [go_sem]) ?_
    refine (end_deferred x1 L3 c2 c0 .returning w2 (hb2.cell 3) hm2 (by rw [e1]; exact HN.out)).mono ?_
    rintro e u' w'' ⟨rfl, rfl, rfl⟩
    obtain ⟨h1, h2⟩ := HW2.out.opened HF.out (op' := op) (L := L3) (c := c2) e1
    simp [Leaves, settle, results, Tryz.results25]
    exact ⟨h1, (HK1.out.trans HK2.out).trans h2⟩
end Go.Proofs.YtpgiboblonlddaaGreatDoor
