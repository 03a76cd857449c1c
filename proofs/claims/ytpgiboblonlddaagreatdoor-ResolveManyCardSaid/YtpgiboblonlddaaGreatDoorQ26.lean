/-
  Several texts put together (part 26): what the law and the program call, walked; their contracts.
-/
import Derived.Test.YtpgiboblonlddaaGreatDoorQ24
import Derived.Test.YtpgiboblonlddaaGreatDoorQ25
import Derived.RegionCalls
namespace Go.Proofs.YtpgiboblonlddaaGreatDoor
open Go.RowKit Go.ChangeMaps
set_option linter.unusedVariables false
set_option linter.unusedSimpArgs false
structure RL.Ok (R : RL) : Prop extends RL.Far R where
  msg : ∀ (n : ByteArray) (W : World), Below R.w0.heap.size R.w0 W → Calls Tryz.prog 22 #[.pointer (some ⟨R.b, 0, none⟩), .string n] W fun e w' => e = .returned (.tuple #[((R.ent false n).getD noEnt).v, .bool (R.ent false n).isSome]) ∧ Below W.heap.size W w'
  att : ∀ (tm : Bool) (n at' : ByteArray) (x : Ent) (W : World), R.ent tm n = some x → Below R.w0.heap.size R.w0 W → (R.wb < W.heap.size ∧ R.ob < W.heap.size ∧ R.km < W.heap.size) → Calls Tryz.prog 23 #[x.v, .string at'] W fun e w' => ∃ A c, e = .returned (.tuple #[.slice A (x.pat at').2.length c, .bool (x.pat at').1]) ∧ PatW R w' (x.pat at').2 A c ∧ Below W.heap.size W w'
  siz : ∀ (tm : Bool) (n at' : ByteArray) (x : Ent), R.ent tm n = some x → sizeEs (x.pat at').2 ≤ 4000000
  wris : ∀ (t : ByteArray) (v : VV) (W : World), R.wri t = some v → Below R.w0.heap.size R.w0 W → Calls Tryz.prog 32 #[.string t] W fun e w' => e = .returned v.v ∧ Below W.heap.size W w'
  strs : ∀ (v : VV) (t : ByteArray) (d : Nat), R.str v = some (t, d) → ∀ (W : World) (made : Bool) (n : Nat), MarksAt W R.km made n → n ≤ 900 → Below R.w0.heap.size R.w0 W → Calls Tryz.prog 18 #[v.v, .pointer (some ⟨R.km, 0, none⟩), .string R.lang] W fun e w' => e = .returned (.string t) ∧ (∃ made', MarksAt w' R.km made' (n + d)) ∧ Kp R.km W w'
def ValTo (R : RL) (P : PlG) : Prop := ∀ (e : EX) (eb eo : Nat) (a : Sc) (av : Value) (op : List ByteArray) (s s' : RSt) (r : Option VV) (W : World), ExW R e eb eo → e.size ≤ 4000000 → valG R P e a op s = some (r, s') → WrAt R W op s → ScAt R W a av →
  Calls Tryz.prog 145 #[.pointer (some ⟨R.wb, 0, none⟩), .pointer (some ⟨eb, eo, none⟩), av] W fun e' w' => e' = .returned (.tuple #[(r.getD (strV ⟨#[]⟩)).v, .bool r.isSome]) ∧ WrAt R w' op s' ∧ WK R W w'
def ExprTo (R : RL) (P : PlG) : Prop := ∀ (e : EX) (eb eo : Nat) (a : Sc) (av : Value) (op : List ByteArray) (s s' : RSt) (t : ByteArray) (W : World), ExW R e eb eo → e.size ≤ 4000000 → exprG R P e a op s = some (t, s') → WrAt R W op s → ScAt R W a av →
  Calls Tryz.prog 107 #[.pointer (some ⟨R.wb, 0, none⟩), .pointer (some ⟨eb, eo, none⟩), av] W fun e' w' => e' = .returned (.string t) ∧ WrAt R w' op s' ∧ WK R W w'
theorem ExW.cells {R : RL} {e : EX} {b o : Nat} (h : ExW R e b o) {W : World} (hb : Below R.w0.heap.size R.w0 W) : b < R.w0.heap.size ∧ W.cell? ⟨b, o, none⟩ = some (.int .i64 (exK e)) ∧ W.cell? ⟨b, o + 1, none⟩ = some (.string (exT e)) ∧ W.cell? ⟨b, o + 2, none⟩ = some (.string (exN e)) ∧ W.cell? ⟨b, o + 3, none⟩ = some (.string (exA e)) ∧
    ∃ u, W.cell? ⟨b, o + 5, none⟩ = some u ∧ OAt R.w0 (exI e) u := by
  obtain ⟨hl, c, hc, hx⟩ := h
  obtain ⟨k, t, n, a, al, i, vs⟩ := e
  rw [ExAt] at hx
  obtain ⟨h1, h2, h3, h4, _, h6, _⟩ := hx
  obtain ⟨g0, g1, g2, g3, g4, g5, g6⟩ := hc.under hl hb
  rw [h1] at g0; rw [h2] at g1; rw [h3] at g2; rw [h4] at g3
  exact ⟨hl, g0, g1, g2, g3, _, g5, h6⟩
theorem OAt.exw {R : RL} {i : EX} {u : Value} (h : OAt R.w0 (some i) u) : ∃ b o, u = .pointer (some ⟨b, o, none⟩) ∧ ExW R i b o := by
  simp only [OAt] at h
  obtain ⟨b, o, c, rfl, hb, hc, hx⟩ := h
  exact ⟨b, o, rfl, hb, c, hc, hx⟩
set_option maxHeartbeats 1000000 in
theorem vstr_any (x : ByteArray) (w : World) : Calls Tryz.prog 13 #[.string x] w fun e w' => e = .returned (strV x).v ∧ Below w.heap.size w w' := by
  unfold VV.v VV.cells strV
  go_enter Tryz.func13, Tryz.ntmps13
  go_wp2
  exact bodyPost_ret (v := .agg #[.int .i64 0, .string x, .bool false, .string ⟨#[]⟩, .int .i64 0, .int .i64 0, .int .i64 0, .int .i64 0, .bool false, .bool false, .int .i64 0, .int .i64 0]) (by simp [results, Tryz.results13, go_sem]) rfl ⟨rfl, (Below.refl _ _).alloc (Nat.le_refl _) _⟩
set_option maxHeartbeats 4000000 in
set_option maxRecDepth 100000 in
theorem literal_any {R : RL} (H : R.Ok) (k : Int) (t : ByteArray) (v : VV) (b o : Nat) (W : World) (hW : Below R.w0.heap.size R.w0 W) (c0 : W.cell? ⟨b, o, none⟩ = some (.int .i64 k)) (c1 : W.cell? ⟨b, o + 1, none⟩ = some (.string t)) (hv : if k = 1 then R.wri t = some v else v = strV t) :
    Calls Tryz.prog 169 #[.pointer (some ⟨b, o, none⟩)] W fun e w' => e = .returned v.v ∧ Below W.heap.size W w' := by
  have hbl := cell_lt c0
  have HA := Lib.hid ((Below.refl W.heap.size W).alloc (Nat.le_refl _) (.cells zVal 69))
  have HO := Lib.hid (BoxAt.new' W W.heap.size zVal 69 rfl)
  have d0 := (HA.out.cell (p := ⟨b, o, none⟩) hbl).trans c0
  have d1 := (HA.out.cell (p := ⟨b, o + 1, none⟩) hbl).trans c1
  have hVl : W.heap.size < (W.alloc (.cells zVal 69)).heap.size := by simp
  have hWs := hW.size
  by_cases hk : k = 1
  · rw [if_pos hk] at hv
    have HC := Lib.hid (fun V h => H.wris t v V hv h)
    have HB := Lib.hid (hW.trans (HA.out.mono hWs))
    have f1 : (k == 1) = true := beq_iff_eq.2 hk
    obtain ⟨v0, v1, v2, v3, v4, v5, v6, v7, v8, v9, v10, v11⟩ := v
    unfold VV.v VV.cells at HC ⊢
    dsimp only at HC ⊢
    clear hv hk H hW
    go_enter Tryz.func169, Tryz.ntmps169
    go_upto_region 1 with fail
    generalize W.alloc (.cells zVal 69) = V at *
    clear c0 c1
    go_wp2_with fail
    go_at_call 32
    refine (HC.out V HB.out).mono ?_
    rintro e w1 ⟨rfl, hb1⟩
    have O1 := Lib.hid (HO.out.later hb1)
    have B1 := Lib.hid (HA.out.trans (hb1.mono HA.out.size))
    clear hb1
    have o0 := fun j => BoxAt.cell O1.out j
    have oz := fun j => BoxAt.z O1.out j
    have ol := BoxAt.lt O1.out
    go_wp2
    refine end12s rfl O1.out rfl (by rfl) rfl ⟨rfl, B1.out.trans (set12_low _ _ _ _ _ _ _ _ _ _ _ _ _ _ (Nat.le_refl _))⟩
  · rw [if_neg hk] at hv
    subst hv
    have HC := Lib.hid (fun V => vstr_any t V)
    have f1 : (k == 1) = false := beq_eq_false_iff_ne.2 hk
    unfold VV.v VV.cells strV at HC ⊢
    dsimp only at HC ⊢
    clear hk H hW
    go_enter Tryz.func169, Tryz.ntmps169
    go_upto_region 1 with fail
    generalize W.alloc (.cells zVal 69) = V at *
    clear c0 c1
    go_wp2_with fail
    go_at_call 13
    refine (HC.out V).mono ?_
    rintro e w1 ⟨rfl, hb1⟩
    have O1 := Lib.hid (HO.out.later hb1)
    have B1 := Lib.hid (HA.out.trans (hb1.mono HA.out.size))
    clear hb1
    have o0 := fun j => BoxAt.cell O1.out j
    have oz := fun j => BoxAt.z O1.out j
    have ol := BoxAt.lt O1.out
    go_wp2
    refine end12s rfl O1.out rfl (by rfl) rfl ⟨rfl, B1.out.trans (set12_low _ _ _ _ _ _ _ _ _ _ _ _ _ _ (Nat.le_refl _))⟩
end Go.Proofs.YtpgiboblonlddaaGreatDoor

namespace Go.Proofs.YtpgiboblonlddaaGreatDoor
open Go.RowKit Go.ChangeMaps
set_option linter.unusedVariables false
set_option linter.unusedSimpArgs false
theorem ex_parts (e : EX) : (exT e).size + (exN e).size + (exA e).size ≤ e.size := by
  obtain ⟨k, t, n, a, al, i, vs⟩ := e
  simp only [exT, exN, exA, EX.size]
  omega
theorem nameK_size (k : Int) (n a : ByteArray) : (nameK k n a).size ≤ n.size + a.size + 3 := by
  have h := joinN_size n a
  unfold nameK
  split
  · rw [size_mk]; simp; omega
  split
  · omega
  split
  · rw [size_mk]; simp; omega
  split
  · rw [size_mk]; simp; omega
  · show (0 : Nat) ≤ _
    omega
theorem exprG_size {R : RL} {P : PlG} {e : EX} {a : Sc} {op : List ByteArray} {s s' : RSt} {t : ByteArray} (h : exprG R P e a op s = some (t, s')) (he : e.size ≤ 4000000) : t.size ≤ 100000000000 := by
  unfold exprG at h
  split at h
  · cases h
  · split at h
    · cases h
    · split at h
      · next hg => cases h; exact hg.2
      · cases h
  · cases h
    have h1 := ex_parts e
    have h2 := nameK_size (exK e) (exN e) (exA e)
    unfold bracB nameE
    rw [size_mk]
    simp
    omega
theorem size_run (s : ByteArray) (h : s.size ≤ 100000000000) : Lib.runeCount s ≤ 100000000000 := Nat.le_trans (Lib.runeCount_le s) h
set_option maxHeartbeats 8000000 in
set_option maxRecDepth 100000 in
theorem placeR_any {R : RL} (H : R.Ok) {n : Nat} (hE : ExprTo R (placeG R n)) : PlaceTo R (placeG R (n + 1)) := by
  intro e eb eo a av op s s' t W hx hsz hg hw ha
  have hg2 : (if s.pl = 100 then (badG 8 ⟨#[63]⟩ ⟨s.pl + 1, s.er, s.ask⟩).map fun s => (leftB, s)
    else if 100 < s.pl then (if s.pl ≤ 1000000000 then some (leftB, ⟨s.pl + 1, s.er, s.ask⟩) else none)
    else
      match exprG R (placeG R n) e a op ⟨s.pl + 1, s.er, s.ask⟩ with
      | none => none
      | some q => if 2500 < Lib.runeCount q.1 then (badG 9 ⟨#[63]⟩ q.2).map fun s => (leftB, s) else some q) = some (t, s') := hg
  clear hg
  have HF := Lib.hid H.toFar
  obtain ⟨p, hp⟩ : ∃ p : Nat, p = s.pl + 1 := ⟨_, rfl⟩
  obtain ⟨h1, k1⟩ := hw.places H.toFar p
  obtain ⟨ev, hbx, _⟩ := hw.box
  have c4 : W.cell? ⟨R.wb, 4, none⟩ = some (.int .i64 (s.pl : Nat)) := hbx.cell 4
  have z4 := hbx.z 4
  obtain ⟨ev1, hbx1, _⟩ := h1.box
  have c41 : (W.setCell ⟨R.wb, 4, none⟩ (.int .i64 (p : Int))).cell? ⟨R.wb, 4, none⟩ = some (.int .i64 (p : Nat)) := hbx1.cell 4
  have hpl : (s.pl : Int) ≤ 1000000000 := by
    by_cases h : s.pl ≤ 1000000000
    · omega
    · rw [if_neg (by omega), if_pos (by omega), if_neg h] at hg2
      cases hg2
  have hpi : (s.pl : Int) + 1 = (p : Int) := by omega
  have HA := Lib.hid (ha.wk H.toFar hw k1)
  obtain ⟨ao, rfl⟩ := ha.nilmap
  have H1 := Lib.hid h1
  have K1 := Lib.hid k1
  have HX := Lib.hid hx
  have HS := Lib.hid hsz
  have HE := Lib.hid hE
  clear H hE hx hsz hw ha hbx hbx1 h1 k1
  by_cases ha1 : s.pl = 100
  · rw [if_pos ha1] at hg2
    obtain ⟨s2, hb, he⟩ := Option.map_eq_some_iff.1 hg2
    cases he
    have HB := Lib.hid (show badG 8 ⟨#[63]⟩ ⟨p, s.er, s.ask⟩ = some s' by rw [hp]; exact hb)
    have q1 : ((p : Int) == 101) = true := by rw [beq_iff_eq]; omega
    clear hg2 hb ha1 hp
    go_enter Tryz.func73, Tryz.ntmps73
    go_upto_region 2 with fail
    generalize W.setCell ⟨R.wb, 4, none⟩ (.int .i64 (p : Int)) = V at *
    clear c4 z4
    go_wp2_with fail
    go_at_call 106
    refine (leaveOut_any HF.out 8 V H1.out HB.out).mono ?_
    rintro e2 w2 ⟨rfl, hw2, hk2⟩
    have HW2 := Lib.hid hw2
    have HK2 := Lib.hid hk2
    clear hw2 hk2
    go_wp2
    go_ret
    exact ⟨rfl, HW2.out, K1.out.trans HK2.out⟩
  rw [if_neg ha1] at hg2
  have q1 : ((p : Int) == 101) = false := by rw [beq_eq_false_iff_ne]; omega
  by_cases hb1 : 100 < s.pl
  · rw [if_pos hb1, if_pos (by omega)] at hg2
    cases hg2
    have HH := Lib.hid (show WrAt R (W.setCell ⟨R.wb, 4, none⟩ (.int .i64 (p : Int))) op ⟨s.pl + 1, s.er, s.ask⟩ by rw [← hp]; exact H1.out)
    have q2 : decide ((100 : Int) < (p : Int)) = true := decide_eq_true (by omega)
    have q2n : decide (100 < p) = true := decide_eq_true (by omega)
    clear hp ha1 hb1
    go_enter Tryz.func73, Tryz.ntmps73
    go_upto_region 2 with fail
    generalize W.setCell ⟨R.wb, 4, none⟩ (.int .i64 (p : Int)) = V at *
    clear c4 z4
    go_wp2
    go_ret
    exact ⟨rfl, HH.out, K1.out⟩
  rw [if_neg hb1] at hg2
  have q2 : decide ((100 : Int) < (p : Int)) = false := decide_eq_false (by omega)
  have q2n : decide (100 < p) = false := decide_eq_false (by omega)
  cases hq : exprG R (placeG R n) e a op ⟨s.pl + 1, s.er, s.ask⟩ with
  | none => rw [hq] at hg2; cases hg2
  | some q =>
    obtain ⟨u, s3⟩ := q
    rw [hq] at hg2
    dsimp only at hg2
    rw [← hp] at hq
    have HQ := Lib.hid hq
    have hus := exprG_size hq HS.out
    have hur := size_run u hus
    have hui : (u.size : Int) ≤ 100000000000 := by omega
    obtain ⟨rc, hrc⟩ : ∃ m, Lib.runeCount u = m := ⟨_, rfl⟩
    rw [hrc] at hg2 hur
    have HRC := Lib.hid hrc
    clear hp ha1 hb1 hq hrc
    by_cases h25 : 2500 < rc
    · rw [if_pos h25] at hg2
      obtain ⟨s2, hb, he⟩ := Option.map_eq_some_iff.1 hg2
      cases he
      have HB := Lib.hid hb
      have q3 : decide ((2500 : Int) < (rc : Int)) = true := decide_eq_true (by omega)
      have q3n : decide (2500 < rc) = true := decide_eq_true (by omega)
      clear hg2 hb h25
      go_enter Tryz.func73, Tryz.ntmps73
      go_upto_region 2 with fail
      generalize W.setCell ⟨R.wb, 4, none⟩ (.int .i64 (p : Int)) = V at *
      clear c4 z4
      go_wp2_with fail
      go_at_call 107
      refine (HE.out e eb eo a (.map ao) op _ s3 u V HX.out HS.out HQ.out H1.out HA.out).mono ?_
      rintro e2 w2 ⟨rfl, hw2, hk2⟩
      have HW2 := Lib.hid hw2
      have HK2 := Lib.hid hk2
      clear hw2 hk2
      go_wp2_with fail
      go_at_call 108
      refine (Tryz.utf8_RuneCountInString u _ (by omega)).mono ?_
      rintro e3 w3 ⟨rfl, pos, rfl⟩
      rw [HRC.out]
      have HI : Hid (Below w2.heap.size w2 (w2.iter u pos)) := Lib.hid ((Below.refl w2.heap.size w2).alloc (Nat.le_refl _) (.stringIter u pos))
      have HW3 := Lib.hid (HW2.out.later HI.out)
      have HK3 := Lib.hid ((K1.out.trans HK2.out).trans (HW2.out.wk HI.out))
      clear HI
      generalize w2.iter u pos = w3 at *
      go_wp2_with fail
      go_at_call 106
      refine (leaveOut_any HF.out 9 w3 HW3.out HB.out).mono ?_
      rintro e2 w4 ⟨rfl, hw4, hk4⟩
      have HW4 := Lib.hid hw4
      have HK4 := Lib.hid hk4
      clear hw4 hk4
      go_wp2
      go_ret
      exact ⟨rfl, HW4.out, HK3.out.trans HK4.out⟩
    · rw [if_neg h25] at hg2
      cases hg2
      have q3 : decide ((2500 : Int) < (rc : Int)) = false := decide_eq_false (by omega)
      have q3n : decide (2500 < rc) = false := decide_eq_false (by omega)
      clear h25
      go_enter Tryz.func73, Tryz.ntmps73
      go_upto_region 2 with fail
      generalize W.setCell ⟨R.wb, 4, none⟩ (.int .i64 (p : Int)) = V at *
      clear c4 z4
      go_wp2_with fail
      go_at_call 107
      refine (HE.out e eb eo a (.map ao) op _ s' t V HX.out HS.out HQ.out H1.out HA.out).mono ?_
      rintro e2 w2 ⟨rfl, hw2, hk2⟩
      have HW2 := Lib.hid hw2
      have HK2 := Lib.hid hk2
      clear hw2 hk2
      go_wp2_with fail
      go_at_call 108
      refine (Tryz.utf8_RuneCountInString t _ (by omega)).mono ?_
      rintro e3 w3 ⟨rfl, pos, rfl⟩
      rw [HRC.out]
      have HI : Hid (Below w2.heap.size w2 (w2.iter t pos)) := Lib.hid ((Below.refl w2.heap.size w2).alloc (Nat.le_refl _) (.stringIter t pos))
      have HW3 := Lib.hid (HW2.out.later HI.out)
      have HK3 := Lib.hid ((K1.out.trans HK2.out).trans (HW2.out.wk HI.out))
      clear HI
      generalize w2.iter t pos = w3 at *
      go_wp2
      go_ret
      exact ⟨rfl, HW3.out, HK3.out⟩
end Go.Proofs.YtpgiboblonlddaaGreatDoor

namespace Go.Proofs.YtpgiboblonlddaaGreatDoor
open Go.RowKit Go.ChangeMaps
set_option linter.unusedVariables false
set_option linter.unusedSimpArgs false
set_option maxHeartbeats 8000000 in
set_option maxRecDepth 100000 in
theorem expr_any {R : RL} (H : R.Ok) {P : PlG} (hV : ValTo R P) : ExprTo R P := by
  intro e eb eo a av op s s' t W hx hsz hg hw ha
  have HF := Lib.hid H.toFar
  unfold exprG at hg
  cases hv : valG R P e a op s with
  | none => rw [hv] at hg; cases hg
  | some q =>
    obtain ⟨r, s2⟩ := q
    rw [hv] at hg
    have HVal := Lib.hid (hV e eb eo a av op s s2 r W hx hsz hv hw ha)
    have HX := Lib.hid hx
    have HS := Lib.hid hsz
    cases r with
    | none =>
      simp only [Option.some.injEq, Prod.mk.injEq] at hg
      obtain ⟨rfl, rfl⟩ := hg
      have hp := ex_parts e
      have hns := nameK_size (exK e) (exN e) (exA e)
      have h2 : ¬ 9223372036854775807 < 1 + (nameK (exK e) (exN e) (exA e)).size := by omega
      have h3 : ¬ 9223372036854775807 < 1 + (nameK (exK e) (exN e) (exA e)).size + 1 := by omega
      unfold bracB nameE
      have HN := Lib.hid (fun V (hb : Below R.w0.heap.size R.w0 V) => nameOf_any (exK e) (exN e) (exA e) eb eo V (hx.cells hb).2.1 (hx.cells hb).2.2.2.1 (hx.cells hb).2.2.2.2.1 (by omega))
      unfold VV.v VV.cells strV at HVal
      simp only [Option.getD_none, Option.isSome_none] at HVal
      generalize nameK (exK e) (exN e) (exA e) = nm at *
      clear H hV hx hsz hv hw ha hp
      go_enter Tryz.func107, Tryz.ntmps107
      go_wp2_with fail
      go_at_call 145
      refine HVal.out.mono ?_
      rintro e2 w2 ⟨rfl, hw2, hk2⟩
      have HB2 := Lib.hid ((Below.refl w2.heap.size w2).alloc (Nat.le_refl _) (.cells zVal 69))
      have HW2 := Lib.hid (hw2.later HB2.out)
      have HK2 := Lib.hid (hk2.trans (hw2.wk HB2.out))
      clear hw2 hk2 HVal
      go_wp2_with fail
      go_at_call 146
      refine (HN.out _ HW2.out.bf).mono ?_
      rintro e3 w3 ⟨rfl, hb3⟩
      have HW3 := Lib.hid (HW2.out.later hb3)
      have HK3 := Lib.hid (HK2.out.trans (HW2.out.wk hb3))
      clear hb3
      go_wp2
      go_ret
      refine ⟨ret_str (bytes_eq ?_), HW3.out, HK3.out⟩
      simp [app_data]
    | some v =>
      dsimp only at hg
      cases hs : R.str v with
      | none => rw [hs] at hg; cases hg
      | some q =>
        obtain ⟨u, d⟩ := q
        rw [hs] at hg
        dsimp only at hg
        split at hg
        case isFalse => cases hg
        case isTrue hle =>
          simp only [Option.some.injEq, Prod.mk.injEq] at hg
          obtain ⟨rfl, rfl⟩ := hg
          have HStr := Lib.hid (H.strs v u d hs)
          have hl := hle.1
          obtain ⟨v0, v1, v2, v3, v4, v5, v6, v7, v8, v9, v10, v11⟩ := v
          unfold VV.v VV.cells at HVal HStr
          simp only [Option.getD_some, Option.isSome_some] at HVal HStr
          clear H hV hx hsz hv hw ha hs hle
          go_enter Tryz.func107, Tryz.ntmps107
          go_wp2_with fail
          go_at_call 145
          refine HVal.out.mono ?_
          rintro e2 w2 ⟨rfl, hw2, hk2⟩
          have HB2 := Lib.hid ((Below.refl w2.heap.size w2).alloc (Nat.le_refl _) (.cells #[.int .i64 v0, .string v1, .bool v2, .string v3, .int .i64 v4, .int .i64 v5, .int .i64 v6, .int .i64 v7, .bool v8, .bool v9, .int .i64 v10, .int .i64 v11] 69))
          have HO := Lib.hid (BoxAt.new' w2 w2.heap.size #[.int .i64 v0, .string v1, .bool v2, .string v3, .int .i64 v4, .int .i64 v5, .int .i64 v6, .int .i64 v7, .bool v8, .bool v9, .int .i64 v10, .int .i64 v11] 69 rfl)
          have HW2 := Lib.hid (hw2.later HB2.out)
          have HK2 := Lib.hid (hk2.trans (hw2.wk HB2.out))
          clear hw2 hk2 HVal HB2
          go_upto_region 3 with fail
          generalize w2.alloc (.cells #[.int .i64 v0, .string v1, .bool v2, .string v3, .int .i64 v4, .int .i64 v5, .int .i64 v6, .int .i64 v7, .bool v8, .bool v9, .int .i64 v10, .int .i64 v11] 69) = V at *
          obtain ⟨ev, hbx, _⟩ := HW2.out.box
          have c1 : V.cell? ⟨R.wb, 1, none⟩ = some (.pointer (some ⟨R.km, 0, none⟩)) := hbx.cell 1
          have c2 : V.cell? ⟨R.wb, 2, none⟩ = some (.string R.lang) := hbx.cell 2
          have o0 := fun j => BoxAt.cell HO.out j
          obtain ⟨made, hms⟩ := HW2.out.ms
          have HMs := Lib.hid hms
          have hbf := Lib.hid HW2.out.bf
          clear hbx hms
          go_region_with (go_at_call 18; refine (HStr.out V.drew made s2.ask HMs.out (by omega) hbf.out.drew).mono ?_; rintro e3 w3 ⟨rfl, ⟨made', hm3⟩, hk3⟩)
          all_goals
            have hd := (Below.refl V.heap.size V).drew
            have hwd := HW2.out.later hd
            obtain ⟨hw3, hk4⟩ := hwd.str HF.out hk3 hm3
            have HW3 := Lib.hid hw3
            have HK3 := Lib.hid ((HK2.out.trans (HW2.out.wk hd)).trans hk4)
            clear hd hwd hw3 hk4 hk3 hm3
            go_wp2
            go_ret
            exact ⟨rfl, HW3.out, HK3.out⟩
end Go.Proofs.YtpgiboblonlddaaGreatDoor

namespace Go.Proofs.YtpgiboblonlddaaGreatDoor
open Go.RowKit Go.ChangeMaps
set_option linter.unusedVariables false
set_option linter.unusedSimpArgs false
theorem unitZero (w : World) : (zeroValue 38).run Tryz.prog w = .ok (.agg #[]) w := (zero_of_info (show (Tryz.prog.info? 38).map (fun i => (i.zero, i.size)) = some (some (.agg #[]), 0) by kernel_rfl)).1 w
theorem open_look {R : RL} {W : World} {op : List ByteArray} (nm : ByteArray) (h : OpenAt W R.ob op) :
    (Instr.lookup 94 (.map (some R.ob)) (.string nm) true).run Tryz.prog W = .ok (.tuple #[.agg #[], .bool (memB nm op)]) W := by
  obtain ⟨L, c, hm, hL⟩ := h
  obtain ⟨r, hf, hr, hv⟩ := find_open nm L 0
  have hl := run_look (P := Tryz.prog) (t := 94) Tryz.underlying94 Tryz.underlying9 W (unitZero W) R.ob _ c hm nm r (by rw [openE_list]; exact hf)
  rw [hl, hr, hL]
  cases r with
  | none => rfl
  | some q => rw [Option.map_some, Option.getD_some, hv q rfl]
theorem box_wk {R : RL} {W W' : World} {k : Nat} {cs : Array Value} {t : TypeId} (h : BoxAt W k cs t) (g : WK R W W') (h1 : k ≠ R.wb) (h2 : k ≠ R.ob) (h3 : k ≠ R.km) (ht : t ≠ 59) : BoxAt W' k cs t :=
  g.keeps h h1 h2 h3 (fun cs fz e => ht (Obj.cells.inj e).2.1)
theorem nameE_size (e : EX) (h : e.size ≤ 4000000) : (exN e).size + (exA e).size ≤ 900000000 := by
  have := ex_parts e
  omega
set_option maxHeartbeats 16000000 in
set_option maxRecDepth 100000 in
theorem ref_any {R : RL} (H : R.Ok) {P : PlG} (hP : PlaceTo R P) (tm : Bool) (n0 : ByteArray) (x : Ent) (hxe : R.ent tm n0 = some x) (e : EX) (eb eo : Nat) (a : Sc) (av : Value) {op : List ByteArray} (s s' : RSt) (r : Option VV) (W : World) (hx : ExW R e eb eo) (hsz : e.size ≤ 4000000) (hg : refG P e x a op s = some (r, s')) (hw : WrAt R W op s) (ha : ScAt R W a av) :
    Calls Tryz.prog 171 #[.pointer (some ⟨R.wb, 0, none⟩), .pointer (some ⟨eb, eo, none⟩), x.v, av] W fun e' w' => e' = .returned (.tuple #[(r.getD (strV ⟨#[]⟩)).v, .bool r.isSome]) ∧ WrAt R w' op s' ∧ WK R W w' := by
  have HF := Lib.hid H.toFar
  obtain ⟨pok, pl, hpat⟩ : ∃ pok pl, x.pat (exA e) = (pok, pl) := ⟨_, _, rfl⟩
  have hAt := fun V hb hl => H.att tm n0 (exA e) x V hxe hb hl
  have hps := H.siz tm n0 (exA e) x hxe
  unfold refG at hg
  rw [hpat] at hg hps
  simp only [hpat] at hAt
  dsimp only at hg hps
  have HAt := Lib.hid hAt
  have HPs := Lib.hid hps
  have HP := Lib.hid hP
  have hns := nameE_size e hsz
  have HC := Lib.hid (fun V hb => ExW.cells hx (W := V) hb)
  have hl3 : R.wb < W.heap.size ∧ R.ob < W.heap.size ∧ R.km < W.heap.size := by
    obtain ⟨ev, h1, _⟩ := hw.box
    obtain ⟨m0, h3⟩ := hw.ms
    exact ⟨h1.lt, hw.om.lt, h3.lt⟩
  obtain ⟨l1, l2, l3⟩ := hl3
  have hw0 := hw.bf.size
  have HNm := Lib.hid (fun V (hb : Below R.w0.heap.size R.w0 V) => nameOf_any (exK e) (exN e) (exA e) eb eo V (hx.cells hb).2.1 (hx.cells hb).2.2.2.1 (hx.cells hb).2.2.2.2.1 hns)
  have HWr := Lib.hid (fun (V : World) (c : Int) (s s' : RSt) (h : WrAt R V op s) (hb : badG c (nameE e) s = some s') => wrong_any H.toFar c (exK e) (exN e) (exA e) eb eo V h hb (hx.cells h.bf).2.1 (hx.cells h.bf).2.2.2.1 (hx.cells h.bf).2.2.2.2.1 hns)
  obtain ⟨ty, lv, tx, xnm, A1, n1, c1, A2, n2, c2, fr, tu, pat⟩ := x
  unfold Ent.v at HAt ⊢
  dsimp only at HAt ⊢
  have HW1 := Lib.hid (hw.later (((Below.refl W.heap.size W).alloc (Nat.le_refl _) (.cells #[.int .i64 ty, .int .i64 lv, .string tx, .string xnm, .slice A1 n1 c1, .slice A2 n2 c2, .int .i64 fr, .int .i64 tu] 89)).alloc (by simp) (.cells zVal 69)))
  have HK1 := Lib.hid (hw.wk (((Below.refl W.heap.size W).alloc (Nat.le_refl _) (.cells #[.int .i64 ty, .int .i64 lv, .string tx, .string xnm, .slice A1 n1 c1, .slice A2 n2 c2, .int .i64 fr, .int .i64 tu] 89)).alloc (by simp) (.cells zVal 69)))
  have HE1 := Lib.hid ((BoxAt.new W #[.int .i64 ty, .int .i64 lv, .string tx, .string xnm, .slice A1 n1 c1, .slice A2 n2 c2, .int .i64 fr, .int .i64 tu] 89).alloc (.cells zVal 69))
  have HO1 := Lib.hid (BoxAt.new' (W.alloc (.cells #[.int .i64 ty, .int .i64 lv, .string tx, .string xnm, .slice A1 n1 c1, .slice A2 n2 c2, .int .i64 fr, .int .i64 tu] 89)) (W.heap.size + 1) zVal 69 (by simp))
  have hVs : ((W.alloc (.cells #[.int .i64 ty, .int .i64 lv, .string tx, .string xnm, .slice A1 n1 c1, .slice A2 n2 c2, .int .i64 fr, .int .i64 tu] 89)).alloc (.cells zVal 69)).heap.size = W.heap.size + 2 := by simp
  have HA1 := Lib.hid (ha.wk HF.out hw HK1.out)
  obtain ⟨ao, rfl⟩ := ha.nilmap
  have HG := Lib.hid hg
  clear H hP hx hsz hw ha hg hps hxe hpat hAt
  go_enter Tryz.func171, Tryz.ntmps171
  go_upto_region 1 with fail
  generalize (W.alloc (.cells #[.int .i64 ty, .int .i64 lv, .string tx, .string xnm, .slice A1 n1 c1, .slice A2 n2 c2, .int .i64 fr, .int .i64 tu] 89)).alloc (.cells zVal 69) = V at *
  have e0 := BoxAt.cell HE1.out 0
  have e1 := BoxAt.cell HE1.out 1
  have e2 := BoxAt.cell HE1.out 2
  have e3 := BoxAt.cell HE1.out 3
  have e4 := BoxAt.cell HE1.out 4
  have e5 := BoxAt.cell HE1.out 5
  have e6 := BoxAt.cell HE1.out 6
  have e7 := BoxAt.cell HE1.out 7
  simp only [List.getElem?_toArray, List.getElem?_cons_zero, List.getElem?_cons_succ] at e0 e1 e2 e3 e4 e5 e6 e7
  obtain ⟨_, k0, k1, k2, k3, _⟩ := HC.out V HW1.out.bf
  have hbf := Lib.hid HW1.out.bf
  go_region_with (go_at_call 23; refine (HAt.out V.drew hbf.out.drew (by show _ ∧ _; exact ⟨by show R.wb < V.heap.size; omega, by show R.ob < V.heap.size; omega, by show R.km < V.heap.size; omega⟩)).mono ?_; rintro e' w2 ⟨Ap, cp, rfl, hpw, hb2⟩)
  all_goals
    have hd2 : Below V.heap.size V w2 := (Below.refl V.heap.size V).drew.trans hb2
    have HW2 := Lib.hid (HW1.out.later hd2)
    have HK2 := Lib.hid (HK1.out.trans (HW1.out.wk hd2))
    have HO2 := Lib.hid (HO1.out.later hd2)
    have HA2 := Lib.hid (HA1.out.later hd2)
    have HPw := Lib.hid hpw
    have hs2 := hd2.size
    clear hpw hb2 hd2 HW1 HK1 HO1 HA1 HE1 e0 e1 e2 e3 e4 e5 e6 e7 k0 k1 k2 k3
    cases pok with
    | false =>
      have hg := HG.out
      rw [if_pos rfl] at hg
      obtain ⟨s2, hb, he⟩ := Option.map_eq_some_iff.1 hg
      simp only [Prod.mk.injEq] at he
      obtain ⟨rfl, rfl⟩ := he
      have HB := Lib.hid hb
      clear hg hb HG
      have HWr2 := Lib.hid (HWr.out w2 4 s s2 HW2.out HB.out)
      unfold VV.v VV.cells strV at HWr2
      dsimp only [Option.getD_none, Option.isSome_none] at HWr2 ⊢
      go_wp2_with fail
      go_at_call 170
      refine HWr2.out.mono ?_
      rintro e' w3 ⟨rfl, hw3, hk3⟩
      have HO3 := Lib.hid (box_wk HO2.out hk3 (by omega) (by omega) (by omega) (by decide))
      have HW3 := Lib.hid hw3
      have HK3 := Lib.hid (HK2.out.trans hk3)
      clear hw3 hk3
      have o0 := fun j => BoxAt.cell HO3.out j
      have oz := fun j => BoxAt.z HO3.out j
      have ol := BoxAt.lt HO3.out
      go_wp2
      refine end12w rfl HO3.out rfl (by rfl) (by rfl) rfl ⟨rfl, ?_, ?_⟩
      · exact WrAt.set12 HF.out HW3.out HO3.out (by omega) (by omega) (by omega) (by decide) _ _ _ _ _ _ _ _ _ _ _ _
      · exact WK.set12 HK3.out (by omega) (by omega) _ _ _ _ _ _ _ _ _ _ _ _
    | true =>
      have hg := HG.out
      rw [if_neg (by simp)] at hg
      obtain ⟨nm, hnm⟩ : ∃ n, nameE e = n := ⟨_, rfl⟩
      have hnm2 : nameK (exK e) (exN e) (exA e) = nm := hnm
      rw [hnm2] at HNm
      rw [hnm] at hg HWr
      clear hnm2 hnm HG
      go_wp2_with fail
      go_at_call 146
      refine (HNm.out w2 HW2.out.bf).mono ?_
      rintro e' w3 ⟨rfl, hb3⟩
      have HW3 := Lib.hid (HW2.out.later hb3)
      have HK3 := Lib.hid (HK2.out.trans (HW2.out.wk hb3))
      have HO3 := Lib.hid (HO2.out.later hb3)
      have HA3 := Lib.hid (HA2.out.later hb3)
      have HP3 := Lib.hid (HPw.out.wk (HW2.out.wk hb3))
      have hs3 := hb3.size
      clear hb3 HW2 HK2 HO2 HA2 HPw
      obtain ⟨ev, hbx, _⟩ := HW3.out.box
      have c3 : w3.cell? ⟨R.wb, 3, none⟩ = some (.map (some R.ob)) := hbx.cell 3
      have hlk := open_look nm HW3.out.om
      have hB4 := (Below.refl w3.heap.size w3).alloc (Nat.le_refl _) (.cells #[] 38)
      have HW4 := Lib.hid (HW3.out.later hB4)
      have HK4 := Lib.hid (HK3.out.trans (HW3.out.wk hB4))
      have HO4 := Lib.hid (HO3.out.later hB4)
      have HA4 := Lib.hid (HA3.out.later hB4)
      have HP4 := Lib.hid (HP3.out.wk (HW3.out.wk hB4))
      have hs4 := hB4.size
      clear hbx hB4 HW3 HK3 HO3 HA3 HP3
      cases hop : memB nm op with
      | true =>
        rw [hop] at hg hlk
        rw [if_pos rfl] at hg
        obtain ⟨s2, hb, he⟩ := Option.map_eq_some_iff.1 hg
        simp only [Prod.mk.injEq] at he
        obtain ⟨rfl, rfl⟩ := he
        have HB := Lib.hid hb
        clear hg hb hop
        have HWr2 := Lib.hid (HWr.out _ 7 s s2 HW4.out HB.out)
        unfold VV.v VV.cells strV at HWr2
        dsimp only [Option.getD_none, Option.isSome_none] at HWr2 ⊢
        go_upto_region 6 with fail
        generalize w3.alloc (.cells #[] 38) = w4 at *
        go_wp2_with fail
        go_at_call 170
        refine HWr2.out.mono ?_
        rintro e' w5 ⟨rfl, hw5, hk5⟩
        have HO5 := Lib.hid (box_wk HO4.out hk5 (by omega) (by omega) (by omega) (by decide))
        have HW5 := Lib.hid hw5
        have HK5 := Lib.hid (HK4.out.trans hk5)
        clear hw5 hk5
        have o0 := fun j => BoxAt.cell HO5.out j
        have oz := fun j => BoxAt.z HO5.out j
        have ol := BoxAt.lt HO5.out
        go_wp2
        refine end12w rfl HO5.out rfl (by rfl) (by rfl) rfl ⟨rfl, ?_, ?_⟩
        · exact WrAt.set12 HF.out HW5.out HO5.out (by omega) (by omega) (by omega) (by decide) _ _ _ _ _ _ _ _ _ _ _ _
        · exact WK.set12 HK5.out (by omega) (by omega) _ _ _ _ _ _ _ _ _ _ _ _
      | false =>
        rw [hop] at hg hlk
        rw [if_neg (by simp)] at hg
        obtain ⟨⟨t, s2⟩, hb, he⟩ := Option.map_eq_some_iff.1 hg
        simp only [Prod.mk.injEq] at he
        obtain ⟨rfl, rfl⟩ := he
        have HNd := Lib.hid (namedR_any HF.out HP.out nm pl Ap cp a (.map ao) s s2 t _ hop HP4.out HPs.out hb HW4.out HA4.out)
        have HSt := Lib.hid (fun V => vstr_any t V)
        clear hg hb hop
        unfold VV.v VV.cells strV at HSt
        dsimp only at HSt
        go_upto_region 6 with fail
        generalize w3.alloc (.cells #[] 38) = w4 at *
        go_wp2_with fail
        go_at_call 25
        refine HNd.out.mono ?_
        rintro e' w5 ⟨rfl, hw5, hk5⟩
        have HO5 := Lib.hid (box_wk HO4.out hk5 (by omega) (by omega) (by omega) (by decide))
        have HW5 := Lib.hid hw5
        have HK5 := Lib.hid (HK4.out.trans hk5)
        clear hw5 hk5 HNd
        go_wp2_with fail
        go_at_call 13
        refine (HSt.out w5).mono ?_
        rintro e' w6 ⟨rfl, hb6⟩
        have HO6 := Lib.hid (HO5.out.later hb6)
        have HW6 := Lib.hid (HW5.out.later hb6)
        have HK6 := Lib.hid (HK5.out.trans (HW5.out.wk hb6))
        clear hb6
        have o0 := fun j => BoxAt.cell HO6.out j
        have oz := fun j => BoxAt.z HO6.out j
        have ol := BoxAt.lt HO6.out
        go_wp2
        refine end12w rfl HO6.out rfl (by rfl) (by rfl) rfl ⟨rfl, ?_, ?_⟩
        · exact WrAt.set12 HF.out HW6.out HO6.out (by omega) (by omega) (by omega) (by decide) _ _ _ _ _ _ _ _ _ _ _ _
        · exact WK.set12 HK6.out (by omega) (by omega) _ _ _ _ _ _ _ _ _ _ _ _
end Go.Proofs.YtpgiboblonlddaaGreatDoor

namespace Go.Proofs.YtpgiboblonlddaaGreatDoor
open Go.RowKit Go.ChangeMaps
set_option linter.unusedVariables false
set_option linter.unusedSimpArgs false
theorem WrAt.set1 {R : RL} {W : World} {op : List ByteArray} {s : RSt} (F : R.Far) (h : WrAt R W op s) {b : Nat} {cs : Array Value} {t : TypeId} (hb : BoxAt W b cs t) (hB : R.w0.heap.size ≤ b) (h1 : b ≠ R.wb) (h3 : b ≠ R.km) (ht : t ≠ 59) (j : Nat) (v : Value) : WrAt R (W.setCell ⟨b, j, none⟩ v) op s := by
  obtain ⟨g1, ⟨ev, g2, g3⟩, hop, ⟨m0, g6⟩⟩ := h
  have hob : R.ob ≠ b := by
    rintro e
    obtain ⟨L, c, g4, _⟩ := hop
    have g5 : W.heap[R.ob]? = some _ := g4
    have g7 : W.heap[b]? = some _ := hb
    rw [e, g7] at g5
    cases g5
  refine ⟨g1.setCell (p := ⟨b, j, none⟩) hB v, ⟨ev, (Below.heap_setCell W _ v _ (fun e => h1 e.symm)).trans g2, row_later g3 (fun g hg hc => Below.heap_setCell W _ v g (fun e => ?_))⟩, hop.other (Below.heap_setCell W _ v _ hob), m0, ?_⟩
  · subst e
    obtain ⟨cs, fz, hc⟩ := hc
    have g7 : W.heap[g]? = some _ := hb
    rw [hc] at g7
    exact ht (Obj.cells.inj (Option.some.inj g7)).2.1.symm
  · obtain ⟨x, k1, k2⟩ := g6
    refine ⟨x, (Below.heap_setCell W _ v _ (fun e => h3 e.symm)).trans k1, fun hm => ?_⟩
    obtain ⟨mb, e1, e2, e3⟩ := k2 hm
    refine ⟨mb, e1, e2, (Below.heap_setCell W _ v _ (fun e => ?_)).trans e3⟩
    subst e
    have g7 : W.heap[mb]? = some _ := hb
    rw [e3] at g7
    cases g7
theorem valZero (w : World) : (zeroValue 69).run Tryz.prog w = .ok (.agg zVal) w := (zero_of_info (show (Tryz.prog.info? 69).map (fun i => (i.zero, i.size)) = some (some (.agg zVal), 12) by kernel_rfl)).1 w
set_option maxRecDepth 100000 in
theorem sc_look {R : RL} {W : World} {a : Sc} {ao : Option Nat} (n : ByteArray) (h : ScAt R W a (.map ao)) :
    (Instr.lookup 130 (.map ao) (.string n) true).run Tryz.prog W = .ok (.tuple #[((lookS n a).getD (strV ⟨#[]⟩)).v, .bool (lookS n a).isSome]) W := by
  rcases h with ⟨rfl, h⟩ | ⟨b, c, h, _, _, hm⟩
  · cases h
    have hc := check_str (P := Tryz.prog) (k := 9) Tryz.underlying9 W true n
    simp [Instr.lookup, run_underlying Tryz.underlying130, hc, valZero, Result.andThen, lookS]
    rfl
  · cases h
    obtain ⟨r, hf, hr⟩ := find_sc n a 0 0
    rw [run_look (P := Tryz.prog) (t := 130) Tryz.underlying130 Tryz.underlying9 W (valZero W) b _ c hm n r hf]
    cases hl : lookS n a with
    | none => rw [hl] at hr; cases r with
      | none => rfl
      | some p => cases hr
    | some v => rw [hl] at hr; cases r with
      | none => cases hr
      | some p => rw [hr]; rfl
set_option maxHeartbeats 16000000 in
set_option maxRecDepth 100000 in
theorem val0_any {R : RL} (H : R.Ok) {P : PlG} (hP : PlaceTo R P) (e : EX) (eb eo : Nat) (a : Sc) (av : Value) (op : List ByteArray) (s s' : RSt) (r : Option VV) (W : World) (hx : ExW R e eb eo) (hsz : e.size ≤ 4000000) (hg : valG R P e a op s = some (r, s')) (hw : WrAt R W op s) (ha : ScAt R W a av) (hkk : exK e = 0) :
    Calls Tryz.prog 145 #[.pointer (some ⟨R.wb, 0, none⟩), .pointer (some ⟨eb, eo, none⟩), av] W fun e' w' => e' = .returned (.tuple #[(r.getD (strV ⟨#[]⟩)).v, .bool r.isSome]) ∧ WrAt R w' op s' ∧ WK R W w' := by
  have HF := Lib.hid H.toFar
  have HH := Lib.hid H
  have HP := Lib.hid hP
  have hns := nameE_size e hsz
  have hl3 : R.wb < W.heap.size ∧ R.ob < W.heap.size ∧ R.km < W.heap.size := by
    obtain ⟨ev, h1, _⟩ := hw.box
    obtain ⟨m0, h3⟩ := hw.ms
    exact ⟨h1.lt, hw.om.lt, h3.lt⟩
  obtain ⟨l1, l2, l3⟩ := hl3
  have hw0 := hw.bf.size
  have HWr := Lib.hid (fun (V : World) (c : Int) (s s' : RSt) (h : WrAt R V op s) (hb : badG c (nameE e) s = some s') => wrong_any H.toFar c (exK e) (exN e) (exA e) eb eo V h hb (hx.cells h.bf).2.1 (hx.cells h.bf).2.2.2.1 (hx.cells h.bf).2.2.2.2.1 hns)
  have hA1 := (Below.refl W.heap.size W).alloc (Nat.le_refl _) (.cells zVal 69)
  have HW1 := Lib.hid (hw.later hA1)
  have HK1 := Lib.hid (hw.wk hA1)
  have HO1 := Lib.hid (BoxAt.new' W W.heap.size zVal 69 rfl)
  have HA1 := Lib.hid (ha.later hA1)
  have HVs := Lib.hid (show (W.alloc (.cells zVal 69)).heap.size = W.heap.size + 1 by simp)
  obtain ⟨ao, rfl⟩ := ha.nilmap
  obtain ⟨hel, k0, k1, k2, k3, u5, k5, hu5⟩ := hx.cells HW1.out.bf
  have HC := Lib.hid (fun V hb => ExW.cells hx (W := V) hb)
  have HX := Lib.hid hx
  have HS := Lib.hid hsz
  obtain ⟨kd, hkd⟩ : ∃ k, exK e = k := ⟨_, rfl⟩
  rw [hkd] at k0
  have HU5 := Lib.hid hu5
  have HKd := Lib.hid hkd
  unfold valG at hg
  rw [hkd] at hg hkk
  clear H hP hx hsz hw ha hA1 hu5 hkd
  have hlit : ∃ v, r = some v ∧ s' = s ∧ (if kd = 1 then R.wri (exT e) = some v else v = strV (exT e)) := by
    rw [if_pos hkk] at hg
    simp only [Option.some.injEq, Prod.mk.injEq] at hg
    obtain ⟨rfl, rfl⟩ := hg
    exact ⟨_, rfl, rfl, by rw [if_neg (by omega)]⟩
  obtain ⟨v, rfl, rfl, hv⟩ := hlit
  have HLt := Lib.hid (fun V hb c0 c1 => literal_any HH.out kd (exT e) v eb eo V hb c0 c1 hv)
  obtain ⟨v0, v1, v2, v3, v4, v5, v6, v7, v8, v9, v10, v11⟩ := v
  unfold VV.v VV.cells at HLt
  dsimp only at HLt
  have f0 : (kd == 0) = true := beq_iff_eq.2 hkk
  clear hg hv hkk
  go_enter Tryz.func145, Tryz.ntmps145
  go_upto_region 1 with fail
  generalize W.alloc (.cells zVal 69) = V at *
  go_wp2_with fail
  go_at_call 169
  refine (HLt.out V HW1.out.bf k0 k1).mono ?_
  rintro e' w2 ⟨rfl, hb2⟩
  have HW2 := Lib.hid (HW1.out.later hb2)
  have HK2 := Lib.hid (HK1.out.trans (HW1.out.wk hb2))
  have HO2 := Lib.hid (HO1.out.later hb2)
  clear hb2
  have o0 := fun j => BoxAt.cell HO2.out j
  have oz := fun j => BoxAt.z HO2.out j
  have ol := BoxAt.lt HO2.out
  go_wp2
  refine end12w rfl HO2.out rfl (by rfl) (by rfl) rfl ⟨rfl, ?_, ?_⟩
  · exact WrAt.set12 HF.out HW2.out HO2.out (by omega) (by omega) (by omega) (by decide) _ _ _ _ _ _ _ _ _ _ _ _
  · exact WK.set12 HK2.out (by omega) (by omega) _ _ _ _ _ _ _ _ _ _ _ _
set_option maxHeartbeats 16000000 in
set_option maxRecDepth 100000 in
theorem val1_any {R : RL} (H : R.Ok) {P : PlG} (hP : PlaceTo R P) (e : EX) (eb eo : Nat) (a : Sc) (av : Value) (op : List ByteArray) (s s' : RSt) (r : Option VV) (W : World) (hx : ExW R e eb eo) (hsz : e.size ≤ 4000000) (hg : valG R P e a op s = some (r, s')) (hw : WrAt R W op s) (ha : ScAt R W a av) (hkk : exK e = 1) :
    Calls Tryz.prog 145 #[.pointer (some ⟨R.wb, 0, none⟩), .pointer (some ⟨eb, eo, none⟩), av] W fun e' w' => e' = .returned (.tuple #[(r.getD (strV ⟨#[]⟩)).v, .bool r.isSome]) ∧ WrAt R w' op s' ∧ WK R W w' := by
  have HF := Lib.hid H.toFar
  have HH := Lib.hid H
  have HP := Lib.hid hP
  have hns := nameE_size e hsz
  have hl3 : R.wb < W.heap.size ∧ R.ob < W.heap.size ∧ R.km < W.heap.size := by
    obtain ⟨ev, h1, _⟩ := hw.box
    obtain ⟨m0, h3⟩ := hw.ms
    exact ⟨h1.lt, hw.om.lt, h3.lt⟩
  obtain ⟨l1, l2, l3⟩ := hl3
  have hw0 := hw.bf.size
  have HWr := Lib.hid (fun (V : World) (c : Int) (s s' : RSt) (h : WrAt R V op s) (hb : badG c (nameE e) s = some s') => wrong_any H.toFar c (exK e) (exN e) (exA e) eb eo V h hb (hx.cells h.bf).2.1 (hx.cells h.bf).2.2.2.1 (hx.cells h.bf).2.2.2.2.1 hns)
  have hA1 := (Below.refl W.heap.size W).alloc (Nat.le_refl _) (.cells zVal 69)
  have HW1 := Lib.hid (hw.later hA1)
  have HK1 := Lib.hid (hw.wk hA1)
  have HO1 := Lib.hid (BoxAt.new' W W.heap.size zVal 69 rfl)
  have HA1 := Lib.hid (ha.later hA1)
  have HVs := Lib.hid (show (W.alloc (.cells zVal 69)).heap.size = W.heap.size + 1 by simp)
  obtain ⟨ao, rfl⟩ := ha.nilmap
  obtain ⟨hel, k0, k1, k2, k3, u5, k5, hu5⟩ := hx.cells HW1.out.bf
  have HC := Lib.hid (fun V hb => ExW.cells hx (W := V) hb)
  have HX := Lib.hid hx
  have HS := Lib.hid hsz
  obtain ⟨kd, hkd⟩ : ∃ k, exK e = k := ⟨_, rfl⟩
  rw [hkd] at k0
  have HU5 := Lib.hid hu5
  have HKd := Lib.hid hkd
  unfold valG at hg
  rw [hkd] at hg hkk
  clear H hP hx hsz hw ha hA1 hu5 hkd
  have hlit : ∃ v, r = some v ∧ s' = s ∧ (if kd = 1 then R.wri (exT e) = some v else v = strV (exT e)) := by
    rw [if_neg (by omega), if_pos hkk] at hg
    obtain ⟨v, hv, he⟩ := Option.map_eq_some_iff.1 hg
    simp only [Prod.mk.injEq] at he
    obtain ⟨rfl, rfl⟩ := he
    exact ⟨v, rfl, rfl, by rw [if_pos hkk]; exact hv⟩
  obtain ⟨v, rfl, rfl, hv⟩ := hlit
  have HLt := Lib.hid (fun V hb c0 c1 => literal_any HH.out kd (exT e) v eb eo V hb c0 c1 hv)
  obtain ⟨v0, v1, v2, v3, v4, v5, v6, v7, v8, v9, v10, v11⟩ := v
  unfold VV.v VV.cells at HLt
  dsimp only at HLt
  have f0 : (kd == 0) = false := beq_eq_false_iff_ne.2 (by omega)
  have f1 : (kd == 1) = true := beq_iff_eq.2 hkk
  clear hg hv hkk
  go_enter Tryz.func145, Tryz.ntmps145
  go_upto_region 1 with fail
  generalize W.alloc (.cells zVal 69) = V at *
  go_wp2_with fail
  go_at_call 169
  refine (HLt.out V HW1.out.bf k0 k1).mono ?_
  rintro e' w2 ⟨rfl, hb2⟩
  have HW2 := Lib.hid (HW1.out.later hb2)
  have HK2 := Lib.hid (HK1.out.trans (HW1.out.wk hb2))
  have HO2 := Lib.hid (HO1.out.later hb2)
  clear hb2
  have o0 := fun j => BoxAt.cell HO2.out j
  have oz := fun j => BoxAt.z HO2.out j
  have ol := BoxAt.lt HO2.out
  go_wp2
  refine end12w rfl HO2.out rfl (by rfl) (by rfl) rfl ⟨rfl, ?_, ?_⟩
  · exact WrAt.set12 HF.out HW2.out HO2.out (by omega) (by omega) (by omega) (by decide) _ _ _ _ _ _ _ _ _ _ _ _
  · exact WK.set12 HK2.out (by omega) (by omega) _ _ _ _ _ _ _ _ _ _ _ _
end Go.Proofs.YtpgiboblonlddaaGreatDoor

namespace Go.Proofs.YtpgiboblonlddaaGreatDoor
open Go.RowKit Go.ChangeMaps
set_option linter.unusedVariables false
set_option linter.unusedSimpArgs false
set_option maxHeartbeats 16000000 in
set_option maxRecDepth 100000 in
theorem val2_any {R : RL} (H : R.Ok) {P : PlG} (hP : PlaceTo R P) (e : EX) (eb eo : Nat) (a : Sc) (av : Value) (op : List ByteArray) (s s' : RSt) (r : Option VV) (W : World) (hx : ExW R e eb eo) (hsz : e.size ≤ 4000000) (hg : valG R P e a op s = some (r, s')) (hw : WrAt R W op s) (ha : ScAt R W a av) (hkk : exK e = 2) :
    Calls Tryz.prog 145 #[.pointer (some ⟨R.wb, 0, none⟩), .pointer (some ⟨eb, eo, none⟩), av] W fun e' w' => e' = .returned (.tuple #[(r.getD (strV ⟨#[]⟩)).v, .bool r.isSome]) ∧ WrAt R w' op s' ∧ WK R W w' := by
  have HF := Lib.hid H.toFar
  have HH := Lib.hid H
  have HP := Lib.hid hP
  have hns := nameE_size e hsz
  have hl3 : R.wb < W.heap.size ∧ R.ob < W.heap.size ∧ R.km < W.heap.size := by
    obtain ⟨ev, h1, _⟩ := hw.box
    obtain ⟨m0, h3⟩ := hw.ms
    exact ⟨h1.lt, hw.om.lt, h3.lt⟩
  obtain ⟨l1, l2, l3⟩ := hl3
  have hw0 := hw.bf.size
  have HWr := Lib.hid (fun (V : World) (c : Int) (s s' : RSt) (h : WrAt R V op s) (hb : badG c (nameE e) s = some s') => wrong_any H.toFar c (exK e) (exN e) (exA e) eb eo V h hb (hx.cells h.bf).2.1 (hx.cells h.bf).2.2.2.1 (hx.cells h.bf).2.2.2.2.1 hns)
  have hA1 := (Below.refl W.heap.size W).alloc (Nat.le_refl _) (.cells zVal 69)
  have HW1 := Lib.hid (hw.later hA1)
  have HK1 := Lib.hid (hw.wk hA1)
  have HO1 := Lib.hid (BoxAt.new' W W.heap.size zVal 69 rfl)
  have HA1 := Lib.hid (ha.later hA1)
  have HVs := Lib.hid (show (W.alloc (.cells zVal 69)).heap.size = W.heap.size + 1 by simp)
  obtain ⟨ao, rfl⟩ := ha.nilmap
  obtain ⟨hel, k0, k1, k2, k3, u5, k5, hu5⟩ := hx.cells HW1.out.bf
  have HC := Lib.hid (fun V hb => ExW.cells hx (W := V) hb)
  have HX := Lib.hid hx
  have HS := Lib.hid hsz
  obtain ⟨kd, hkd⟩ : ∃ k, exK e = k := ⟨_, rfl⟩
  rw [hkd] at k0
  have HU5 := Lib.hid hu5
  have HKd := Lib.hid hkd
  unfold valG at hg
  rw [hkd] at hg hkk
  clear H hP hx hsz hw ha hA1 hu5 hkd
  have f0 : (kd == 0) = false := beq_eq_false_iff_ne.2 (by omega)
  have f1 : (kd == 1) = false := beq_eq_false_iff_ne.2 (by omega)
  have f2 : (kd == 2) = true := beq_iff_eq.2 hkk
  have hlk := sc_look (exN e) HA1.out
  rw [if_neg (by omega), if_neg (by omega), if_pos hkk] at hg
  clear hkk
  cases hl : lookS (exN e) a with
  | none =>
    rw [hl] at hg hlk
    obtain ⟨s2, hb, he⟩ := Option.map_eq_some_iff.1 hg
    simp only [Prod.mk.injEq] at he
    obtain ⟨rfl, rfl⟩ := he
    have HB := Lib.hid hb
    clear hg hb hl
    unfold VV.v VV.cells strV at hlk
    dsimp only [Option.getD_none, Option.isSome_none] at hlk
    go_enter Tryz.func145, Tryz.ntmps145
    go_upto_region 1 with fail
    generalize W.alloc (.cells zVal 69) = V at *
    have hA2 := (Below.refl V.heap.size V).alloc (Nat.le_refl _) (.cells zVal 69)
    have HW2 := Lib.hid (HW1.out.later hA2)
    have HK2 := Lib.hid (HK1.out.trans (HW1.out.wk hA2))
    have HO2 := Lib.hid (HO1.out.later hA2)
    clear hA2
    have HWr2 := Lib.hid (HWr.out _ 1 s s2 HW2.out HB.out)
    unfold VV.v VV.cells strV at HWr2
    dsimp only at HWr2
    go_wp2_with fail
    go_at_call 170
    refine HWr2.out.mono ?_
    rintro e' wz ⟨rfl, hwz, hkz⟩
    have HOz := Lib.hid (box_wk HO2.out hkz (by omega) (by omega) (by omega) (by decide))
    have HWz := Lib.hid hwz
    have HKz := Lib.hid (HK2.out.trans hkz)
    clear hwz hkz
    have o0 := fun j => BoxAt.cell HOz.out j
    have oz := fun j => BoxAt.z HOz.out j
    have ol := BoxAt.lt HOz.out
    go_wp2
    refine end12w rfl HOz.out rfl (by rfl) (by rfl) rfl ⟨rfl, ?_, ?_⟩
    · exact WrAt.set12 HF.out HWz.out HOz.out (by omega) (by omega) (by omega) (by decide) _ _ _ _ _ _ _ _ _ _ _ _
    · exact WK.set12 HKz.out (by omega) (by omega) _ _ _ _ _ _ _ _ _ _ _ _
  | some v =>
    rw [hl] at hg hlk
    simp only [Option.some.injEq, Prod.mk.injEq] at hg
    obtain ⟨rfl, rfl⟩ := hg
    obtain ⟨v0, v1, v2, v3, v4, v5, v6, v7, v8, v9, v10, v11⟩ := v
    unfold VV.v VV.cells at hlk
    dsimp only [Option.getD_some, Option.isSome_some] at hlk
    clear hl
    go_enter Tryz.func145, Tryz.ntmps145
    go_upto_region 1 with fail
    generalize W.alloc (.cells zVal 69) = V at *
    have hA2 := (Below.refl V.heap.size V).alloc (Nat.le_refl _) (.cells #[.int .i64 v0, .string v1, .bool v2, .string v3, .int .i64 v4, .int .i64 v5, .int .i64 v6, .int .i64 v7, .bool v8, .bool v9, .int .i64 v10, .int .i64 v11] 69)
    have HW2 := Lib.hid (HW1.out.later hA2)
    have HK2 := Lib.hid (HK1.out.trans (HW1.out.wk hA2))
    have HO2 := Lib.hid (HO1.out.later hA2)
    have HN2 := Lib.hid (BoxAt.new' V V.heap.size #[.int .i64 v0, .string v1, .bool v2, .string v3, .int .i64 v4, .int .i64 v5, .int .i64 v6, .int .i64 v7, .bool v8, .bool v9, .int .i64 v10, .int .i64 v11] 69 rfl)
    clear hA2
    go_upto_region 8 with fail
    generalize V.alloc (.cells #[.int .i64 v0, .string v1, .bool v2, .string v3, .int .i64 v4, .int .i64 v5, .int .i64 v6, .int .i64 v7, .bool v8, .bool v9, .int .i64 v10, .int .i64 v11] 69) = V2 at *
    generalize V.heap.size = bx at *
    clear hlk k0 k1 k2 k3 k5
    have p0 := BoxAt.cell HN2.out 0
    have p1 := BoxAt.cell HN2.out 1
    have p2 := BoxAt.cell HN2.out 2
    have p3 := BoxAt.cell HN2.out 3
    have p4 := BoxAt.cell HN2.out 4
    have p5 := BoxAt.cell HN2.out 5
    have p6 := BoxAt.cell HN2.out 6
    have p7 := BoxAt.cell HN2.out 7
    have p8 := BoxAt.cell HN2.out 8
    have p9 := BoxAt.cell HN2.out 9
    have p10 := BoxAt.cell HN2.out 10
    have p11 := BoxAt.cell HN2.out 11
    simp only [List.getElem?_toArray, List.getElem?_cons_zero, List.getElem?_cons_succ] at p0 p1 p2 p3 p4 p5 p6 p7 p8 p9 p10 p11
    have pl := BoxAt.lt HN2.out
    have o0 := fun j => BoxAt.cell HO2.out j
    have oz := fun j => BoxAt.z HO2.out j
    have ol := BoxAt.lt HO2.out
    go_wp2
    refine end12w rfl HO2.out rfl (by rfl) (by rfl) rfl ⟨rfl, ?_, ?_⟩
    · exact WrAt.set12 HF.out HW2.out HO2.out (by omega) (by omega) (by omega) (by decide) _ _ _ _ _ _ _ _ _ _ _ _
    · exact WK.set12 HK2.out (by omega) (by omega) _ _ _ _ _ _ _ _ _ _ _ _
end Go.Proofs.YtpgiboblonlddaaGreatDoor

namespace Go.Proofs.YtpgiboblonlddaaGreatDoor
open Go.RowKit Go.ChangeMaps
set_option linter.unusedVariables false
set_option linter.unusedSimpArgs false
set_option maxHeartbeats 16000000 in
set_option maxRecDepth 100000 in
theorem val3_no {R : RL} (H : R.Ok) {P : PlG} (hP : PlaceTo R P) (e : EX) (eb eo : Nat) (a : Sc) (av : Value) (op : List ByteArray) (s s' : RSt) (r : Option VV) (W : World) (hx : ExW R e eb eo) (hsz : e.size ≤ 4000000) (hg : valG R P e a op s = some (r, s')) (hw : WrAt R W op s) (ha : ScAt R W a av) (hkk : exK e = 3) (hl : R.ent false (exN e) = none) :
    Calls Tryz.prog 145 #[.pointer (some ⟨R.wb, 0, none⟩), .pointer (some ⟨eb, eo, none⟩), av] W fun e' w' => e' = .returned (.tuple #[(r.getD (strV ⟨#[]⟩)).v, .bool r.isSome]) ∧ WrAt R w' op s' ∧ WK R W w' := by
  have HF := Lib.hid H.toFar
  have HH := Lib.hid H
  have HP := Lib.hid hP
  have hns := nameE_size e hsz
  have hl3 : R.wb < W.heap.size ∧ R.ob < W.heap.size ∧ R.km < W.heap.size := by
    obtain ⟨ev, h1, _⟩ := hw.box
    obtain ⟨m0, h3⟩ := hw.ms
    exact ⟨h1.lt, hw.om.lt, h3.lt⟩
  obtain ⟨l1, l2, l3⟩ := hl3
  have hw0 := hw.bf.size
  have HWr := Lib.hid (fun (V : World) (c : Int) (s s' : RSt) (h : WrAt R V op s) (hb : badG c (nameE e) s = some s') => wrong_any H.toFar c (exK e) (exN e) (exA e) eb eo V h hb (hx.cells h.bf).2.1 (hx.cells h.bf).2.2.2.1 (hx.cells h.bf).2.2.2.2.1 hns)
  have hA1 := (Below.refl W.heap.size W).alloc (Nat.le_refl _) (.cells zVal 69)
  have HW1 := Lib.hid (hw.later hA1)
  have HK1 := Lib.hid (hw.wk hA1)
  have HO1 := Lib.hid (BoxAt.new' W W.heap.size zVal 69 rfl)
  have HA1 := Lib.hid (ha.later hA1)
  have HVs := Lib.hid (show (W.alloc (.cells zVal 69)).heap.size = W.heap.size + 1 by simp)
  obtain ⟨ao, rfl⟩ := ha.nilmap
  obtain ⟨hel, k0, k1, k2, k3, u5, k5, hu5⟩ := hx.cells HW1.out.bf
  have HC := Lib.hid (fun V hb => ExW.cells hx (W := V) hb)
  have HX := Lib.hid hx
  have HS := Lib.hid hsz
  obtain ⟨kd, hkd⟩ : ∃ k, exK e = k := ⟨_, rfl⟩
  rw [hkd] at k0
  have HU5 := Lib.hid hu5
  have HKd := Lib.hid hkd
  unfold valG at hg
  rw [hkd] at hg hkk
  clear H hP hx hsz hw ha hA1 hu5 hkd
  rw [if_neg (by omega), if_neg (by omega), if_neg (by omega), if_pos hkk] at hg
  have HMs := Lib.hid (fun V hb => HH.out.msg (exN e) V hb)
  have f0 : (kd == 0) = false := beq_eq_false_iff_ne.2 (by omega)
  have f1 : (kd == 1) = false := beq_eq_false_iff_ne.2 (by omega)
  have f2 : (kd == 2) = false := beq_eq_false_iff_ne.2 (by omega)
  have f3 : (kd == 3) = true := beq_iff_eq.2 hkk
  clear hkk
  obtain ⟨ev, hbx, _⟩ := HW1.out.box
  have b0 : (W.alloc (.cells zVal 69)).cell? ⟨R.wb, 0, none⟩ = some (.pointer (some ⟨R.b, 0, none⟩)) := hbx.cell 0
  clear hbx
  rw [hl] at hg HMs
  obtain ⟨s2, hb, he⟩ := Option.map_eq_some_iff.1 hg
  simp only [Prod.mk.injEq] at he
  obtain ⟨rfl, rfl⟩ := he
  have HB := Lib.hid hb
  clear hg hb hl
  unfold Ent.v noEnt at HMs
  dsimp only [Option.getD_none, Option.isSome_none] at HMs
  go_enter Tryz.func145, Tryz.ntmps145
  go_upto_region 1 with fail
  generalize W.alloc (.cells zVal 69) = V at *
  have hbf := Lib.hid HW1.out.bf
  have hwl : R.wb < V.heap.size := by have := HVs.out; omega
  have hebl : eb < V.heap.size := by have := HVs.out; omega
  have hwv : R.w0.heap.size ≤ V.heap.size := by have := HVs.out; omega
  have hn1 : V.heap.size ≠ R.wb := by have := HVs.out; omega
  have hn3 : V.heap.size ≠ R.km := by have := HVs.out; omega
  have hn4 : W.heap.size ≠ V.heap.size := by have := HVs.out; omega
  go_upto_region 11 with fail
  refine wp_region_held_drew (S := (fun w' => Below V.heap.size V w')) (by kernel_rfl) ((Below.refl _ _).drew) (fun hHeld => ?_)
  refine wpAnyH_take (i := 0) (v := ?_) rfl (by kernel_rfl) (by kernel_rfl) (by kernel_rfl) (fun _ _ _ h => h) (Or.inl ⟨by kernel_rfl, ?_⟩) (by assumption) ?_
  rotate_left
  · intro w0 hSw; (try dsimp only at hSw); (go_simp <;> with_reducible rfl)
  try simp only [Act.put, List.setIfInBounds_toArray, List.set_cons_zero, List.set_cons_succ]
  refine wpAnyH_take (i := 1) (v := ?_) rfl (by kernel_rfl) (by kernel_rfl) (by kernel_rfl) (fun _ _ _ h => h) (Or.inl ⟨by kernel_rfl, ?_⟩) (by assumption) ?_
  rotate_left
  · intro w0 hSw; (try dsimp only at hSw); (go_simp <;> with_reducible rfl)
  try simp only [Act.put, List.setIfInBounds_toArray, List.set_cons_zero, List.set_cons_succ]
  refine wpAnyH_take (i := 2) (v := ?_) rfl (by kernel_rfl) (by kernel_rfl) (by kernel_rfl) (fun _ _ _ h => h) (Or.inl ⟨by kernel_rfl, ?_⟩) (by assumption) ?_
  rotate_left
  · intro w0 hSw; (try dsimp only at hSw); (go_simp <;> with_reducible rfl)
  try simp only [Act.put, List.setIfInBounds_toArray, List.set_cons_zero, List.set_cons_succ]
  refine wpAnyH_take (i := 3) (v := ?_) rfl (by kernel_rfl) (by kernel_rfl) (by kernel_rfl) (fun _ _ _ h => h) (Or.inl ⟨by kernel_rfl, ?_⟩) (by assumption) ?_
  rotate_left
  · intro w0 hSw; have c0 := (hSw.cell (p := ⟨R.wb, 0, none⟩) hwl).trans b0; (go_simp <;> with_reducible rfl)
  try simp only [Act.put, List.setIfInBounds_toArray, List.set_cons_zero, List.set_cons_succ]
  refine wpAnyH_take (i := 4) (v := ?_) rfl (by kernel_rfl) (by kernel_rfl) (by kernel_rfl) (fun _ _ _ h => h) (Or.inl ⟨by kernel_rfl, ?_⟩) (by assumption) ?_
  rotate_left
  · intro w0 hSw; (try dsimp only at hSw); (go_simp <;> with_reducible rfl)
  try simp only [Act.put, List.setIfInBounds_toArray, List.set_cons_zero, List.set_cons_succ]
  refine wpAnyH_take (i := 5) (v := ?_) rfl (by kernel_rfl) (by kernel_rfl) (by kernel_rfl) (fun _ _ _ h => h) (Or.inl ⟨by kernel_rfl, ?_⟩) (by assumption) ?_
  rotate_left
  · intro w0 hSw; (try dsimp only at hSw); (go_simp <;> with_reducible rfl)
  try simp only [Act.put, List.setIfInBounds_toArray, List.set_cons_zero, List.set_cons_succ]
  refine wpAnyH_take (i := 6) (v := ?_) rfl (by kernel_rfl) (by kernel_rfl) (by kernel_rfl) (fun _ _ _ h => h) (Or.inl ⟨by kernel_rfl, ?_⟩) (by assumption) ?_
  rotate_left
  · intro w0 hSw; (try dsimp only at hSw); (go_simp <;> with_reducible rfl)
  try simp only [Act.put, List.setIfInBounds_toArray, List.set_cons_zero, List.set_cons_succ]
  refine wpAnyH_take (i := 7) (v := ?_) rfl (by kernel_rfl) (by kernel_rfl) (by kernel_rfl) (fun _ _ _ h => h) (Or.inl ⟨by kernel_rfl, ?_⟩) (by assumption) ?_
  rotate_left
  · intro w0 hSw; have c2 := (hSw.cell (p := ⟨eb, eo + 2, none⟩) hebl).trans k2; (go_simp <;> with_reducible rfl)
  try simp only [Act.put, List.setIfInBounds_toArray, List.set_cons_zero, List.set_cons_succ]
  clear hHeld k0 k1 k2 k3 k5 b0
  refine wpAnyH_ready (rs := [8, 12]) (by kernel_rfl) (by simp) ?_
  refine AllReadyH.cons rfl (fun K hK => ?_) (AllReadyH.cons rfl (fun K hK => ?_) AllReadyH.nil)
  · go_simp
    go_at_call 22
    refine (HMs.out _ (hbf.out.drew)).mono ?_
    rintro e' w2 ⟨rfl, hb2⟩
    have hbV : Below V.heap.size V w2 := (Below.refl _ _).drew.trans hb2
    have HW2 := Lib.hid (HW1.out.later hbV)
    have HK2 := Lib.hid (HK1.out.trans (HW1.out.wk hbV))
    have HO2 := Lib.hid (HO1.out.later hbV)
    have HA2 := Lib.hid (HA1.out.later hbV)
    have hs2 := hbV.size
    clear hb2
    go_wp2_with fail
    refine hK.out _ _ hbV (fun _ => ?_)
    clear hK K
    try simp only [Act.put, List.setIfInBounds_toArray, List.set_cons_zero, List.set_cons_succ]
    refine wpAnyH_take (i := 9) (v := ?_) rfl (by kernel_rfl) (by kernel_rfl) (by kernel_rfl) (fun _ _ _ h => h) (Or.inl ⟨by kernel_rfl, ?_⟩) (by assumption) ?_
    rotate_left
    · intro w0 hSw; (try dsimp only at hSw); (go_simp <;> with_reducible rfl)
    try simp only [Act.put, List.setIfInBounds_toArray, List.set_cons_zero, List.set_cons_succ]
    refine wpAnyH_take (i := 10) (v := ?_) rfl (by kernel_rfl) (by kernel_rfl) (by kernel_rfl) (fun _ _ _ h => h) (Or.inl ⟨by kernel_rfl, ?_⟩) (by assumption) ?_
    rotate_left
    · intro w0 hSw; (try dsimp only at hSw); (go_simp <;> with_reducible rfl)
    try simp only [Act.put, List.setIfInBounds_toArray, List.set_cons_zero, List.set_cons_succ]
    refine wpAnyH_take (i := 11) (v := ?_) rfl (by kernel_rfl) (by kernel_rfl) (by kernel_rfl) (fun _ _ _ h => h) (Or.inl ⟨by kernel_rfl, ?_⟩) (by assumption) ?_
    rotate_left
    · intro w0 hSw; (try dsimp only at hSw); (go_simp <;> with_reducible rfl)
    try simp only [Act.put, List.setIfInBounds_toArray, List.set_cons_zero, List.set_cons_succ]
    refine wpAnyH_ready (rs := [12]) (by kernel_rfl) (by simp) ?_
    refine AllReadyH.cons rfl (fun K hK => ?_) AllReadyH.nil
    go_simp
    refine hK.out _ _ (hbV.alloc hs2 _) (fun _ => ?_)
    clear hK K
    try simp only [Act.put, List.setIfInBounds_toArray, List.set_cons_zero, List.set_cons_succ]
    refine wpAnyH_ready (rs := [13]) (by kernel_rfl) (by simp) ?_
    refine AllReadyH.cons rfl (fun K hK => ?_) AllReadyH.nil
    go_simp
    refine hK.out _ _ (hbV.alloc hs2 _) (fun _ => ?_)
    clear hK K
    try simp only [Act.put, List.setIfInBounds_toArray, List.set_cons_zero, List.set_cons_succ]
    refine wpAnyH_take (i := 14) (v := ?_) rfl (by kernel_rfl) (by kernel_rfl) (by kernel_rfl) (fun _ _ _ h => h) (Or.inl ⟨by kernel_rfl, ?_⟩) (by assumption) ?_
    rotate_left
    · intro w0 hSw; (try dsimp only at hSw); (go_simp <;> with_reducible rfl)
    try simp only [Act.put, List.setIfInBounds_toArray, List.set_cons_zero, List.set_cons_succ]
    refine wpAnyH_done (by kernel_rfl) ?_ _
    have hA3 := (Below.refl w2.heap.size w2).alloc (Nat.le_refl _) (.cells #[.int .i64 0, .int .i64 0, .string ⟨#[]⟩, .string ⟨#[]⟩, .slice none 0 0, .slice none 0 0, .int .i64 0, .int .i64 0] 89)
    have HW3 := Lib.hid (HW2.out.later hA3)
    have HK3 := Lib.hid (HK2.out.trans (HW2.out.wk hA3))
    have HO3 := Lib.hid (HO2.out.later hA3)
    have HA3 := Lib.hid (HA2.out.later hA3)
    have HX3 := Lib.hid (BoxAt.new' w2 w2.heap.size #[.int .i64 0, .int .i64 0, .string ⟨#[]⟩, .string ⟨#[]⟩, .slice none 0 0, .slice none 0 0, .int .i64 0, .int .i64 0] 89 rfl)
    clear hA3 hbV HW2 HK2 HO2 HA2 hs2
    generalize w2.alloc (.cells #[.int .i64 0, .int .i64 0, .string ⟨#[]⟩, .string ⟨#[]⟩, .slice none 0 0, .slice none 0 0, .int .i64 0, .int .i64 0] 89) = w3 at *
    generalize w2.heap.size = bx at *
    have HWr2 := Lib.hid (HWr.out _ 2 s s2 HW3.out HB.out)
    unfold VV.v VV.cells strV at HWr2
    dsimp only at HWr2
    go_wp2_with fail
    go_at_call 170
    refine HWr2.out.mono ?_
    rintro e' wz ⟨rfl, hwz, hkz⟩
    have HOz := Lib.hid (box_wk HO3.out hkz (by omega) (by omega) (by omega) (by decide))
    have HWz := Lib.hid hwz
    have HKz := Lib.hid (HK3.out.trans hkz)
    clear hwz hkz
    have o0 := fun j => BoxAt.cell HOz.out j
    have oz := fun j => BoxAt.z HOz.out j
    have ol := BoxAt.lt HOz.out
    go_wp2
    refine end12w rfl HOz.out rfl (by rfl) (by rfl) rfl ⟨rfl, ?_, ?_⟩
    · exact WrAt.set12 HF.out HWz.out HOz.out (by omega) (by omega) (by omega) (by decide) _ _ _ _ _ _ _ _ _ _ _ _
    · exact WK.set12 HKz.out (by omega) (by omega) _ _ _ _ _ _ _ _ _ _ _ _
  · go_simp
    refine hK.out _ _ (((Below.refl V.heap.size V).alloc (Nat.le_refl _) (.cells #[.int .i64 0, .int .i64 0, .string ⟨#[]⟩, .string ⟨#[]⟩, .slice none 0 0, .slice none 0 0, .int .i64 0, .int .i64 0] 89)).drew) (fun _ => ?_)
    clear hK K
    try simp only [Act.put, List.setIfInBounds_toArray, List.set_cons_zero, List.set_cons_succ]
    refine wpAnyH_ready (rs := [8]) (by kernel_rfl) (by simp) ?_
    refine AllReadyH.cons rfl (fun K hK => ?_) AllReadyH.nil
    go_simp
    go_at_call 22
    refine (HMs.out _ ((hbf.out.alloc hwv _).drew)).mono ?_
    rintro e' w2 ⟨rfl, hb2⟩
    have hbV : Below V.heap.size V w2 := ((Below.refl V.heap.size V).alloc (Nat.le_refl _) (.cells #[.int .i64 0, .int .i64 0, .string ⟨#[]⟩, .string ⟨#[]⟩, .slice none 0 0, .slice none 0 0, .int .i64 0, .int .i64 0] 89)).drew.trans (hb2.mono (by simp))
    have HW2 := Lib.hid (HW1.out.later hbV)
    have HK2 := Lib.hid (HK1.out.trans (HW1.out.wk hbV))
    have HO2 := Lib.hid (HO1.out.later hbV)
    have HA2 := Lib.hid (HA1.out.later hbV)
    have hs2 := hbV.size
    have HX2 := Lib.hid ((BoxAt.new' V V.heap.size #[.int .i64 0, .int .i64 0, .string ⟨#[]⟩, .string ⟨#[]⟩, .slice none 0 0, .slice none 0 0, .int .i64 0, .int .i64 0] 89 rfl).later ((Below.refl _ _).drew.trans hb2))
    clear hb2
    go_wp2_with fail
    refine hK.out _ _ hbV (fun _ => ?_)
    clear hK K
    try simp only [Act.put, List.setIfInBounds_toArray, List.set_cons_zero, List.set_cons_succ]
    refine wpAnyH_take (i := 9) (v := ?_) rfl (by kernel_rfl) (by kernel_rfl) (by kernel_rfl) (fun _ _ _ h => h) (Or.inl ⟨by kernel_rfl, ?_⟩) (by assumption) ?_
    rotate_left
    · intro w0 hSw; (try dsimp only at hSw); (go_simp <;> with_reducible rfl)
    try simp only [Act.put, List.setIfInBounds_toArray, List.set_cons_zero, List.set_cons_succ]
    refine wpAnyH_take (i := 10) (v := ?_) rfl (by kernel_rfl) (by kernel_rfl) (by kernel_rfl) (fun _ _ _ h => h) (Or.inl ⟨by kernel_rfl, ?_⟩) (by assumption) ?_
    rotate_left
    · intro w0 hSw; (try dsimp only at hSw); (go_simp <;> with_reducible rfl)
    try simp only [Act.put, List.setIfInBounds_toArray, List.set_cons_zero, List.set_cons_succ]
    refine wpAnyH_take (i := 11) (v := ?_) rfl (by kernel_rfl) (by kernel_rfl) (by kernel_rfl) (fun _ _ _ h => h) (Or.inl ⟨by kernel_rfl, ?_⟩) (by assumption) ?_
    rotate_left
    · intro w0 hSw; (try dsimp only at hSw); (go_simp <;> with_reducible rfl)
    try simp only [Act.put, List.setIfInBounds_toArray, List.set_cons_zero, List.set_cons_succ]
    have o0 := fun j => BoxAt.cell HX2.out j
    have oz := fun j => BoxAt.z HX2.out j
    have ol := BoxAt.lt HX2.out
    refine wpAnyH_ready (rs := [13]) (by kernel_rfl) (by simp) ?_
    refine AllReadyH.cons rfl (fun K hK => ?_) AllReadyH.nil
    go_simp
    refine hK.out _ _ ((((((((hbV.setCell (p := ⟨V.heap.size, 0, none⟩) (Nat.le_refl _) _).setCell (p := ⟨V.heap.size, 1, none⟩) (Nat.le_refl _) _).setCell (p := ⟨V.heap.size, 2, none⟩) (Nat.le_refl _) _).setCell (p := ⟨V.heap.size, 3, none⟩) (Nat.le_refl _) _).setCell (p := ⟨V.heap.size, 4, none⟩) (Nat.le_refl _) _).setCell (p := ⟨V.heap.size, 5, none⟩) (Nat.le_refl _) _).setCell (p := ⟨V.heap.size, 6, none⟩) (Nat.le_refl _) _).setCell (p := ⟨V.heap.size, 7, none⟩) (Nat.le_refl _) _) (fun _ => ?_)
    clear hK K
    try simp only [Act.put, List.setIfInBounds_toArray, List.set_cons_zero, List.set_cons_succ]
    refine wpAnyH_take (i := 14) (v := ?_) rfl (by kernel_rfl) (by kernel_rfl) (by kernel_rfl) (fun _ _ _ h => h) (Or.inl ⟨by kernel_rfl, ?_⟩) (by assumption) ?_
    rotate_left
    · intro w0 hSw; (try dsimp only at hSw); (go_simp <;> with_reducible rfl)
    try simp only [Act.put, List.setIfInBounds_toArray, List.set_cons_zero, List.set_cons_succ]
    refine wpAnyH_done (by kernel_rfl) ?_ _
    clear o0 oz ol
    have HB0 := Lib.hid hbV
    have X0 := HX2.out
    have W0 := HW2.out
    clear hbV HX2 HW2 HO2 HA2 HK2 hs2
    have W1 : WrAt R (w2.setCell ⟨V.heap.size, 0, none⟩ (.int .i64 0)) op s := WrAt.set1 HF.out W0 X0 hwv hn1 hn3 (by decide) 0 _
    have X1 : BoxAt (w2.setCell ⟨V.heap.size, 0, none⟩ (.int .i64 0)) V.heap.size #[.int .i64 0, .int .i64 0, .string ⟨#[]⟩, .string ⟨#[]⟩, .slice none 0 0, .slice none 0 0, .int .i64 0, .int .i64 0] 89 := X0.set 0 _
    have HB1 : Below V.heap.size V (w2.setCell ⟨V.heap.size, 0, none⟩ (.int .i64 0)) := (HB0.out.setCell (p := ⟨V.heap.size, 0, none⟩) (Nat.le_refl _) _)
    clear W0 X0 HB0
    have HB1 := Lib.hid HB1
    have W2 : WrAt R ((w2.setCell ⟨V.heap.size, 0, none⟩ (.int .i64 0)).setCell ⟨V.heap.size, 1, none⟩ (.int .i64 0)) op s := WrAt.set1 HF.out W1 X1 hwv hn1 hn3 (by decide) 1 _
    have X2 : BoxAt ((w2.setCell ⟨V.heap.size, 0, none⟩ (.int .i64 0)).setCell ⟨V.heap.size, 1, none⟩ (.int .i64 0)) V.heap.size #[.int .i64 0, .int .i64 0, .string ⟨#[]⟩, .string ⟨#[]⟩, .slice none 0 0, .slice none 0 0, .int .i64 0, .int .i64 0] 89 := X1.set 1 _
    have HB2 : Below V.heap.size V ((w2.setCell ⟨V.heap.size, 0, none⟩ (.int .i64 0)).setCell ⟨V.heap.size, 1, none⟩ (.int .i64 0)) := (HB1.out.setCell (p := ⟨V.heap.size, 1, none⟩) (Nat.le_refl _) _)
    clear W1 X1 HB1
    have HB2 := Lib.hid HB2
    have W3 : WrAt R (((w2.setCell ⟨V.heap.size, 0, none⟩ (.int .i64 0)).setCell ⟨V.heap.size, 1, none⟩ (.int .i64 0)).setCell ⟨V.heap.size, 2, none⟩ (.string ⟨#[]⟩)) op s := WrAt.set1 HF.out W2 X2 hwv hn1 hn3 (by decide) 2 _
    have X3 : BoxAt (((w2.setCell ⟨V.heap.size, 0, none⟩ (.int .i64 0)).setCell ⟨V.heap.size, 1, none⟩ (.int .i64 0)).setCell ⟨V.heap.size, 2, none⟩ (.string ⟨#[]⟩)) V.heap.size #[.int .i64 0, .int .i64 0, .string ⟨#[]⟩, .string ⟨#[]⟩, .slice none 0 0, .slice none 0 0, .int .i64 0, .int .i64 0] 89 := X2.set 2 _
    have HB3 : Below V.heap.size V (((w2.setCell ⟨V.heap.size, 0, none⟩ (.int .i64 0)).setCell ⟨V.heap.size, 1, none⟩ (.int .i64 0)).setCell ⟨V.heap.size, 2, none⟩ (.string ⟨#[]⟩)) := (HB2.out.setCell (p := ⟨V.heap.size, 2, none⟩) (Nat.le_refl _) _)
    clear W2 X2 HB2
    have HB3 := Lib.hid HB3
    have W4 : WrAt R ((((w2.setCell ⟨V.heap.size, 0, none⟩ (.int .i64 0)).setCell ⟨V.heap.size, 1, none⟩ (.int .i64 0)).setCell ⟨V.heap.size, 2, none⟩ (.string ⟨#[]⟩)).setCell ⟨V.heap.size, 3, none⟩ (.string ⟨#[]⟩)) op s := WrAt.set1 HF.out W3 X3 hwv hn1 hn3 (by decide) 3 _
    have X4 : BoxAt ((((w2.setCell ⟨V.heap.size, 0, none⟩ (.int .i64 0)).setCell ⟨V.heap.size, 1, none⟩ (.int .i64 0)).setCell ⟨V.heap.size, 2, none⟩ (.string ⟨#[]⟩)).setCell ⟨V.heap.size, 3, none⟩ (.string ⟨#[]⟩)) V.heap.size #[.int .i64 0, .int .i64 0, .string ⟨#[]⟩, .string ⟨#[]⟩, .slice none 0 0, .slice none 0 0, .int .i64 0, .int .i64 0] 89 := X3.set 3 _
    have HB4 : Below V.heap.size V ((((w2.setCell ⟨V.heap.size, 0, none⟩ (.int .i64 0)).setCell ⟨V.heap.size, 1, none⟩ (.int .i64 0)).setCell ⟨V.heap.size, 2, none⟩ (.string ⟨#[]⟩)).setCell ⟨V.heap.size, 3, none⟩ (.string ⟨#[]⟩)) := (HB3.out.setCell (p := ⟨V.heap.size, 3, none⟩) (Nat.le_refl _) _)
    clear W3 X3 HB3
    have HB4 := Lib.hid HB4
    have W5 : WrAt R (((((w2.setCell ⟨V.heap.size, 0, none⟩ (.int .i64 0)).setCell ⟨V.heap.size, 1, none⟩ (.int .i64 0)).setCell ⟨V.heap.size, 2, none⟩ (.string ⟨#[]⟩)).setCell ⟨V.heap.size, 3, none⟩ (.string ⟨#[]⟩)).setCell ⟨V.heap.size, 4, none⟩ (.slice none 0 0)) op s := WrAt.set1 HF.out W4 X4 hwv hn1 hn3 (by decide) 4 _
    have X5 : BoxAt (((((w2.setCell ⟨V.heap.size, 0, none⟩ (.int .i64 0)).setCell ⟨V.heap.size, 1, none⟩ (.int .i64 0)).setCell ⟨V.heap.size, 2, none⟩ (.string ⟨#[]⟩)).setCell ⟨V.heap.size, 3, none⟩ (.string ⟨#[]⟩)).setCell ⟨V.heap.size, 4, none⟩ (.slice none 0 0)) V.heap.size #[.int .i64 0, .int .i64 0, .string ⟨#[]⟩, .string ⟨#[]⟩, .slice none 0 0, .slice none 0 0, .int .i64 0, .int .i64 0] 89 := X4.set 4 _
    have HB5 : Below V.heap.size V (((((w2.setCell ⟨V.heap.size, 0, none⟩ (.int .i64 0)).setCell ⟨V.heap.size, 1, none⟩ (.int .i64 0)).setCell ⟨V.heap.size, 2, none⟩ (.string ⟨#[]⟩)).setCell ⟨V.heap.size, 3, none⟩ (.string ⟨#[]⟩)).setCell ⟨V.heap.size, 4, none⟩ (.slice none 0 0)) := (HB4.out.setCell (p := ⟨V.heap.size, 4, none⟩) (Nat.le_refl _) _)
    clear W4 X4 HB4
    have HB5 := Lib.hid HB5
    have W6 : WrAt R ((((((w2.setCell ⟨V.heap.size, 0, none⟩ (.int .i64 0)).setCell ⟨V.heap.size, 1, none⟩ (.int .i64 0)).setCell ⟨V.heap.size, 2, none⟩ (.string ⟨#[]⟩)).setCell ⟨V.heap.size, 3, none⟩ (.string ⟨#[]⟩)).setCell ⟨V.heap.size, 4, none⟩ (.slice none 0 0)).setCell ⟨V.heap.size, 5, none⟩ (.slice none 0 0)) op s := WrAt.set1 HF.out W5 X5 hwv hn1 hn3 (by decide) 5 _
    have X6 : BoxAt ((((((w2.setCell ⟨V.heap.size, 0, none⟩ (.int .i64 0)).setCell ⟨V.heap.size, 1, none⟩ (.int .i64 0)).setCell ⟨V.heap.size, 2, none⟩ (.string ⟨#[]⟩)).setCell ⟨V.heap.size, 3, none⟩ (.string ⟨#[]⟩)).setCell ⟨V.heap.size, 4, none⟩ (.slice none 0 0)).setCell ⟨V.heap.size, 5, none⟩ (.slice none 0 0)) V.heap.size #[.int .i64 0, .int .i64 0, .string ⟨#[]⟩, .string ⟨#[]⟩, .slice none 0 0, .slice none 0 0, .int .i64 0, .int .i64 0] 89 := X5.set 5 _
    have HB6 : Below V.heap.size V ((((((w2.setCell ⟨V.heap.size, 0, none⟩ (.int .i64 0)).setCell ⟨V.heap.size, 1, none⟩ (.int .i64 0)).setCell ⟨V.heap.size, 2, none⟩ (.string ⟨#[]⟩)).setCell ⟨V.heap.size, 3, none⟩ (.string ⟨#[]⟩)).setCell ⟨V.heap.size, 4, none⟩ (.slice none 0 0)).setCell ⟨V.heap.size, 5, none⟩ (.slice none 0 0)) := (HB5.out.setCell (p := ⟨V.heap.size, 5, none⟩) (Nat.le_refl _) _)
    clear W5 X5 HB5
    have HB6 := Lib.hid HB6
    have W7 : WrAt R (((((((w2.setCell ⟨V.heap.size, 0, none⟩ (.int .i64 0)).setCell ⟨V.heap.size, 1, none⟩ (.int .i64 0)).setCell ⟨V.heap.size, 2, none⟩ (.string ⟨#[]⟩)).setCell ⟨V.heap.size, 3, none⟩ (.string ⟨#[]⟩)).setCell ⟨V.heap.size, 4, none⟩ (.slice none 0 0)).setCell ⟨V.heap.size, 5, none⟩ (.slice none 0 0)).setCell ⟨V.heap.size, 6, none⟩ (.int .i64 0)) op s := WrAt.set1 HF.out W6 X6 hwv hn1 hn3 (by decide) 6 _
    have X7 : BoxAt (((((((w2.setCell ⟨V.heap.size, 0, none⟩ (.int .i64 0)).setCell ⟨V.heap.size, 1, none⟩ (.int .i64 0)).setCell ⟨V.heap.size, 2, none⟩ (.string ⟨#[]⟩)).setCell ⟨V.heap.size, 3, none⟩ (.string ⟨#[]⟩)).setCell ⟨V.heap.size, 4, none⟩ (.slice none 0 0)).setCell ⟨V.heap.size, 5, none⟩ (.slice none 0 0)).setCell ⟨V.heap.size, 6, none⟩ (.int .i64 0)) V.heap.size #[.int .i64 0, .int .i64 0, .string ⟨#[]⟩, .string ⟨#[]⟩, .slice none 0 0, .slice none 0 0, .int .i64 0, .int .i64 0] 89 := X6.set 6 _
    have HB7 : Below V.heap.size V (((((((w2.setCell ⟨V.heap.size, 0, none⟩ (.int .i64 0)).setCell ⟨V.heap.size, 1, none⟩ (.int .i64 0)).setCell ⟨V.heap.size, 2, none⟩ (.string ⟨#[]⟩)).setCell ⟨V.heap.size, 3, none⟩ (.string ⟨#[]⟩)).setCell ⟨V.heap.size, 4, none⟩ (.slice none 0 0)).setCell ⟨V.heap.size, 5, none⟩ (.slice none 0 0)).setCell ⟨V.heap.size, 6, none⟩ (.int .i64 0)) := (HB6.out.setCell (p := ⟨V.heap.size, 6, none⟩) (Nat.le_refl _) _)
    clear W6 X6 HB6
    have HB7 := Lib.hid HB7
    have W8 : WrAt R ((((((((w2.setCell ⟨V.heap.size, 0, none⟩ (.int .i64 0)).setCell ⟨V.heap.size, 1, none⟩ (.int .i64 0)).setCell ⟨V.heap.size, 2, none⟩ (.string ⟨#[]⟩)).setCell ⟨V.heap.size, 3, none⟩ (.string ⟨#[]⟩)).setCell ⟨V.heap.size, 4, none⟩ (.slice none 0 0)).setCell ⟨V.heap.size, 5, none⟩ (.slice none 0 0)).setCell ⟨V.heap.size, 6, none⟩ (.int .i64 0)).setCell ⟨V.heap.size, 7, none⟩ (.int .i64 0)) op s := WrAt.set1 HF.out W7 X7 hwv hn1 hn3 (by decide) 7 _
    have X8 : BoxAt ((((((((w2.setCell ⟨V.heap.size, 0, none⟩ (.int .i64 0)).setCell ⟨V.heap.size, 1, none⟩ (.int .i64 0)).setCell ⟨V.heap.size, 2, none⟩ (.string ⟨#[]⟩)).setCell ⟨V.heap.size, 3, none⟩ (.string ⟨#[]⟩)).setCell ⟨V.heap.size, 4, none⟩ (.slice none 0 0)).setCell ⟨V.heap.size, 5, none⟩ (.slice none 0 0)).setCell ⟨V.heap.size, 6, none⟩ (.int .i64 0)).setCell ⟨V.heap.size, 7, none⟩ (.int .i64 0)) V.heap.size #[.int .i64 0, .int .i64 0, .string ⟨#[]⟩, .string ⟨#[]⟩, .slice none 0 0, .slice none 0 0, .int .i64 0, .int .i64 0] 89 := X7.set 7 _
    have HB8 : Below V.heap.size V ((((((((w2.setCell ⟨V.heap.size, 0, none⟩ (.int .i64 0)).setCell ⟨V.heap.size, 1, none⟩ (.int .i64 0)).setCell ⟨V.heap.size, 2, none⟩ (.string ⟨#[]⟩)).setCell ⟨V.heap.size, 3, none⟩ (.string ⟨#[]⟩)).setCell ⟨V.heap.size, 4, none⟩ (.slice none 0 0)).setCell ⟨V.heap.size, 5, none⟩ (.slice none 0 0)).setCell ⟨V.heap.size, 6, none⟩ (.int .i64 0)).setCell ⟨V.heap.size, 7, none⟩ (.int .i64 0)) := (HB7.out.setCell (p := ⟨V.heap.size, 7, none⟩) (Nat.le_refl _) _)
    clear W7 X7 HB7
    have HB8 := Lib.hid HB8
    have HW3 := Lib.hid W8
    have HX3 := Lib.hid X8
    have HK3 := Lib.hid (HK1.out.trans (HW1.out.wk HB8.out))
    have HO3 := Lib.hid (HO1.out.later HB8.out)
    have HA3 := Lib.hid (HA1.out.later HB8.out)
    clear W8 X8 HB8
    generalize (((((((w2.setCell ⟨V.heap.size, 0, none⟩ (.int .i64 0)).setCell ⟨V.heap.size, 1, none⟩ (.int .i64 0)).setCell ⟨V.heap.size, 2, none⟩ (.string ⟨#[]⟩)).setCell ⟨V.heap.size, 3, none⟩ (.string ⟨#[]⟩)).setCell ⟨V.heap.size, 4, none⟩ (.slice none 0 0)).setCell ⟨V.heap.size, 5, none⟩ (.slice none 0 0)).setCell ⟨V.heap.size, 6, none⟩ (.int .i64 0)).setCell ⟨V.heap.size, 7, none⟩ (.int .i64 0) = w3 at *
    generalize V.heap.size = bx at *
    have HWr2 := Lib.hid (HWr.out _ 2 s s2 HW3.out HB.out)
    unfold VV.v VV.cells strV at HWr2
    dsimp only at HWr2
    go_wp2_with fail
    go_at_call 170
    refine HWr2.out.mono ?_
    rintro e' wz ⟨rfl, hwz, hkz⟩
    have HOz := Lib.hid (box_wk HO3.out hkz (by omega) (by omega) (by omega) (by decide))
    have HWz := Lib.hid hwz
    have HKz := Lib.hid (HK3.out.trans hkz)
    clear hwz hkz
    have o0 := fun j => BoxAt.cell HOz.out j
    have oz := fun j => BoxAt.z HOz.out j
    have ol := BoxAt.lt HOz.out
    go_wp2
    refine end12w rfl HOz.out rfl (by rfl) (by rfl) rfl ⟨rfl, ?_, ?_⟩
    · exact WrAt.set12 HF.out HWz.out HOz.out (by omega) (by omega) (by omega) (by decide) _ _ _ _ _ _ _ _ _ _ _ _
    · exact WK.set12 HKz.out (by omega) (by omega) _ _ _ _ _ _ _ _ _ _ _ _
end Go.Proofs.YtpgiboblonlddaaGreatDoor
