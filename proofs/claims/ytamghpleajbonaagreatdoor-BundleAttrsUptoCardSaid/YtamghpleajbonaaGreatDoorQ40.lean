/-
  Several texts put together (part 40): what the law and the program call, walked; their contracts.
-/
import Derived.Test.YtamghpleajbonaaGreatDoorQ39
import Derived.Test.YtamghpleajbonaaGreatDoorQ35
import Derived.Test.YtamghpleajbonaaGreatDoorQ4
import Derived.Lib.OthersKept
import Derived.Lib.OwnKind
import Derived.Lib.Builder
import Derived.WalkSmall
import Derived.OneCell
import Derived.Laws.EntriesVeiled
import Derived.Lib.ValidU
import Derived.Laws.RangeAny
import Derived.Laws.RangeString
import Derived.Lib.TrimU
import Derived.WalkMore
import Derived.Deep.LoopGhost
import Derived.Deep.QuietTactic
import Derived.BigQuiet
import Derived.Lib.TrimUEq
import Derived.Deep.DeepCutAuto
import Derived.Maps.Own
import Derived.Maps.OwnOps
import Derived.Maps.OwnSet
import Derived.Maps.Views
import Derived.WideMake
import Derived.StillTailTactics
import Derived.Deep.RegionHeld3
namespace Go.Proofs.YtamghpleajbonaaGreatDoor
open Go.RowKit
theorem EX.size_pos : ∀ e : EX, 1 ≤ e.size
  | .mk .. => by rw [EX.size]; omega
-- from Asm
theorem EsAt.get {W : World} : ∀ {l : List EL} {b o : Nat} (j : Nat) {t : ByteArray} {p : Option EX}, EsAt W l b o → l[j]? = some (.mk t p) →
    b < W.heap.size ∧ W.cell? ⟨b, o + j * 2, none⟩ = some (.string t) ∧ ∃ u, W.cell? ⟨b, o + j * 2 + 1, none⟩ = some u ∧ OAt W p u
  | [], b, o, j, t, p, h, hj => by simp at hj
  | .mk t' p' :: r, b, o, 0, t, p, h, hj => by
    rw [EsAt] at h
    simp at hj
    obtain ⟨rfl, rfl⟩ := hj
    obtain ⟨h0, h1, h2, _⟩ := h
    exact ⟨h0, by simpa using h1, by simpa using h2⟩
  | .mk t' p' :: r, b, o, j + 1, t, p, h, hj => by
    rw [EsAt] at h
    have := EsAt.get j h.2.2.2 (by simpa using hj)
    rw [show o + (j + 1) * 2 = o + 2 + j * 2 by omega]
    exact this
theorem AsAt.get {W : World} : ∀ {l : List AR} {b o : Nat} (j : Nat) {t : ByteArray} {e : EX}, AsAt W l b o → l[j]? = some (.mk t e) →
    b < W.heap.size ∧ W.cell? ⟨b, o + j * 8, none⟩ = some (.string t) ∧ ∃ c, CellsAt W b (o + j * 8 + 1) c ∧ ExAt W e c
  | [], b, o, j, t, p, h, hj => by simp at hj
  | .mk t' p' :: r, b, o, 0, t, p, h, hj => by
    rw [AsAt] at h
    simp at hj
    obtain ⟨rfl, rfl⟩ := hj
    obtain ⟨h0, h1, h2, _⟩ := h
    exact ⟨h0, by simpa using h1, by simpa using h2⟩
  | .mk t' p' :: r, b, o, j + 1, t, p, h, hj => by
    rw [AsAt] at h
    have := AsAt.get j h.2.2.2 (by simpa using hj)
    rw [show o + (j + 1) * 8 = o + 8 + j * 8 by omega]
    exact this
theorem VsAt.get {W : World} : ∀ {l : List VA} {b o : Nat} (j : Nat) {t : ByteArray} {d : Bool} {v : List EL}, VsAt W l b o → l[j]? = some (.mk t d v) →
    b < W.heap.size ∧ W.cell? ⟨b, o + j * 3, none⟩ = some (.string t) ∧ W.cell? ⟨b, o + j * 3 + 1, none⟩ = some (.bool d) ∧ ∃ u, W.cell? ⟨b, o + j * 3 + 2, none⟩ = some u ∧ PatAt W v u
  | [], b, o, j, t, d, p, h, hj => by simp at hj
  | .mk t' d' p' :: r, b, o, 0, t, d, p, h, hj => by
    rw [VsAt] at h
    simp at hj
    obtain ⟨rfl, rfl, rfl⟩ := hj
    obtain ⟨h0, h1, hd, h2, _⟩ := h
    exact ⟨h0, by simpa using h1, by simpa using hd, by simpa [PatAt] using h2⟩
  | .mk t' d' p' :: r, b, o, j + 1, t, d, p, h, hj => by
    rw [VsAt] at h
    have := VsAt.get j h.2.2.2.2 (by simpa using hj)
    rw [show o + (j + 1) * 3 = o + 3 + j * 3 by omega]
    exact this
-- from Apa
theorem pat_get {W0 : World} {l : List EL} {v : Value} (h : PatAt W0 l v) {i : Nat} (hi : i < l.length) : ∃ b o c, v = .slice (some ⟨b, o, none⟩) l.length c ∧ b < W0.heap.size ∧
    ∀ j t p, l[j]? = some (.mk t p) → W0.cell? ⟨b, o + j * 2, none⟩ = some (.string t) ∧ ∃ u, W0.cell? ⟨b, o + j * 2 + 1, none⟩ = some u ∧ OAt W0 p u := by
  obtain ⟨A, c, rfl, _, _, h2⟩ := h
  obtain ⟨b, o, rfl, h3⟩ := h2 (by omega)
  obtain ⟨t, p⟩ : EL := l[0]'(by omega)
  have h0 : l[0]? = some l[0] := List.getElem?_eq_getElem (by omega)
  refine ⟨b, o, c, rfl, ?_, fun j t p hj => ?_⟩
  · cases e : l[0]'(by omega) with
    | mk t p => rw [e] at h0; exact (h3.get 0 h0).1
  · exact ⟨(h3.get j hj).2.1, (h3.get j hj).2.2⟩
theorem sizeEs_length : ∀ l : List EL, l.length ≤ sizeEs l
  | [] => Nat.zero_le _
  | .mk t p :: r => by have := sizeEs_length r; rw [sizeEs, List.length_cons]; omega
theorem sizeEs_append : ∀ a b : List EL, sizeEs (a ++ b) = sizeEs a + sizeEs b
  | [], b => by rw [List.nil_append, sizeEs]; omega
  | .mk t p :: r, b => by rw [List.cons_append, sizeEs, sizeEs, sizeEs_append r b]; omega
theorem sizeEs_take (l : List EL) (i : Nat) : sizeEs (l.take i) ≤ sizeEs l := by
  have := sizeEs_append (l.take i) (l.drop i)
  rw [List.take_append_drop] at this
  omega
theorem args_get {W0 : World} {l : List AR} {v : Value} (h : LieAt (AsAt W0 l) v l.length) {i : Nat} (hi : i < l.length) : ∃ b o c, v = .slice (some ⟨b, o, none⟩) l.length c ∧ b < W0.heap.size ∧
    ∀ j t e, l[j]? = some (.mk t e) → W0.cell? ⟨b, o + j * 8, none⟩ = some (.string t) ∧ ∃ c7, CellsAt W0 b (o + j * 8 + 1) c7 ∧ ExAt W0 e c7 := by
  obtain ⟨A, c, rfl, _, _, h2⟩ := h
  obtain ⟨b, o, rfl, h3⟩ := h2 (by omega)
  have h0 : l[0]? = some l[0] := List.getElem?_eq_getElem (by omega)
  refine ⟨b, o, c, rfl, ?_, fun j t d hj => ⟨(h3.get j hj).2.1, (h3.get j hj).2.2⟩⟩
  cases e : l[0]'(by omega) with
  | mk t d => rw [e] at h0; exact (h3.get 0 h0).1
theorem sizeAs_length : ∀ l : List AR, l.length ≤ sizeAs l
  | [] => Nat.zero_le _
  | .mk n e :: r => by have := sizeAs_length r; have := e.size_pos; rw [sizeAs, List.length_cons]; omega
theorem sizeAs_append : ∀ a b : List AR, sizeAs (a ++ b) = sizeAs a + sizeAs b
  | [], b => by rw [List.nil_append, sizeAs]; omega
  | .mk n e :: r, b => by rw [List.cons_append, sizeAs, sizeAs, sizeAs_append r b]; omega
theorem sizeAs_take (l : List AR) (i : Nat) : sizeAs (l.take i) ≤ sizeAs l := by
  have := sizeAs_append (l.take i) (l.drop i)
  rw [List.take_append_drop] at this
  omega
-- from Asl
theorem vars_get {W0 : World} {l : List VA} {v : Value} (h : LieAt (VsAt W0 l) v l.length) {i : Nat} (hi : i < l.length) : ∃ b o c, v = .slice (some ⟨b, o, none⟩) l.length c ∧ b < W0.heap.size ∧
    ∀ j t d p, l[j]? = some (.mk t d p) → W0.cell? ⟨b, o + j * 3, none⟩ = some (.string t) ∧ W0.cell? ⟨b, o + j * 3 + 1, none⟩ = some (.bool d) ∧ ∃ u, W0.cell? ⟨b, o + j * 3 + 2, none⟩ = some u ∧ PatAt W0 p u := by
  obtain ⟨A, c, rfl, _, _, h2⟩ := h
  obtain ⟨b, o, rfl, h3⟩ := h2 (by omega)
  have h0 : l[0]? = some l[0] := List.getElem?_eq_getElem (by omega)
  refine ⟨b, o, c, rfl, ?_, fun j t d p hj => ⟨(h3.get j hj).2.1, (h3.get j hj).2.2.1, (h3.get j hj).2.2.2⟩⟩
  cases e : l[0]'(by omega) with
  | mk t d p => rw [e] at h0; exact (h3.get 0 h0).1
theorem sizeVs_length : ∀ l : List VA, l.length ≤ sizeVs l
  | [] => Nat.zero_le _
  | .mk k d v :: r => by have := sizeVs_length r; rw [sizeVs, List.length_cons]; omega
theorem sizeVs_append : ∀ a b : List VA, sizeVs (a ++ b) = sizeVs a + sizeVs b
  | [], b => by rw [List.nil_append, sizeVs]; omega
  | .mk k d v :: r, b => by rw [List.cons_append, sizeVs, sizeVs, sizeVs_append r b]; omega
theorem sizeVs_take (l : List VA) (i : Nat) : sizeVs (l.take i) ≤ sizeVs l := by
  have := sizeVs_append (l.take i) (l.drop i)
  rw [List.take_append_drop] at this
  omega
-- from Aqc
theorem ar_size {l : List AR} {n : ByteArray} {e : EX} (h : AR.mk n e ∈ l) : e.size ≤ sizeAs l := by
  induction l with
  | nil => cases h
  | cons x r ih =>
    cases x with
    | mk n' e' =>
      rw [sizeAs]
      rcases List.mem_cons.1 h with h | h
      · cases h; omega
      · have := ih h; omega
theorem va_size {l : List VA} {k : ByteArray} {d : Bool} {v : List EL} (h : VA.mk k d v ∈ l) : sizeEs v ≤ sizeVs l := by
  induction l with
  | nil => cases h
  | cons x r ih =>
    cases x with
    | mk k' d' v' =>
      rw [sizeVs]
      rcases List.mem_cons.1 h with h | h
      · cases h; omega
      · have := ih h; omega
-- from Act0
def CntTo (W0 : World) (e : EX) : Prop := ∀ (w : World) (c : C7) (m : Int), ExAt W0 e c → Below W0.heap.size W0 w →
  Calls Tryz.prog 33 #[.agg c.arr, .int .i64 m] w fun r w' => (∃ n : Nat, r = .returned (.int .i64 n) ∧ n ≤ e.size) ∧ Below w.heap.size w w'
-- from Act
set_option maxHeartbeats 4000000 in
set_option maxRecDepth 1000000 in
theorem cntIn_any {W0 : World} (l : List EL) {v : Value} (hv : PatAt W0 l v) (hsz : sizeEs l ≤ 4000000) (hP : ∀ t e, EL.mk t (some e) ∈ l → CntTo W0 e) (m : Int) (w : World) (hW : Below W0.heap.size W0 w) :
    Calls Tryz.prog 20 #[v, .int .i64 m] w fun e w' => (∃ n : Nat, e = .returned (.int .i64 n) ∧ n ≤ sizeEs l) ∧ Below w.heap.size w w' := by
  have hv' := hv
  obtain ⟨A, c, rfl, hc1, hc2, _⟩ := hv'
  have HV := Lib.hid hv
  have hlen : (l.length : Int) ≤ 4000000 := by have := sizeEs_length l; omega
  have HP := Lib.hid hP
  have HW := Lib.hid hW
  have hWs := hW.size
  have Hsz := Lib.hid hsz
  clear hv hP hW hsz
  go_enter Tryz.func20, Tryz.ntmps20
  go_wp2
  go_loopw [5, 10] (fun s5 t10 wr => ∃ (i n : Nat), t10 = .int .i64 i ∧ s5 = .int .i64 n ∧ i ≤ l.length ∧ Hid (n ≤ sizeEs (l.take i)) ∧ Hid (Below w.heap.size w wr)) (fun _ t10 _ => l.length - (intOf t10).toNat)
  case atStart => exact ⟨0, 0, rfl, rfl, Nat.zero_le _, Nat.zero_le _, Below.refl _ _⟩
  case round =>
    obtain ⟨i, n, rfl, rfl, hi, Hn, HB⟩ := hrel
    have hi0 : (i : Int) ≤ 4000000 := by omega
    have hn0 : (n : Int) ≤ 4000000 := by have := Hn.out; have := sizeEs_take l i; have := Hsz.out; omega
    have hbw0 := HB.out.size
    have hbel : Below W0.heap.size W0 wr := HW.out.trans (HB.out.mono hWs)
    have hbs := hbel.size
    have Hbel := Lib.hid hbel
    by_cases hlt : i < l.length
    · obtain ⟨b, o, c', e, hb, hcs⟩ := pat_get HV.out hlt
      cases e
      obtain ⟨t, p, hel⟩ : ∃ t p, l[i]? = some (.mk t p) := by
        cases e : l[i] with
        | mk t p => exact ⟨t, p, by rw [List.getElem?_eq_getElem hlt, e]⟩
      obtain ⟨c0, u, c1, hu⟩ := hcs i t p hel
      rw [← hbel.cell (p := ⟨b, o + i * 2, none⟩) hb] at c0
      rw [← hbel.cell (p := ⟨b, o + i * 2 + 1, none⟩) hb] at c1
      have hbw : b < wr.heap.size := by omega
      have hbw1 : b < wr.heap.size + 1 := by omega
      have hlt' : decide ((i : Int) < (l.length : Int)) = true := decide_eq_true (by omega)
      have hlt3 : ((i : Nat) : Int) < (l.length : Int) := by omega
      have hszt : sizeEs (l.take (i + 1)) = sizeEs (l.take i) + (1 + t.size + sizeO p) := by
        rw [take_snoc l i _ hel, sizeEs_append, sizeEs, sizeEs, Nat.add_zero]
      have hszl := sizeEs_take l (i + 1)
      have Hel := Lib.hid hel
      have Hszt := Lib.hid hszt
      have Hszl := Lib.hid hszl
      clear hel hszt hszl hbel hcs
      cases p with
      | none =>
        simp only [OAt] at hu
        subst hu
        have hns : n + 1 ≤ sizeEs (l.take (i + 1)) := by have := Hn.out; have := Hszt.out; omega
        have Hns := Lib.hid hns
        have hnl : n + 1 ≤ sizeEs l := by have := Hszl.out; omega
        have Hnl := Lib.hid hnl
        clear hns hnl
        by_cases hm : m ≤ (n : Int) + 1
        · have hm' : decide (m ≤ (n : Int) + 1) = true := decide_eq_true hm
          go_wp2
          go_ret
          exact ⟨⟨n + 1, by go_num, Hnl.out⟩, HB.out.alloc hbw0 _⟩
        · have hm' : decide (m ≤ (n : Int) + 1) = false := decide_eq_false hm
          go_wp2
          go_roundw
          case rel => exact ⟨i + 1, n + 1, by go_num, by go_num, hlt, Hns.out, HB.out.alloc hbw0 _⟩
          case measure => simp [intOf]; omega
      | some e =>
        simp only [OAt] at hu
        obtain ⟨b', o', c7, rfl, hb', hca, hex⟩ := hu
        obtain ⟨k0, k1, k2, k3, k4, k5, k6⟩ := hca.under hb' Hbel.out
        have hbw' : b' < wr.heap.size := by omega
        have hC := fun W m h => HP.out t e (List.mem_of_getElem? Hel.out) W c7 m hex h
        have HC := Lib.hid hC
        have hes : sizeO (some e) = e.size := by rw [sizeO]
        rw [hes] at Hszt
        clear hC hex hca hes
        unfold C7.arr at HC
        by_cases h1 : (n : Int) + 1 < m
        · have h1' : decide ((n : Int) + 1 < m) = true := decide_eq_true h1
          go_wp2_with fail
          go_at_call 33
          refine (HC.out _ _ ((Hbel.out.alloc hbs _))).mono ?_
          rintro e3 w3 ⟨⟨k, rfl, hk⟩, hb3⟩
          have hbb := (HB.out.alloc hbw0 _).trans (hb3.mono (by simp; omega))
          have HBB := Lib.hid hbb
          have hns : n + 1 + k ≤ sizeEs (l.take (i + 1)) := by have := Hn.out; have := Hszt.out; omega
          have Hns := Lib.hid hns
          have hnl : n + 1 + k ≤ sizeEs l := by have := Hszl.out; omega
          have hk0 : (k : Int) ≤ 4000000 := by have := Hsz.out; omega
          have Hnl := Lib.hid hnl
          clear hb3 hbb hns hnl hk
          by_cases hm : m ≤ (n : Int) + 1 + (k : Int)
          · have hm' : decide (m ≤ (n : Int) + 1 + (k : Int)) = true := decide_eq_true hm
            go_wp2
            go_ret
            exact ⟨⟨n + 1 + k, by go_num, Hnl.out⟩, HBB.out⟩
          · have hm' : decide (m ≤ (n : Int) + 1 + (k : Int)) = false := decide_eq_false hm
            go_wp2
            go_roundw
            case rel => exact ⟨i + 1, n + 1 + k, by go_num, by go_num, hlt, Hns.out, HBB.out⟩
            case measure => simp [intOf]; omega
        · have h1' : decide ((n : Int) + 1 < m) = false := decide_eq_false h1
          have hm : m ≤ (n : Int) + 1 := by omega
          have hm' : decide (m ≤ (n : Int) + 1) = true := decide_eq_true hm
          have hnl : n + 1 ≤ sizeEs l := by have := Hszl.out; have := Hszt.out; have := Hn.out; omega
          have Hnl := Lib.hid hnl
          clear hnl
          go_wp2
          go_ret
          exact ⟨⟨n + 1, by go_num, Hnl.out⟩, HB.out.alloc hbw0 _⟩
    · obtain rfl : i = l.length := by omega
      have hlt' : decide ((l.length : Int) < (l.length : Int)) = false := decide_eq_false (by omega)
      have hn := Hn.out
      rw [List.take_length] at hn
      have Hn2 := Lib.hid hn
      clear hn
      go_wp2
      go_ret
      exact ⟨⟨n, rfl, Hn2.out⟩, HB.out⟩
set_option maxHeartbeats 8000000 in
set_option maxRecDepth 1000000 in
theorem cnt_any {W0 : World} (k : Int) (t n a : ByteArray) (al : List AR) (ie : Option EX) (vs : List VA) (hs : (EX.mk k t n a al ie vs).size ≤ 4000000)
    (hA : ∀ t x, AR.mk t x ∈ al → CntTo W0 x) (hI : ∀ x, ie = some x → CntTo W0 x) (hV : ∀ k d l, VA.mk k d l ∈ vs → ∀ t x, EL.mk t (some x) ∈ l → CntTo W0 x) : CntTo W0 (.mk k t n a al ie vs) := by
  intro w c m hex hW
  rw [EX.size] at hs
  rw [EX.size]
  rw [ExAt] at hex
  obtain ⟨ck, ct, cn, ca, cal, ci, cvs⟩ := c
  obtain ⟨e1, e2, e3, e4, hv, hi, hvv⟩ := hex
  simp only at e1 e2 e3 e4 hv hi hvv
  subst e1 e2 e3 e4
  have hv' := hv
  obtain ⟨A1, c1, rfl, _⟩ := hv'
  have hvv' := hvv
  obtain ⟨A2, c2, rfl, _⟩ := hvv'
  obtain ⟨ip, rfl⟩ : ∃ p, ci = .pointer p := by
    cases ie with
    | none => simp only [OAt] at hi; exact ⟨_, hi⟩
    | some e => simp only [OAt] at hi; obtain ⟨b, o, c, h, _⟩ := hi; exact ⟨_, h⟩
  unfold C7.arr
  have hall : (al.length : Int) ≤ 4000000 := by have := sizeAs_length al; omega
  have hvl : (vs.length : Int) ≤ 4000000 := by have := sizeVs_length vs; omega
  have HV := Lib.hid hv
  have HVV := Lib.hid hvv
  have HO := Lib.hid hi
  have HA := Lib.hid hA
  have HI := Lib.hid hI
  have HVa := Lib.hid hV
  have HW := Lib.hid hW
  have hWs := hW.size
  have Hs := Lib.hid hs
  clear hv hvv hi hA hI hV hW hs
  go_enter Tryz.func33, Tryz.ntmps33
  go_upto_region 2 with fail
  go_cut [17] (fun v wx => v = .bool (ip.isSome && decide (1 < m)) ∧ wx = w.alloc (.cells #[.int .i64 k, .string t, .string n, .string a, .slice A1 al.length c1, .pointer ip, .slice A2 vs.length c2] 88))
  case first =>
    cases ip with
    | none =>
      go_wp2_with fail
      go_meet
      exact ⟨rfl, rfl⟩
    | some q =>
      cases h1 : decide (1 < m)
      all_goals
        go_wp2_with fail
        go_meet
        exact ⟨by rw [h1]; rfl, rfl⟩
  obtain ⟨rfl, rfl⟩ := hcut
  obtain ⟨bq, hbq⟩ : ∃ b, (ip.isSome && decide (1 < m)) = b := ⟨_, rfl⟩
  rw [hbq]
  go_upto_if 17 with fail
  go_cut [5] (fun v wx => ∃ q : Nat, v = .int .i64 q ∧ Hid (q ≤ 1 + sizeO ie) ∧ Hid (Below w.heap.size w wx) ∧ Hid (BoxAt wx w.heap.size #[.int .i64 k, .string t, .string n, .string a, .slice A1 al.length c1, .pointer ip, .slice A2 vs.length c2] 88))
  case first =>
    cases bq
    case false =>
      go_wp2_with fail
      go_meet
      exact ⟨1, rfl, by unfold Hid; omega, (Below.refl _ _).alloc (Nat.le_refl _) _, BoxAt.new _ _ _⟩
    cases ie with
    | none =>
      have h := HO.out
      simp only [OAt] at h
      cases h
      cases hbq
    | some e =>
      have h := HO.out
      simp only [OAt] at h
      obtain ⟨b', o', c7, e2, hb', hca, hex⟩ := h
      cases e2
      obtain ⟨k0, k1, k2, k3, k4, k5, k6⟩ := hca.under hb' HW.out
      have hbw' : b' < w.heap.size := by omega
      have hC := fun W m h => HI.out e rfl W c7 m hex h
      have HC := Lib.hid hC
      have hes : sizeO (some e) = e.size := by rw [sizeO]
      unfold C7.arr at HC
      clear hC hex hca hbq
      go_wp2_with fail
      go_at_call 33
      refine (HC.out _ _ (HW.out.alloc hWs _)).mono ?_
      rintro e3 w3 ⟨⟨j, rfl, hk⟩, hb3⟩
      have hbr : Below w.heap.size w w3 := ((Below.refl w.heap.size w).alloc (Nat.le_refl _) _).trans (hb3.mono (by simp))
      have HBr := Lib.hid hbr
      have HBx := Lib.hid ((BoxAt.new w #[.int .i64 k, .string t, .string n, .string a, .slice A1 al.length c1, .pointer (some ⟨b', o', none⟩), .slice A2 vs.length c2] 88).later hb3)
      have hj : (j : Int) ≤ 4000000 := by have := Hs.out; omega
      have Hj := Lib.hid (show 1 + j ≤ 1 + sizeO (some e) by omega)
      clear hb3 hbr hk hes
      go_wp2_with fail
      go_meet
      exact ⟨1 + j, by go_num, Hj.out, HBr.out, HBx.out⟩
  obtain ⟨q, rfl, Hq, HB0, HX0⟩ := hcut
  clear hbq HO HI
  have hq0 : (q : Int) ≤ 4000000 := by have := Hs.out; have := Hq.out; omega
  have x4 := HX0.out.cell 4
  have hx0 := HX0.out.lt
  simp at x4
  go_wp2
  go_loopw [5, 31] (fun s5 t31 wr => ∃ (i z : Nat), t31 = .int .i64 i ∧ s5 = .int .i64 z ∧ i ≤ al.length ∧ Hid (z ≤ 1 + sizeO ie + sizeAs (al.take i)) ∧ Hid (Below w.heap.size w wr) ∧ Hid (BoxAt wr w.heap.size #[.int .i64 k, .string t, .string n, .string a, .slice A1 al.length c1, .pointer ip, .slice A2 vs.length c2] 88)) (fun _ t31 _ => al.length - (intOf t31).toNat)
  case atStart => exact ⟨0, q, rfl, rfl, Nat.zero_le _, by unfold Hid; have := Hq.out; omega, HB0.out, HX0.out⟩
  case round =>
    obtain ⟨i, nn, rfl, rfl, hi, Hn, HB, HX⟩ := hrel
    have hi0 : (i : Int) ≤ 4000000 := by omega
    have hn0 : (nn : Int) ≤ 4000000 := by have := Hn.out; have := sizeAs_take al i; have := Hs.out; omega
    have hbel : Below W0.heap.size W0 wr := HW.out.trans (HB.out.mono hWs)
    have hbs := hbel.size
    have hxl := HX.out.lt
    have hbw0 := HB.out.size
    by_cases hlt : i < al.length
    · obtain ⟨b, o, c', e, hb, hcs⟩ := args_get HV.out hlt
      cases e
      obtain ⟨nm, ex, hel⟩ : ∃ t p, al[i]? = some (.mk t p) := by
        cases e : al[i] with
        | mk t p => exact ⟨t, p, by rw [List.getElem?_eq_getElem hlt, e]⟩
      obtain ⟨c0, c7, hca, hex⟩ := hcs i nm ex hel
      have hC := fun W m h => HA.out nm ex (List.mem_of_getElem? hel) W c7 m hex h
      obtain ⟨k2, t2, n3, a2, B1, m1, q1, p2, B2, m2, q2, rfl⟩ := ex_shape hex
      obtain ⟨k0, k1, k2', k3, k4, k5, k6⟩ := hca.under hb hbel
      rw [← hbel.cell (p := ⟨b, o + i * 8, none⟩) hb] at c0
      have hbw : b < wr.heap.size := by omega
      have hlt' : decide ((i : Int) < (al.length : Int)) = true := decide_eq_true (by omega)
      have hlt3 : ((i : Nat) : Int) < (al.length : Int) := by omega
      have hszt : sizeAs (al.take (i + 1)) = sizeAs (al.take i) + (nm.size + ex.size) := by
        rw [take_snoc al i _ hel, sizeAs_append, sizeAs, sizeAs, Nat.add_zero]
      have hszl := sizeAs_take al (i + 1)
      have HC := Lib.hid hC
      unfold C7.arr at HC
      have Hszt := Lib.hid hszt
      have Hszl := Lib.hid hszl
      have Hbel := Lib.hid hbel
      clear hC hca hex hszt hszl hbel hcs hel
      by_cases h1 : (nn : Int) < m
      · have h1' : decide ((nn : Int) < m) = true := decide_eq_true h1
        go_wp2_with fail
        go_at_call 33
        refine (HC.out _ _ ((Hbel.out.alloc hbs _))).mono ?_
        rintro e3 w3 ⟨⟨j, rfl, hk⟩, hb3⟩
        have hr3 : Below wr.heap.size wr w3 := ((Below.refl wr.heap.size wr).alloc (Nat.le_refl _) _).trans (hb3.mono (by simp))
        have HBB := Lib.hid (HB.out.trans (hr3.mono hbw0))
        have HXX := Lib.hid (HX.out.later hr3)
        have hj0 : (j : Int) ≤ 4000000 := by have := Hs.out; have := Hszt.out; have := Hszl.out; omega
        have Hns := Lib.hid (show nn + j ≤ 1 + sizeO ie + sizeAs (al.take (i + 1)) by have := Hn.out; have := Hszt.out; omega)
        clear hb3 hr3 hk
        go_wp2
        go_roundw
        case rel => exact ⟨i + 1, nn + j, by go_num, by go_num, hlt, Hns.out, HBB.out, HXX.out⟩
        case measure => simp [intOf]; omega
      · have h1' : decide ((nn : Int) < m) = false := decide_eq_false h1
        have Hns := Lib.hid (show nn ≤ 1 + sizeO ie + sizeAs (al.take (i + 1)) by have := Hn.out; have := Hszt.out; omega)
        go_wp2
        go_roundw
        case rel => exact ⟨i + 1, nn, by go_num, by go_num, hlt, Hns.out, HB.out.alloc hbw0 _, HX.out.alloc _⟩
        case measure => simp [intOf]; omega
    · obtain rfl : i = al.length := by omega
      have hlt' : decide ((al.length : Int) < (al.length : Int)) = false := decide_eq_false (by omega)
      have x6 := HX.out.cell 6
      simp at x6
      have hn := Hn.out
      rw [List.take_length] at hn
      have Hn2 := Lib.hid hn
      have hn20 : nn ≤ 1 + sizeO ie + sizeAs al := hn
      clear hn hbel x4 hx0
      obtain ⟨wo, hwo⟩ : ∃ x, x = wr := ⟨_, rfl⟩
      subst hwo
      go_wp2
      go_loopw [5, 50] (fun s5 t50 wr => ∃ (i z : Nat), t50 = .int .i64 i ∧ s5 = .int .i64 z ∧ i ≤ vs.length ∧ Hid (z ≤ 1 + sizeO ie + sizeAs al + sizeVs (vs.take i)) ∧ Hid (Below w.heap.size w wr)) (fun _ t50 _ => vs.length - (intOf t50).toNat)
      case atStart => exact ⟨0, nn, rfl, rfl, Nat.zero_le _, by unfold Hid; omega, HB.out⟩
      case round =>
        obtain ⟨i, y, rfl, rfl, hiv, Hny, HBy⟩ := hrel
        have hi0 : (i : Int) ≤ 4000000 := by omega
        have hy0 : (y : Int) ≤ 4000000 := by have := Hny.out; have := sizeVs_take vs i; have := Hs.out; omega
        have hbel : Below W0.heap.size W0 wr := HW.out.trans (HBy.out.mono hWs)
        have hbs2 := hbel.size
        have hbw2 := HBy.out.size
        by_cases hlt : i < vs.length
        · obtain ⟨b, o, c', e, hb, hcs⟩ := vars_get HVV.out hlt
          cases e
          obtain ⟨key, df, p, hel⟩ : ∃ t d p, vs[i]? = some (.mk t d p) := by
            cases e : vs[i] with
            | mk t d p => exact ⟨t, d, p, by rw [List.getElem?_eq_getElem hlt, e]⟩
          obtain ⟨c0, cd, uv, cu, hpat⟩ := hcs i key df p hel
          rw [← hbel.cell (p := ⟨b, o + i * 3, none⟩) hb] at c0
          rw [← hbel.cell (p := ⟨b, o + i * 3 + 1, none⟩) hb] at cd
          rw [← hbel.cell (p := ⟨b, o + i * 3 + 2, none⟩) hb] at cu
          have hp' := hpat
          obtain ⟨A3, c3, rfl, _, _, _⟩ := hp'
          have hbw : b < wr.heap.size := by omega
          have hlt' : decide ((i : Int) < (vs.length : Int)) = true := decide_eq_true (by omega)
          have hlt3 : ((i : Nat) : Int) < (vs.length : Int) := by omega
          have hszt : sizeVs (vs.take (i + 1)) = sizeVs (vs.take i) + (1 + key.size + sizeEs p) := by
            rw [take_snoc vs i _ hel, sizeVs_append, sizeVs, sizeVs, Nat.add_zero]
          have hszl := sizeVs_take vs (i + 1)
          have hC := fun W m h => cntIn_any p hpat (by have := Hs.out; omega) (HVa.out key df p (List.mem_of_getElem? hel)) m W h
          have HC := Lib.hid hC
          have Hszt := Lib.hid hszt
          have Hszl := Lib.hid hszl
          have Hbel := Lib.hid hbel
          clear hC hszt hszl hbel hcs hel hpat
          by_cases h1 : (y : Int) < m
          · have h1' : decide ((y : Int) < m) = true := decide_eq_true h1
            go_wp2_with fail
            go_at_call 20
            refine (HC.out _ _ ((Hbel.out.alloc hbs2 _))).mono ?_
            rintro e3 w3 ⟨⟨j, rfl, hk⟩, hb3⟩
            have hr3 : Below wr.heap.size wr w3 := ((Below.refl wr.heap.size wr).alloc (Nat.le_refl _) _).trans (hb3.mono (by simp))
            have HBB := Lib.hid (HBy.out.trans (hr3.mono hbw2))
            have hj0 : (j : Int) ≤ 4000000 := by have := Hs.out; have := Hszt.out; have := Hszl.out; omega
            have Hns := Lib.hid (show y + (1 + j) ≤ 1 + sizeO ie + sizeAs al + sizeVs (vs.take (i + 1)) by have := Hny.out; have := Hszt.out; omega)
            clear hb3 hr3 hk
            go_wp2
            go_roundw
            case rel => exact ⟨i + 1, y + (1 + j), by go_num, by go_num, hlt, Hns.out, HBB.out⟩
            case measure => simp [intOf]; omega
          · have h1' : decide ((y : Int) < m) = false := decide_eq_false h1
            have Hns := Lib.hid (show y ≤ 1 + sizeO ie + sizeAs al + sizeVs (vs.take (i + 1)) by have := Hny.out; have := Hszt.out; omega)
            go_wp2
            go_roundw
            case rel => exact ⟨i + 1, y, by go_num, by go_num, hlt, Hns.out, HBy.out.alloc hbw2 _⟩
            case measure => simp [intOf]; omega
        · obtain rfl : i = vs.length := by omega
          have hlt' : decide ((vs.length : Int) < (vs.length : Int)) = false := decide_eq_false (by omega)
          have hn := Hny.out
          rw [List.take_length] at hn
          have Hn2 := Lib.hid hn
          clear hn hbel
          go_wp2
          go_ret
          exact ⟨⟨y, rfl, by have := Hn2.out; omega⟩, HBy.out⟩
-- from Alz
theorem el_in {l : List EL} {t : ByteArray} {e : EX} (h : EL.mk t (some e) ∈ l) : e.size + 1 ≤ sizeEs l := by
  induction l with
  | nil => cases h
  | cons x r ih =>
    cases x with
    | mk t' p' =>
      rw [sizeEs]
      rcases List.mem_cons.1 h with h | h
      · cases h
        have : sizeO (some e) = e.size := by rw [sizeO]
        omega
      · have := ih h; omega
theorem cnt_all (W0 : World) : ∀ (m : Nat) (e : EX), e.size ≤ m → m ≤ 4000000 → CntTo W0 e := by
  intro m
  induction m with
  | zero => intro e h _; have := e.size_pos; omega
  | succ m ih =>
    intro e he hm
    obtain ⟨k, t, n, a, al, ie, vs⟩ := e
    have hs := he
    rw [EX.size] at hs
    refine cnt_any k t n a al ie vs (by omega) (fun t x hx => ih x (by have := ar_size hx; omega) (by omega)) (fun x hx => ih x ?_ (by omega)) (fun key b l hmem t x hx => ih x (by have := va_size hmem; have := el_in hx; omega) (by omega))
    have : sizeO ie = x.size := by rw [hx, sizeO]
    omega
theorem cntIn_all {W0 : World} (l : List EL) {v : Value} (hv : PatAt W0 l v) (hsz : sizeEs l ≤ 4000000) (m : Int) (w : World) (hW : Below W0.heap.size W0 w) :
    Calls Tryz.prog 20 #[v, .int .i64 m] w fun e w' => (∃ n : Nat, e = .returned (.int .i64 n) ∧ n ≤ sizeEs l) ∧ Below w.heap.size w w' :=
  cntIn_any l hv hsz (fun t e h => cnt_all W0 4000000 e (by have := el_in h; omega) (Nat.le_refl _)) m w hW
-- from Ama
set_option maxHeartbeats 4000000 in
set_option maxRecDepth 1000000 in
theorem small_any {W0 : World} (ty level : Int) (text name : ByteArray) (val : List EL) (ats : List AT) (v u : Value) (fr tu : Int) (hv : PatAt W0 val v) (hu : LieAt (TsAt W0 ats) u ats.length)
    (hsz : sizeEs val + sizeTs ats ≤ 4000000) (w : World) (hW : Below W0.heap.size W0 w) :
    Calls Tryz.prog 7 #[entV ty level text name v u fr tu] w fun e w' => (∃ b, e = .returned (.bool b)) ∧ Below w.heap.size w w' := by
  have hC := fun W h => cntIn_all val hv (by omega) 400 W h
  have HC := Lib.hid hC
  obtain ⟨A, c, rfl, _⟩ := hv
  have HU := Lib.hid hu
  obtain ⟨A2, c2, rfl, _⟩ := hu
  have HW := Lib.hid hW
  have hWs := hW.size
  have Hsz := Lib.hid hsz
  have hal : (ats.length : Int) ≤ 4000000 := by have := sizeTs_length ats; omega
  clear hC hW hsz
  unfold entV
  go_enter Tryz.func7, Tryz.ntmps7
  go_wp2_with fail
  go_at_call 20
  refine (HC.out _ (HW.out.alloc hWs _)).mono ?_
  rintro e1 w1 ⟨⟨q, rfl, hq⟩, hb1⟩
  have hE := (BoxAt.new w #[.int .i64 ty, .int .i64 level, .string text, .string name, .slice A val.length c, .slice A2 ats.length c2, .int .i64 fr, .int .i64 tu] 26).later hb1
  have hbr : Below w.heap.size w w1 := ((Below.refl w.heap.size w).alloc (Nat.le_refl _) _).trans (hb1.mono (by simp))
  have d5 := hE.cell 5
  have hlt0 := hE.lt
  simp at d5
  have HBr := Lib.hid hbr
  have Hq := Lib.hid hq
  have hq0 : (q : Int) ≤ 4000000 := by have := Hsz.out; omega
  clear hE hb1 hbr hq HC
  go_wp2
  go_loopw [3, 12] (fun s3 t12 wr => ∃ (i z : Nat), t12 = .int .i64 i ∧ s3 = .int .i64 z ∧ i ≤ ats.length ∧ Hid (z ≤ sizeEs val + sizeTs (ats.take i)) ∧ Hid (Below w.heap.size w wr)) (fun _ t12 _ => ats.length - (intOf t12).toNat)
  case atStart => exact ⟨0, q, rfl, rfl, Nat.zero_le _, by unfold Hid; have := Hq.out; omega, HBr.out⟩
  case round =>
    obtain ⟨i, z, rfl, rfl, hi, Hz, HB⟩ := hrel
    have hi0 : (i : Int) ≤ 4000000 := by omega
    have hz0 : (z : Int) ≤ 4000000 := by have := Hz.out; have := sizeTs_take ats i; have := Hsz.out; omega
    have hbel : Below W0.heap.size W0 wr := HW.out.trans (HB.out.mono hWs)
    have hbs := hbel.size
    have hbw0 := HB.out.size
    by_cases hlt : i < ats.length
    · obtain ⟨b, o, c', e, hb, hcs⟩ := ats_get HU.out hlt
      cases e
      obtain ⟨t, p, hel⟩ : ∃ t p, ats[i]? = some (.mk t p) := by
        cases e : ats[i] with
        | mk t p => exact ⟨t, p, by rw [List.getElem?_eq_getElem hlt, e]⟩
      obtain ⟨c0, uv, c1, hpat⟩ := hcs i t p hel
      rw [← hbel.cell (p := ⟨b, o + i * 2, none⟩) hb] at c0
      rw [← hbel.cell (p := ⟨b, o + i * 2 + 1, none⟩) hb] at c1
      have hp' := hpat
      obtain ⟨A3, c3, rfl, _, _, _⟩ := hp'
      have hbw : b < wr.heap.size := by omega
      have hlt' : decide ((i : Int) < (ats.length : Int)) = true := decide_eq_true (by omega)
      have hlt3 : ((i : Nat) : Int) < (ats.length : Int) := by omega
      have hszt : sizeTs (ats.take (i + 1)) = sizeTs (ats.take i) + (1 + t.size + sizeEs p) := by
        rw [take_snoc ats i _ hel, sizeTs_append, sizeTs, sizeTs, Nat.add_zero]
      have hszl := sizeTs_take ats (i + 1)
      have hC := fun W h => cntIn_all p hpat (by have := Hsz.out; omega) 400 W h
      have HC := Lib.hid hC
      have Hszt := Lib.hid hszt
      have Hszl := Lib.hid hszl
      have Hbel := Lib.hid hbel
      clear hC hszt hszl hbel hcs hel hpat
      by_cases h1 : (z : Int) < 400
      · have h1' : decide ((z : Int) < 400) = true := decide_eq_true h1
        go_wp2_with fail
        go_at_call 20
        refine (HC.out _ ((Hbel.out.alloc hbs _))).mono ?_
        rintro e3 w3 ⟨⟨j, rfl, hk⟩, hb3⟩
        have hr3 : Below wr.heap.size wr w3 := ((Below.refl wr.heap.size wr).alloc (Nat.le_refl _) _).trans (hb3.mono (by simp))
        have HBB := Lib.hid (HB.out.trans (hr3.mono hbw0))
        have hj0 : (j : Int) ≤ 4000000 := by have := Hsz.out; have := Hszt.out; have := Hszl.out; omega
        have Hns := Lib.hid (show z + (1 + j) ≤ sizeEs val + sizeTs (ats.take (i + 1)) by have := Hz.out; have := Hszt.out; omega)
        clear hb3 hr3 hk
        go_wp2
        go_roundw
        case rel => exact ⟨i + 1, z + (1 + j), by go_num, by go_num, hlt, Hns.out, HBB.out⟩
        case measure => simp [intOf]; omega
      · have h1' : decide ((z : Int) < 400) = false := decide_eq_false h1
        have Hns := Lib.hid (show z ≤ sizeEs val + sizeTs (ats.take (i + 1)) by have := Hz.out; have := Hszt.out; omega)
        go_wp2
        go_roundw
        case rel => exact ⟨i + 1, z, by go_num, by go_num, hlt, Hns.out, HB.out.alloc hbw0 _⟩
        case measure => simp [intOf]; omega
    · obtain rfl : i = ats.length := by omega
      have hlt' : decide ((ats.length : Int) < (ats.length : Int)) = false := decide_eq_false (by omega)
      clear hbel
      go_wp2
      go_ret
      exact ⟨⟨_, rfl⟩, HB.out⟩
end Go.Proofs.YtamghpleajbonaaGreatDoor
