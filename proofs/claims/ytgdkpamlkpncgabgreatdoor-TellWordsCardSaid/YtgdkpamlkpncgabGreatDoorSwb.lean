/-
  Package script: what stands in memory all along; a whole number that a text tells.
-/
import Derived.Test.YtgdkpamlkpncgabGreatDoorSwc
import Derived.Test.YtgdkpamlkpncgabGreatDoorA4i
import Derived.Test.YtgdkpamlkpncgabGreatDoorBx
namespace Go.Proofs.YtgdkpamlkpncgabGreatDoor
open Go.RowKit
set_option linter.unusedVariables false
set_option linter.unusedSimpArgs false

/-- The library's tables and errors, as they are laid. -/
structure Env (W : World) : Prop where
  sh : W.ShapedOpen Tryz.prog
  tab : TabPow W
  syn : ∃ te pe, W.cell? ⟨5, 0, none⟩ = some (.iface te pe)
  rng : ∃ te pe, W.cell? ⟨6, 0, none⟩ = some (.iface te pe)
theorem Env.below {W W' : World} (h : Env W) (g : Below W.heap.size W W') : Env W' := by
  obtain ⟨t1, p1, h1⟩ := h.syn
  obtain ⟨t2, p2, h2⟩ := h.rng
  exact ⟨shp_below h.sh g, h.tab.below g, ⟨t1, p1, (g.cell (p := ⟨5, 0, none⟩) (Lib.lt_of_cell h1)).trans h1⟩, ⟨t2, p2, (g.cell (p := ⟨6, 0, none⟩) (Lib.lt_of_cell h2)).trans h2⟩⟩
def EnvB (B : Nat) (W : World) : Prop := ∃ w0, w0.heap.size = B ∧ Env w0 ∧ Below B w0 W
theorem EnvB.env {B : Nat} {W : World} (h : EnvB B W) : Env W := by
  obtain ⟨w0, rfl, h1, h2⟩ := h
  exact h1.below h2
theorem EnvB.step {B : Nat} {W W' : World} (h : EnvB B W) (g : Below B W W') : EnvB B W' := by
  obtain ⟨w0, e, h1, h2⟩ := h
  exact ⟨w0, e, h1, h2.trans g⟩
theorem EnvB.size {B : Nat} {W : World} (h : EnvB B W) : B ≤ W.heap.size := by
  obtain ⟨w0, rfl, h1, h2⟩ := h
  exact h2.size
theorem EnvB.later {B : Nat} {W W' : World} (h : EnvB B W) (g : Below W.heap.size W W') : EnvB B W' := h.step (g.mono h.size)
theorem EnvB.alloc {B : Nat} {W : World} (h : EnvB B W) (o : Obj) : EnvB B (W.alloc o) := h.later ((Below.refl _ _).alloc (Nat.le_refl _) o)
theorem EnvB.drew {B : Nat} {W : World} (h : EnvB B W) : EnvB B W.drew := h.later (Below.refl _ _).drew
theorem Env.b {W : World} (h : Env W) : EnvB W.heap.size W := ⟨W, rfl, h, Below.refl _ _⟩
theorem EnvB.tabB {B : Nat} {W : World} (h : EnvB B W) : Lib.TabBelow Tryz.prog B W "internal/strconv.uint64pow10" .u64 Lib.pow10Tab := fun W' g => (h.step g).env.tab

def WholeTo (s : ByteArray) (lo hi : Int) (v : Int) (b : Bool) : Prop :=
  ∀ w, Env w → Calls Tryz.prog 44 #[.string s, .int .i64 lo, .int .i64 hi] w fun e w' => e = .returned (.tuple #[.int .i64 v, .bool b]) ∧ Below w.heap.size w w'
def ParseTo (s : ByteArray) (v : Int) (E : Value) : Prop :=
  ∀ w, Env w → Calls Tryz.prog 77 #[.string s, .int .i64 10, .int .i64 64] w fun e w' => e = .returned (.tuple #[.int .i64 v, E]) ∧ Below w.heap.size w w'
def ParseNo (s : ByteArray) (v : Int) : Prop :=
  ∀ w, Env w → Calls Tryz.prog 77 #[.string s, .int .i64 10, .int .i64 64] w fun e w' => ∃ N t, e = .returned (.tuple #[.int .i64 v, .iface t (.pointer (some ⟨N, 0, none⟩))]) ∧ Below w.heap.size w w'
theorem parse_ok {s : ByteArray} {v : Int} (hs : s.size ≤ 4000000) (h : Lib.parseIntB 64 s.data.toList = .ok v) : ParseTo s v .nilIface := fun w _ => by
  refine (Tryz.strconv_ParseInt_10_at64_ok s (by omega) v h w).mono ?_
  rintro e w' ⟨rfl, rfl | ⟨t, rfl⟩⟩
  · exact ⟨rfl, Below.refl _ _⟩
  · exact ⟨rfl, Joins.below_bytesWorld _ _ _ _ (Nat.le_refl _)⟩
theorem parse_syn {s : ByteArray} (hs : s.size ≤ 4000000) (h : Lib.parseIntB 64 s.data.toList = Lib.NumEnd.syntax) : ParseNo s 0 := fun w hE => by
  obtain ⟨t, p, hc⟩ := hE.syn
  refine (Tryz.strconv_ParseInt_10_at64_syntax s (by omega) h _ w hc (.inr ⟨t, p, rfl⟩)).mono ?_
  rintro e w' ⟨N, rfl, _, _, hb⟩
  exact ⟨N, _, rfl, hb⟩
theorem parse_rng {s : ByteArray} (hs : s.size ≤ 4000000) (h : Lib.parseIntB 64 s.data.toList = .range) : ParseNo s (Lib.intSat 64 s.data.toList) := fun w hE => by
  obtain ⟨t, p, hc⟩ := hE.rng
  refine (Tryz.strconv_ParseInt_10_at64_range s (by omega) h _ w hc (.inr ⟨t, p, rfl⟩)).mono ?_
  rintro e w' ⟨N, rfl, _, _, hb⟩
  exact ⟨N, _, rfl, hb⟩
set_option maxHeartbeats 2000000 in
set_option maxRecDepth 100000 in
theorem whole_no {s : ByteArray} {lo hi v : Int} (hp : ParseNo s v) : WholeTo s lo hi 0 false := fun w hE => by
  have HP := Lib.hid hp
  have HE := Lib.hid hE
  clear hp hE
  go_enter Tryz.func44, Tryz.ntmps44
  go_wp2_with fail
  go_at_call 77
  refine (HP.out _ HE.out).mono ?_
  rintro e w1 ⟨N, t, rfl, hb1⟩
  go_wp2
  go_ret2
  exact ⟨rfl, hb1⟩
def FmtTo (v : Int) (x : ByteArray) : Prop :=
  ∀ w, Env w → Calls Tryz.prog 78 #[.int .i64 v, .int .i64 10] w fun e w' => e = .returned (.string x) ∧ Below w.heap.size w w'
theorem fmt_to {v : Int} (h0 : -9223372036854775808 ≤ v) (h1 : v ≤ 9223372036854775807) : FmtTo v ⟨(Lib.itoa v).toArray⟩ := fun w hE => by
  refine (Tryz.strconv_FormatInt_10 v h0 h1 w hE.tab).mono ?_
  rintro e w' ⟨he, k, os, rfl⟩
  exact ⟨he, Lib.below_grow _ w (Nat.le_refl _) k os⟩
set_option maxHeartbeats 4000000 in
set_option maxRecDepth 100000 in
theorem whole_yes {s x : ByteArray} {lo hi v : Int} (hp : ParseTo s v .nilIface) (hf : FmtTo v x) (b : Bool) (hb : b = (decide (lo ≤ v) && decide (v ≤ hi) && decide (x = s))) : WholeTo s lo hi (if b then v else 0) b := fun w hE => by
  have HP := Lib.hid hp
  have HF := Lib.hid hf
  have HE := Lib.hid hE
  clear hp hE hf
  by_cases c1 : v < lo
  · obtain rfl : b = false := by rw [hb, decide_eq_false (by omega : ¬ lo ≤ v)]; rfl
    clear hb
    have d1 : decide (v < lo) = true := decide_eq_true c1
    go_enter Tryz.func44, Tryz.ntmps44
    go_wp2_with fail
    go_at_call 77
    refine (HP.out _ HE.out).mono ?_
    rintro e w1 ⟨rfl, hb1⟩
    go_wp2
    go_ret2
    exact ⟨rfl, hb1⟩
  · have d1 : decide (v < lo) = false := decide_eq_false c1
    by_cases c2 : hi < v
    · obtain rfl : b = false := by rw [hb, decide_eq_false (by omega : ¬ v ≤ hi)]; simp
      clear hb
      have d2 : decide (hi < v) = true := decide_eq_true c2
      go_enter Tryz.func44, Tryz.ntmps44
      go_wp2_with fail
      go_at_call 77
      refine (HP.out _ HE.out).mono ?_
      rintro e w1 ⟨rfl, hb1⟩
      go_wp2
      go_ret2
      exact ⟨rfl, hb1⟩
    · have d2 : decide (hi < v) = false := decide_eq_false c2
      have hb2 : b = (x.toList == s.toList) := by
        rw [hb, decide_eq_true (by omega : lo ≤ v), decide_eq_true (by omega : v ≤ hi), Bool.true_and, Bool.true_and, Bool.eq_iff_iff, decide_eq_true_iff, beq_iff_eq]
        constructor
        · rintro rfl; rfl
        · intro h
          rw [Lib.toList_data, Lib.toList_data] at h
          exact bytes_eq h
      clear hb
      cases b
      · have d3 : (x.toList == s.toList) = false := hb2.symm
        clear hb2
        go_enter Tryz.func44, Tryz.ntmps44
        go_wp2_with fail
        go_at_call 77
        refine (HP.out _ HE.out).mono ?_
        rintro e w1 ⟨rfl, hb1⟩
        go_wp2_with fail
        go_at_call 78
        refine (HF.out _ (HE.out.below hb1)).mono ?_
        rintro e w2 ⟨rfl, hb2⟩
        go_wp2
        go_ret2
        exact ⟨rfl, hb1.trans (hb2.mono hb1.size)⟩
      · have d3 : (x.toList == s.toList) = true := hb2.symm
        clear hb2
        go_enter Tryz.func44, Tryz.ntmps44
        go_wp2_with fail
        go_at_call 77
        refine (HP.out _ HE.out).mono ?_
        rintro e w1 ⟨rfl, hb1⟩
        go_wp2_with fail
        go_at_call 78
        refine (HF.out _ (HE.out.below hb1)).mono ?_
        rintro e w2 ⟨rfl, hb2⟩
        go_wp2
        go_ret2
        exact ⟨rfl, hb1.trans (hb2.mono hb1.size)⟩
theorem whole_any (s : ByteArray) (lo hi : Int) (hs : s.size ≤ 4000000) : WholeTo s lo hi ((wholeS s.data.toList lo hi).getD 0) (wholeS s.data.toList lo hi).isSome := by
  match h : Lib.parseIntB 64 s.data.toList with
  | Lib.NumEnd.syntax =>
    have : wholeS s.data.toList lo hi = none := by unfold wholeS; rw [h]
    rw [this]
    exact whole_no (parse_syn hs h)
  | Lib.NumEnd.range =>
    have : wholeS s.data.toList lo hi = none := by unfold wholeS; rw [h]
    rw [this]
    exact whole_no (parse_rng hs h)
  | Lib.NumEnd.ok v =>
    have hb := Lib.parseIntB_bounds h
    have e63 : ((2 ^ (64 - 1) : Nat) : Int) = 9223372036854775808 := by decide
    rw [e63] at hb
    have hy := whole_yes (lo := lo) (hi := hi) (parse_ok hs h) (fmt_to (v := v) (by omega) (by omega)) _ rfl
    have hx : ((⟨(Lib.itoa v).toArray⟩ : ByteArray) = s) ↔ Lib.itoa v = s.data.toList := ⟨fun e => by rw [← e], fun e => bytes_eq e⟩
    have hw : wholeS s.data.toList lo hi = if (decide (lo ≤ v) && decide (v ≤ hi) && decide ((⟨(Lib.itoa v).toArray⟩ : ByteArray) = s)) = true then some v else none := by
      unfold wholeS
      rw [h]
      dsimp only
      by_cases c : lo ≤ v ∧ v ≤ hi ∧ Lib.itoa v = s.data.toList
      · rw [if_pos c, if_pos (by rw [Bool.and_eq_true, Bool.and_eq_true, decide_eq_true_iff, decide_eq_true_iff, decide_eq_true_iff]; exact ⟨⟨c.1, c.2.1⟩, hx.2 c.2.2⟩)]
      · rw [if_neg c, if_neg (by rw [Bool.and_eq_true, Bool.and_eq_true, decide_eq_true_iff, decide_eq_true_iff, decide_eq_true_iff]; exact fun q => c ⟨q.1.1, q.1.2, hx.1 q.2⟩)]
    rw [hw]
    generalize (decide (lo ≤ v) && decide (v ≤ hi) && decide ((⟨(Lib.itoa v).toArray⟩ : ByteArray) = s)) = b at *
    cases b
    · exact hy
    · exact hy
/-- A count that a text tells. -/
theorem count_of (s : ByteArray) (hs : s.size ≤ 4000000) (w : World) (hE : Env w) :
    Calls Tryz.prog 32 #[.string s] w fun e w' => e = .returned (.tuple #[.int .i64 ((wholeS s.data.toList 0 262144).getD 0), .bool (wholeS s.data.toList 0 262144).isSome]) ∧ Below w.heap.size w w' := by
  have hw := whole_any s 0 262144 hs
  have hbd : 0 ≤ (wholeS s.data.toList 0 262144).getD 0 ∧ (wholeS s.data.toList 0 262144).getD 0 ≤ 262144 := by
    cases h : wholeS s.data.toList 0 262144 with
    | none => exact ⟨by decide, by decide⟩
    | some v => have := (wholeS_iff (by decide) (by decide)).1 h; exact ⟨this.1, this.2.1⟩
  generalize (wholeS s.data.toList 0 262144).getD 0 = v at *
  generalize (wholeS s.data.toList 0 262144).isSome = b at *
  have HW := Lib.hid hw
  have HE := Lib.hid hE
  obtain ⟨h0, h1⟩ := hbd
  clear hw hE
  go_enter Tryz.func32, Tryz.ntmps32
  go_wp2_with fail
  go_at_call 44
  refine (HW.out _ HE.out).mono ?_
  rintro e w1 ⟨rfl, hb1⟩
  go_wp2
  go_ret2
  exact ⟨rfl, hb1⟩
end Go.Proofs.YtgdkpamlkpncgabGreatDoor
