/-
  Package script: the reader: texts, signs, counts, arguments.
-/
import Derived.Test.YtgdkpamlkpncgabGreatDoorSwb
import Derived.Test.YtgdkpamlkpncgabGreatDoorKp0
import Derived.Deep.RegionHeld3
namespace Go.Proofs.YtgdkpamlkpncgabGreatDoor
open Go.RowKit
set_option linter.unusedVariables false
set_option linter.unusedSimpArgs false

/-- The reader at block rb. -/
def Rs (rb : Nat) (st : RSt) (w : World) : Prop := BoxAt w rb #[.string st.1, .bool st.2] 50
theorem Rs.lt {rb : Nat} {st : RSt} {w : World} (h : Rs rb st w) : rb < w.heap.size := BoxAt.lt h
theorem Rs.later {rb : Nat} {st : RSt} {w w' : World} (h : Rs rb st w) (g : Below w.heap.size w w') : Rs rb st w' := BoxAt.later h g
theorem Rs.alloc {rb : Nat} {st : RSt} {w : World} (h : Rs rb st w) (o : Obj) : Rs rb st (w.alloc o) := BoxAt.alloc h o
theorem Rs.drew {rb : Nat} {st : RSt} {w : World} (h : Rs rb st w) : Rs rb st w.drew := h
theorem Rs.c0 {rb : Nat} {st : RSt} {w : World} (h : Rs rb st w) : w.cell? ⟨rb, 0, none⟩ = some (.string st.1) := BoxAt.cell h 0
theorem Rs.c1 {rb : Nat} {st : RSt} {w : World} (h : Rs rb st w) : w.cell? ⟨rb, 1, none⟩ = some (.bool st.2) := BoxAt.cell h 1
theorem Rs.f {rb : Nat} {st : RSt} {w : World} (h : Rs rb st w) (o : Nat) : w.frozen? ⟨rb, o, none⟩ = false := Lib.frozen_of_heap h o
theorem Rs.set0 {rb : Nat} {r r' : ByteArray} {b : Bool} {w : World} (h : Rs rb (r, b) w) : Rs rb (r', b) (w.setCell ⟨rb, 0, none⟩ (.string r')) := by
  unfold Rs BoxAt at h ⊢
  simp [World.setCell, Array.getElem?_modify, h]
theorem Rs.set1 {rb : Nat} {r : ByteArray} {b b' : Bool} {w : World} (h : Rs rb (r, b) w) : Rs rb (r, b') (w.setCell ⟨rb, 1, none⟩ (.bool b')) := by
  unfold Rs BoxAt at h ⊢
  simp [World.setCell, Array.getElem?_modify, h]
theorem textR_le {r t r' : ByteArray} (h : textR r = some (t, r')) : r'.size < r.size ∧ t.size ≤ 262144 ∧ t.size ≤ r.size := by
  have := textR_iff.1 h
  have e := congrArg List.length this.1
  rw [List.length_append, size_data, size_data] at e
  have := encT_len t.data.toList
  rw [size_data] at this
  omega
/-- What a call of the reader's gives. -/
def GotT (B rb : Nat) (w : World) (v : Value) (st : RSt) (e : Ending) (w' : World) : Prop := e = .returned v ∧ Rs rb st w' ∧ Kp rb w w' ∧ EnvB B w'
theorem GotT.mk {B rb : Nat} {w w' : World} {v : Value} {st : RSt} {e : Ending} (he : e = .returned v) (hr : Rs rb st w') (hk : Kp rb w w') (hE : EnvB B w) (hB : B ≤ rb) : GotT B rb w v st e w' :=
  ⟨he, hr, hk, hE.step (hk.below.mono hB)⟩
def TextTo (B rb : Nat) (st : RSt) (x : ByteArray) (st' : RSt) : Prop := ∀ w, Rs rb st w → EnvB B w → Calls Tryz.prog 20 #[pt rb] w (GotT B rb w (.string x) st')
theorem text_failed {B rb : Nat} (hB : B ≤ rb) (r : ByteArray) : TextTo B rb (r, true) eS (r, true) := fun w hr hE => by
  have c1 := hr.c1
  have HR := Lib.hid hr
  have HE := Lib.hid hE
  dsimp only at c1
  clear hr hE
  unfold pt
  go_enter Tryz.func20, Tryz.ntmps20
  go_wp2
  go_ret
  exact .mk rfl HR.out (Kp.refl _ _) HE.out hB
def CutT (r a y : ByteArray) : Prop := ∀ w : World, Env w → Calls Tryz.prog 31 #[.string r, .string ⟨#[58]⟩] w fun e w' => (∃ b : Bool, e = .returned (.tuple #[.string a, .string y, .bool b])) ∧ Below w.heap.size w w'
theorem cutT (r : ByteArray) (hs : r.size ≤ 4000000) : CutT r ⟨(Lib.cut r.data.toList [58]).1.toArray⟩ ⟨(Lib.cut r.data.toList [58]).2.1.toArray⟩ := fun w hE => by
  refine (Tryz.strings_Cut_shaped r ⟨#[58]⟩ w hE.sh (by omega)).mono ?_
  rintro e w' ⟨rfl, n, rfl⟩
  exact ⟨⟨_, rfl⟩, below_drewN (Below.refl _ _) n⟩
def CountT (a : ByteArray) (v : Int) (b : Bool) : Prop := ∀ w, Env w → Calls Tryz.prog 32 #[.string a] w fun e w' => e = .returned (.tuple #[.int .i64 v, .bool b]) ∧ Below w.heap.size w w'
set_option maxHeartbeats 2000000 in
set_option maxRecDepth 100000 in
theorem text_nocount {B rb : Nat} (hB : B ≤ rb) {r a y : ByteArray} (hc : CutT r a y) (hn : CountT a 0 false) : TextTo B rb (r, false) eS (r, true) := fun w hr hE => by
  have c0 := hr.c0
  have c1 := hr.c1
  have f1 := hr.f 1
  have hlt := hr.lt
  have HR := Lib.hid hr
  have HE := Lib.hid hE
  have HC := Lib.hid hc
  have HN := Lib.hid hn
  dsimp only at c1 c0
  clear hr hE hc hn
  unfold pt
  go_enter Tryz.func20, Tryz.ntmps20
  go_wp2_with fail
  go_at_call 31
  refine (HC.out _ HE.out.env).mono ?_
  rintro e w1 ⟨⟨b, rfl⟩, hb1⟩
  have HE1 := Lib.hid (HE.out.later hb1)
  go_wp2_with fail
  go_at_call 32
  refine (HN.out _ HE1.out.env).mono ?_
  rintro e w2 ⟨rfl, hb2⟩
  have hb := Lib.hid (hb1.trans (hb2.mono hb1.size))
  have HR2 := Lib.hid (HR.out.later hb.out)
  have g1 := HR2.out.c1
  have k1 := HR2.out.f 1
  dsimp only at g1
  clear hb1 hb2
  go_wp2
  go_ret
  exact .mk rfl HR2.out.set1 ((Kp.of_below hb.out (by omega)).setCell 1 _) HE.out hB
set_option maxHeartbeats 2000000 in
set_option maxRecDepth 100000 in
theorem text_short {B rb : Nat} (hB : B ≤ rb) {r a y : ByteArray} {k : Nat} (hc : CutT r a y) (hn : CountT a k true) (hk : y.size ≤ k) (hy : y.size ≤ 4000000) (hk2 : k ≤ 262144) : TextTo B rb (r, false) eS (r, true) := fun w hr hE => by
  have c0 := hr.c0
  have c1 := hr.c1
  have f1 := hr.f 1
  have hlt := hr.lt
  have HR := Lib.hid hr
  have HE := Lib.hid hE
  have HC := Lib.hid hc
  have HN := Lib.hid hn
  dsimp only at c1 c0
  have d1 : decide ((y.size : Int) ≤ (k : Int)) = true := decide_eq_true (by omega)
  have d2 : (y.size : Int) ≤ (k : Int) := by omega
  clear hr hE hc hn
  unfold pt
  go_enter Tryz.func20, Tryz.ntmps20
  go_wp2_with fail
  go_at_call 31
  refine (HC.out _ HE.out.env).mono ?_
  rintro e w1 ⟨⟨b, rfl⟩, hb1⟩
  have HE1 := Lib.hid (HE.out.later hb1)
  go_wp2_with fail
  go_at_call 32
  refine (HN.out _ HE1.out.env).mono ?_
  rintro e w2 ⟨rfl, hb2⟩
  have hb := Lib.hid (hb1.trans (hb2.mono hb1.size))
  have HR2 := Lib.hid (HR.out.later hb.out)
  have g1 := HR2.out.c1
  have k1 := HR2.out.f 1
  dsimp only at g1
  clear hb1 hb2
  go_wp2
  go_ret
  exact .mk rfl HR2.out.set1 ((Kp.of_below hb.out (by omega)).setCell 1 _) HE.out hB
set_option maxHeartbeats 2000000 in
set_option maxRecDepth 100000 in
theorem text_there {B rb : Nat} (hB : B ≤ rb) {r a y : ByteArray} {k : Nat} (hc : CutT r a y) (hn : CountT a k true) (hk : k < y.size) (hy : y.size ≤ 4000000) (hk2 : k ≤ 262144) (b : Bool) (hb : b = (y[k].toNat != 44)) : TextTo B rb (r, false) (if b then eS else y.extract 0 k) (if b then (r, true) else (y.extract (k + 1) y.size, false)) := fun w hr hE => by
  have c0 := hr.c0
  have c1 := hr.c1
  have f1 := hr.f 1
  have hlt := hr.lt
  have HR := Lib.hid hr
  have HE := Lib.hid hE
  have HC := Lib.hid hc
  have HN := Lib.hid hn
  dsimp only at c1 c0
  have d1 : decide ((y.size : Int) ≤ (k : Int)) = false := decide_eq_false (by omega)
  have d2 : ¬ (y.size : Int) ≤ (k : Int) := by omega
  have d3 : (k : Int) < (y.size : Int) := by omega
  have d4 : (0 : Int) ≤ (k : Int) := by omega
  have d5 : (k : Int) ≤ 262144 := by omega
  have d6 : (y.size : Int) ≤ 4000000 := by omega
  have d7 : (0 : Int) ≤ (k : Int) + 1 := by omega
  have d8 : (k : Int) + 1 ≤ (y.size : Int) := by omega
  have hbi : (((y[k].toNat : Nat) : Int) != 44) = b := by
    rw [hb, Bool.eq_iff_iff, bne_iff_ne, bne_iff_ne]
    omega
  clear hr hE hc hn hb
  unfold pt
  cases b
  · go_enter Tryz.func20, Tryz.ntmps20
    go_wp2_with fail
    go_at_call 31
    refine (HC.out _ HE.out.env).mono ?_
    rintro e w1 ⟨⟨b, rfl⟩, hb1⟩
    have HE1 := Lib.hid (HE.out.later hb1)
    go_wp2_with fail
    go_at_call 32
    refine (HN.out _ HE1.out.env).mono ?_
    rintro e w2 ⟨rfl, hb2⟩
    have hb := Lib.hid (hb1.trans (hb2.mono hb1.size))
    have HR2 := Lib.hid (HR.out.later hb.out)
    have g1 := HR2.out.c1
    have k1 := HR2.out.f 1
    have g0 := HR2.out.c0
    have k0 := HR2.out.f 0
    dsimp only at g1 g0
    clear hb1 hb2
    go_wp2
    go_ret
    exact .mk rfl HR2.out.set0 ((Kp.of_below hb.out (by omega)).setCell 0 _) HE.out hB
  · go_enter Tryz.func20, Tryz.ntmps20
    go_wp2_with fail
    go_at_call 31
    refine (HC.out _ HE.out.env).mono ?_
    rintro e w1 ⟨⟨b, rfl⟩, hb1⟩
    have HE1 := Lib.hid (HE.out.later hb1)
    go_wp2_with fail
    go_at_call 32
    refine (HN.out _ HE1.out.env).mono ?_
    rintro e w2 ⟨rfl, hb2⟩
    have hb := Lib.hid (hb1.trans (hb2.mono hb1.size))
    have HR2 := Lib.hid (HR.out.later hb.out)
    have g1 := HR2.out.c1
    have k1 := HR2.out.f 1
    dsimp only at g1
    clear hb1 hb2
    go_wp2
    go_ret
    exact .mk rfl HR2.out.set1 ((Kp.of_below hb.out (by omega)).setCell 1 _) HE.out hB
theorem text_any {B rb : Nat} (hB : B ≤ rb) (st : RSt) (hs : st.1.size ≤ 4000000) : TextTo B rb st (textG st).1 (textG st).2 := by
  obtain ⟨r, f⟩ := st
  cases f
  case true => rw [textG_no]; exact text_failed hB r
  case false =>
    dsimp only at hs
    have hcut := cutT r hs
    have hle := cut_le r.data.toList [58]
    rw [size_data] at hle
    have hcn : CountT ⟨(Lib.cut r.data.toList [58]).1.toArray⟩ ((wholeS (Lib.cut r.data.toList [58]).1 0 262144).getD 0) (wholeS (Lib.cut r.data.toList [58]).1 0 262144).isSome :=
      fun w hE => count_of ⟨(Lib.cut r.data.toList [58]).1.toArray⟩ (by rw [size_mk]; omega) w hE
    unfold textG
    rw [if_neg (by simp)]
    dsimp only
    unfold textR
    generalize hx : (Lib.cut r.data.toList [58]).1 = x at *
    generalize hyl : (Lib.cut r.data.toList [58]).2.1 = y at *
    cases hn : wholeS x 0 262144 with
    | none =>
      rw [hn] at hcn
      exact text_nocount hB hcut hcn
    | some v =>
      rw [hn] at hcn
      have hv := (wholeS_iff (by decide) (by decide)).1 hn
      obtain ⟨k, rfl⟩ : ∃ k : Nat, v = k := ⟨v.toNat, by omega⟩
      dsimp only
      rw [Int.toNat_natCast]
      have hys : (⟨y.toArray⟩ : ByteArray).size = y.length := size_mk y
      by_cases hk : k < y.length
      · have ht := text_there hB hcut hcn (k := k) (by rw [hys]; exact hk) (by rw [hys]; omega) (by omega) _ rfl
        have he : (⟨y.toArray⟩ : ByteArray)[k]'(by rw [hys]; exact hk) = y[k] := rfl
        rw [he] at ht
        by_cases h44 : y[k] = 44
        · have hb : (y[k].toNat != 44) = false := by rw [h44]; rfl
          rw [hb, if_neg (by simp), if_neg (by simp)] at ht
          rw [if_pos ⟨hk, by rw [List.getElem?_eq_getElem hk, h44]⟩]
          have e1 : (⟨y.toArray⟩ : ByteArray).extract 0 k = ⟨(y.take k).toArray⟩ := bytes_eq (by rw [extract_take])
          have e2 : (⟨y.toArray⟩ : ByteArray).extract (k + 1) (⟨y.toArray⟩ : ByteArray).size = ⟨(y.drop (k + 1)).toArray⟩ := bytes_eq (by rw [extract_drop])
          rw [e1, e2] at ht
          exact ht
        · have hb : (y[k].toNat != 44) = true := by
            rw [bne_iff_ne]
            intro h
            exact h44 (UInt8.toNat_inj.1 h)
          rw [hb, if_pos rfl, if_pos rfl] at ht
          rw [if_neg (fun h => h44 (by have := h.2; rw [List.getElem?_eq_getElem hk] at this; exact Option.some.inj this))]
          exact ht
      · rw [if_neg (fun h => hk h.1)]
        exact text_short hB hcut hcn (by rw [hys]; omega) (by rw [hys]; omega) (by omega)
end Go.Proofs.YtgdkpamlkpncgabGreatDoor
