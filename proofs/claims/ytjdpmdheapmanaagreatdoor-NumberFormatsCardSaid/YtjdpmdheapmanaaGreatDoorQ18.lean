/-
  Several texts put together (part 18): what the law and the program call, walked; their contracts.
-/
import Derived.Test.YtjdpmdheapmanaaGreatDoorQ9
import Derived.Test.YtjdpmdheapmanaaGreatDoorQ10
import Derived.Test.YtjdpmdheapmanaaGreatDoorQ16
import Derived.Test.YtjdpmdheapmanaaGreatDoorQ11
import Derived.Test.YtjdpmdheapmanaaGreatDoorQ17
import Derived.Deep.RegionHeld3
import Derived.Lib.Atoi
import Derived.Test.YtjdpmdheapmanaaGreatDoorQ3
import Derived.Lib.SmallJoins
namespace Go.Proofs.YtjdpmdheapmanaaGreatDoor
open Go.RowKit
set_option linter.unusedVariables false
set_option linter.unusedSimpArgs false
structure HeldC (B a b : Nat) (ca cb : Array Value) (ta tb : TypeId) (w W : World) : Prop where
  a : BoxAt W a ca ta
  b : BoxAt W b cb tb
  bel : Below B w W
theorem HeldC.later {B a b : Nat} {ca cb : Array Value} {ta tb : TypeId} {w W W' : World} (h : HeldC B a b ca cb ta tb w W) (g : Below W.heap.size W W') (hB : B ≤ w.heap.size := by omega) : HeldC B a b ca cb ta tb w W' :=
  ⟨h.a.later g, h.b.later g, h.bel.trans (g.mono (Nat.le_trans hB h.bel.size))⟩
theorem HeldC.drew {B a b : Nat} {ca cb : Array Value} {ta tb : TypeId} {w W : World} (h : HeldC B a b ca cb ta tb w W) : HeldC B a b ca cb ta tb w W.drew := ⟨h.a, h.b, h.bel.drew⟩
theorem below_drewQ {B : Nat} {a w : World} (h : Below B a w) (n : Nat) : Below B a (w.drewN n) := ⟨h.os, h.tape, h.output, h.size, h.block⟩
theorem int_small (i : Nat) (hi : i < 100) (w : World) : Calls Tryz.prog 50 #[.int .i64 (i : Int)] w fun e w' => e = .returned (.agg #[.bool false, .string ⟨(Lib.decDigits i).toArray⟩, .int .i64 0]) ∧ Below w.heap.size w w' := by
  have hp : Lib.hasPrefix (Lib.decDigits i) [45] = false := by
    have := itoa_prefix (i : Int)
    unfold Lib.itoa at this
    rw [if_neg (by omega), Int.toNat_natCast] at this
    rw [this]
    exact decide_eq_false (by omega)
  have ht : Lib.trimPrefix (Lib.decDigits i) [45] = Lib.decDigits i := by unfold Lib.trimPrefix; rw [hp]; rfl
  go_enter Tryz.func50, Tryz.ntmps50
  go_wp2_with (first | (go_at_call 72; refine (Tryz.strconv_FormatInt_10_small i hi _).mono ?_; rintro e w1 ⟨rfl, rfl⟩) | (go_at_call 71; refine (Tryz.strings_CutPrefix _ _ _).mono ?_; rintro e w2 ⟨rfl, rfl⟩))
  exact bodyPost_ret (v := .agg #[.bool false, .string ⟨(Lib.decDigits i).toArray⟩, .int .i64 0]) (by simp [results, Tryz.results50, go_sem, hp, ht]) rfl ⟨rfl, (Below.refl _ _).alloc (Nat.le_refl _) _⟩
theorem dig_val {c : UInt8} (h : digB c = true) : Lib.digitVal c = some (c.toNat - 48) := by
  have := dig_le h
  unfold Lib.digitVal
  rw [if_pos (by omega)]
theorem decFrom_num : ∀ (l : List UInt8) (acc : Nat), l.all digB = true → Lib.decFrom acc l = some (acc * 10 ^ l.length + numL l)
  | [], acc, _ => by simp [Lib.decFrom, numL]
  | c :: l, acc, h => by
    rw [List.all_cons, Bool.and_eq_true] at h
    have ih := decFrom_num l (acc * 10 + (c.toNat - 48)) h.2
    simp only [Lib.decFrom, dig_val h.1]
    rw [ih]
    congr 1
    show _ = acc * 10 ^ (l.length + 1) + numL (c :: l)
    rw [numL, Nat.pow_succ, Nat.add_mul]
    have e : acc * 10 * 10 ^ l.length = acc * (10 ^ l.length * 10) := by rw [Nat.mul_assoc, Nat.mul_comm 10]
    rw [e, Nat.add_assoc]
theorem atoi_num {l : List UInt8} (h : l.all digB = true) (hne : l ≠ []) : Lib.atoi l = some (numL l : Int) := by
  cases l with
  | nil => exact absurd rfl hne
  | cons c r =>
    have hc := h
    rw [List.all_cons, Bool.and_eq_true] at hc
    have hd := dig_le hc.1
    have e1 : (c == 45) = false := by rw [beq_eq_false_iff_ne]; intro e; rw [e] at hd; exact absurd hd (by decide)
    have e2 : (c == 43) = false := by rw [beq_eq_false_iff_ne]; intro e; rw [e] at hd; exact absurd hd (by decide)
    have e3 := decFrom_num (c :: r) 0 h
    rw [Nat.zero_mul, Nat.zero_add] at e3
    unfold Lib.atoi
    simp only [e1, e2, Bool.false_eq_true, if_false]
    unfold Lib.decNat
    rw [e3]
    rfl
set_option maxHeartbeats 8000000 in
set_option maxRecDepth 100000 in
theorem count_a (n : Bool) (s s' : ByteArray) (k k' : Int) (w : World)
    (hT : ∀ W : World, Calls Tryz.prog 36 #[.agg #[.bool n, .string s, .int .i64 k], .int .i64 0] W fun e w' => e = .returned (.agg #[.bool n, .string s', .int .i64 k']) ∧ Below W.heap.size W w') (hk : k' ≠ 0) :
    Calls Tryz.prog 35 #[.agg #[.bool n, .string s, .int .i64 k]] w fun e w' => e = .returned (.tuple #[.int .i64 0, .bool false]) ∧ Below w.heap.size w w' := by
  have HT := Lib.hid hT
  have e1 : (k' != 0) = true := by simpa using hk
  clear hT hk
  go_enter Tryz.func35, Tryz.ntmps35
  go_wp2_with fail
  go_at_call 36
  refine (HT.out _).mono ?_
  rintro e w1 ⟨rfl, hb1⟩
  have S0 := Lib.hid (HeldC.mk (B := w.heap.size) (w := w) (((BoxAt.new w #[.bool n, .string s, .int .i64 k] 29).later hb1).alloc (.cells #[.bool n, .string s', .int .i64 k'] 29)) (BoxAt.new w1 #[.bool n, .string s', .int .i64 k'] 29) (below_new (below_box hb1) (Nat.le_refl _) (.cells #[.bool n, .string s', .int .i64 k'] 29)))
  clear hb1
  go_wp2_with fail
  refine wp_region_held_drew (S := HeldC w.heap.size w.heap.size w1.heap.size #[.bool n, .string s, .int .i64 k] #[.bool n, .string s', .int .i64 k'] 29 29 w) (by kernel_rfl) (S0.out.drew) (fun hHeld => ?_)
  refine wpAnyH_take (i := 0) (v := ?_) rfl (by kernel_rfl) (by kernel_rfl) (by kernel_rfl) (fun _ _ _ h => h) (Or.inl ⟨by kernel_rfl, ?_⟩) (by assumption) ?_
  rotate_left
  · intro w0 hSw
    have a0 : w0.cell? ⟨w.heap.size, 0, none⟩ = some (.bool n) := hSw.a.cell 0
    have a1 : w0.cell? ⟨w.heap.size, 1, none⟩ = some (.string s) := hSw.a.cell 1
    have a2 : w0.cell? ⟨w.heap.size, 2, none⟩ = some (.int .i64 k) := hSw.a.cell 2
    have d2 : w0.cell? ⟨w1.heap.size, 2, none⟩ = some (.int .i64 k') := hSw.b.cell 2
    (go_simp <;> with_reducible rfl)
  try simp only [Act.put, List.setIfInBounds_toArray, List.set_cons_zero, List.set_cons_succ, List.getElem_toArray, List.getElem_cons_zero, List.getElem_cons_succ]
  refine wpAnyH_take (i := 1) (v := ?_) rfl (by kernel_rfl) (by kernel_rfl) (by kernel_rfl) (fun _ _ _ h => h) (Or.inl ⟨by kernel_rfl, ?_⟩) (by assumption) ?_
  rotate_left
  · intro w0 hSw
    have a0 : w0.cell? ⟨w.heap.size, 0, none⟩ = some (.bool n) := hSw.a.cell 0
    have a1 : w0.cell? ⟨w.heap.size, 1, none⟩ = some (.string s) := hSw.a.cell 1
    have a2 : w0.cell? ⟨w.heap.size, 2, none⟩ = some (.int .i64 k) := hSw.a.cell 2
    have d2 : w0.cell? ⟨w1.heap.size, 2, none⟩ = some (.int .i64 k') := hSw.b.cell 2
    (go_simp <;> with_reducible rfl)
  try simp only [Act.put, List.setIfInBounds_toArray, List.set_cons_zero, List.set_cons_succ, List.getElem_toArray, List.getElem_cons_zero, List.getElem_cons_succ]
  refine wpAnyH_take (i := 2) (v := ?_) rfl (by kernel_rfl) (by kernel_rfl) (by kernel_rfl) (fun _ _ _ h => h) (Or.inl ⟨by kernel_rfl, ?_⟩) (by assumption) ?_
  rotate_left
  · intro w0 hSw
    have a0 : w0.cell? ⟨w.heap.size, 0, none⟩ = some (.bool n) := hSw.a.cell 0
    have a1 : w0.cell? ⟨w.heap.size, 1, none⟩ = some (.string s) := hSw.a.cell 1
    have a2 : w0.cell? ⟨w.heap.size, 2, none⟩ = some (.int .i64 k) := hSw.a.cell 2
    have d2 : w0.cell? ⟨w1.heap.size, 2, none⟩ = some (.int .i64 k') := hSw.b.cell 2
    (go_simp <;> with_reducible rfl)
  try simp only [Act.put, List.setIfInBounds_toArray, List.set_cons_zero, List.set_cons_succ, List.getElem_toArray, List.getElem_cons_zero, List.getElem_cons_succ]
  refine wpAnyH_take (i := 3) (v := ?_) rfl (by kernel_rfl) (by kernel_rfl) (by kernel_rfl) (fun _ _ _ h => h) (Or.inl ⟨by kernel_rfl, ?_⟩) (by assumption) ?_
  rotate_left
  · intro w0 hSw
    have a0 : w0.cell? ⟨w.heap.size, 0, none⟩ = some (.bool n) := hSw.a.cell 0
    have a1 : w0.cell? ⟨w.heap.size, 1, none⟩ = some (.string s) := hSw.a.cell 1
    have a2 : w0.cell? ⟨w.heap.size, 2, none⟩ = some (.int .i64 k) := hSw.a.cell 2
    have d2 : w0.cell? ⟨w1.heap.size, 2, none⟩ = some (.int .i64 k') := hSw.b.cell 2
    (go_simp <;> with_reducible rfl)
  try simp only [Act.put, List.setIfInBounds_toArray, List.set_cons_zero, List.set_cons_succ, List.getElem_toArray, List.getElem_cons_zero, List.getElem_cons_succ]
  refine wpAnyH_take (i := 4) (v := undef) rfl (by kernel_rfl) (by kernel_rfl) (by kernel_rfl) (fun _ _ _ h => h) (Or.inr ⟨by kernel_rfl, rfl⟩) (by assumption) ?_
  try simp only [Act.put, List.setIfInBounds_toArray, List.set_cons_zero, List.set_cons_succ, List.getElem_toArray, List.getElem_cons_zero, List.getElem_cons_succ]
  refine wpAnyH_take (i := 5) (v := undef) rfl (by kernel_rfl) (by kernel_rfl) (by kernel_rfl) (fun _ _ _ h => h) (Or.inr ⟨by kernel_rfl, rfl⟩) (by assumption) ?_
  try simp only [Act.put, List.setIfInBounds_toArray, List.set_cons_zero, List.set_cons_succ, List.getElem_toArray, List.getElem_cons_zero, List.getElem_cons_succ]
  refine wpAnyH_take (i := 6) (v := undef) rfl (by kernel_rfl) (by kernel_rfl) (by kernel_rfl) (fun _ _ _ h => h) (Or.inr ⟨by kernel_rfl, rfl⟩) (by assumption) ?_
  try simp only [Act.put, List.setIfInBounds_toArray, List.set_cons_zero, List.set_cons_succ, List.getElem_toArray, List.getElem_cons_zero, List.getElem_cons_succ]
  refine wpAnyH_take (i := 7) (v := undef) rfl (by kernel_rfl) (by kernel_rfl) (by kernel_rfl) (fun _ _ _ h => h) (Or.inr ⟨by kernel_rfl, rfl⟩) (by assumption) ?_
  try simp only [Act.put, List.setIfInBounds_toArray, List.set_cons_zero, List.set_cons_succ, List.getElem_toArray, List.getElem_cons_zero, List.getElem_cons_succ]
  refine wpAnyH_take (i := 8) (v := ?_) rfl (by kernel_rfl) (by kernel_rfl) (by kernel_rfl) (fun _ _ _ h => h) (Or.inl ⟨by kernel_rfl, ?_⟩) (by assumption) ?_
  rotate_left
  · intro w0 hSw
    have a0 : w0.cell? ⟨w.heap.size, 0, none⟩ = some (.bool n) := hSw.a.cell 0
    have a1 : w0.cell? ⟨w.heap.size, 1, none⟩ = some (.string s) := hSw.a.cell 1
    have a2 : w0.cell? ⟨w.heap.size, 2, none⟩ = some (.int .i64 k) := hSw.a.cell 2
    have d2 : w0.cell? ⟨w1.heap.size, 2, none⟩ = some (.int .i64 k') := hSw.b.cell 2
    (go_simp <;> with_reducible rfl)
  try simp only [Act.put, List.setIfInBounds_toArray, List.set_cons_zero, List.set_cons_succ, List.getElem_toArray, List.getElem_cons_zero, List.getElem_cons_succ]
  refine wpAnyH_take (i := 9) (v := ?_) rfl (by kernel_rfl) (by kernel_rfl) (by kernel_rfl) (fun _ _ _ h => h) (Or.inl ⟨by kernel_rfl, ?_⟩) (by assumption) ?_
  rotate_left
  · intro w0 hSw
    have a0 : w0.cell? ⟨w.heap.size, 0, none⟩ = some (.bool n) := hSw.a.cell 0
    have a1 : w0.cell? ⟨w.heap.size, 1, none⟩ = some (.string s) := hSw.a.cell 1
    have a2 : w0.cell? ⟨w.heap.size, 2, none⟩ = some (.int .i64 k) := hSw.a.cell 2
    have d2 : w0.cell? ⟨w1.heap.size, 2, none⟩ = some (.int .i64 k') := hSw.b.cell 2
    (go_simp <;> with_reducible rfl)
  try simp only [Act.put, List.setIfInBounds_toArray, List.set_cons_zero, List.set_cons_succ, List.getElem_toArray, List.getElem_cons_zero, List.getElem_cons_succ]
  refine wpAnyH_take (i := 10) (v := undef) rfl (by kernel_rfl) (by kernel_rfl) (by kernel_rfl) (fun _ _ _ h => h) (Or.inr ⟨by kernel_rfl, rfl⟩) (by assumption) ?_
  try simp only [Act.put, List.setIfInBounds_toArray, List.set_cons_zero, List.set_cons_succ, List.getElem_toArray, List.getElem_cons_zero, List.getElem_cons_succ]
  refine wpAnyH_take (i := 11) (v := undef) rfl (by kernel_rfl) (by kernel_rfl) (by kernel_rfl) (fun _ _ _ h => h) (Or.inr ⟨by kernel_rfl, rfl⟩) (by assumption) ?_
  try simp only [Act.put, List.setIfInBounds_toArray, List.set_cons_zero, List.set_cons_succ, List.getElem_toArray, List.getElem_cons_zero, List.getElem_cons_succ]
  refine wpAnyH_take (i := 12) (v := undef) rfl (by kernel_rfl) (by kernel_rfl) (by kernel_rfl) (fun _ _ _ h => h) (Or.inr ⟨by kernel_rfl, rfl⟩) (by assumption) ?_
  try simp only [Act.put, List.setIfInBounds_toArray, List.set_cons_zero, List.set_cons_succ, List.getElem_toArray, List.getElem_cons_zero, List.getElem_cons_succ]
  refine wpAnyH_take (i := 13) (v := undef) rfl (by kernel_rfl) (by kernel_rfl) (by kernel_rfl) (fun _ _ _ h => h) (Or.inr ⟨by kernel_rfl, rfl⟩) (by assumption) ?_
  try simp only [Act.put, List.setIfInBounds_toArray, List.set_cons_zero, List.set_cons_succ, List.getElem_toArray, List.getElem_cons_zero, List.getElem_cons_succ]
  refine wpAnyH_take (i := 14) (v := ?_) rfl (by kernel_rfl) (by kernel_rfl) (by kernel_rfl) (fun _ _ _ h => h) (Or.inl ⟨by kernel_rfl, ?_⟩) (by assumption) ?_
  rotate_left
  · intro w0 hSw
    have a0 : w0.cell? ⟨w.heap.size, 0, none⟩ = some (.bool n) := hSw.a.cell 0
    have a1 : w0.cell? ⟨w.heap.size, 1, none⟩ = some (.string s) := hSw.a.cell 1
    have a2 : w0.cell? ⟨w.heap.size, 2, none⟩ = some (.int .i64 k) := hSw.a.cell 2
    have d2 : w0.cell? ⟨w1.heap.size, 2, none⟩ = some (.int .i64 k') := hSw.b.cell 2
    (go_simp <;> with_reducible rfl)
  try simp only [Act.put, List.setIfInBounds_toArray, List.set_cons_zero, List.set_cons_succ, List.getElem_toArray, List.getElem_cons_zero, List.getElem_cons_succ]
  refine wpAnyH_done (by kernel_rfl) ?_ _
  have hS := hHeld
  clear hHeld
  go_wp2
  go_ret2
  exact ⟨rfl, hS.bel⟩
set_option maxHeartbeats 8000000 in
set_option maxRecDepth 100000 in
theorem count_b (n : Bool) (s s' S0' : ByteArray) (k c0 : Int) (w : World)
    (hT : ∀ W : World, Calls Tryz.prog 36 #[.agg #[.bool n, .string s, .int .i64 k], .int .i64 0] W fun e w' => e = .returned (.agg #[.bool n, .string s', .int .i64 0]) ∧ Below W.heap.size W w')
    (hI0 : ∀ W : World, Calls Tryz.prog 50 #[.int .i64 0] W fun e w' => e = .returned (.agg #[.bool false, .string S0', .int .i64 0]) ∧ Below W.heap.size W w')
    (hC0 : ∀ W : World, Calls Tryz.prog 49 #[.agg #[.bool n, .string s, .int .i64 k], .agg #[.bool false, .string S0', .int .i64 0]] W fun e w' => e = .returned (.int .i64 c0) ∧ Below W.heap.size W w') (hc : c0 < 0) :
    Calls Tryz.prog 35 #[.agg #[.bool n, .string s, .int .i64 k]] w fun e w' => e = .returned (.tuple #[.int .i64 0, .bool false]) ∧ Below w.heap.size w w' := by
  have HT := Lib.hid hT
  have HI0 := Lib.hid hI0
  have HC0 := Lib.hid hC0
  have e1 : decide (c0 < 0) = true := decide_eq_true hc
  clear hT hI0 hC0
  go_enter Tryz.func35, Tryz.ntmps35
  go_wp2_with fail
  go_at_call 36
  refine (HT.out _).mono ?_
  rintro e w1 ⟨rfl, hb1⟩
  have S0 := Lib.hid (HeldC.mk (B := w.heap.size) (w := w) (((BoxAt.new w #[.bool n, .string s, .int .i64 k] 29).later hb1).alloc (.cells #[.bool n, .string s', .int .i64 0] 29)) (BoxAt.new w1 #[.bool n, .string s', .int .i64 0] 29) (below_new (below_box hb1) (Nat.le_refl _) (.cells #[.bool n, .string s', .int .i64 0] 29)))
  clear hb1
  go_wp2_with fail
  refine wp_region_held_drew (S := HeldC w.heap.size w.heap.size w1.heap.size #[.bool n, .string s, .int .i64 k] #[.bool n, .string s', .int .i64 0] 29 29 w) (by kernel_rfl) (S0.out.drew) (fun hHeld => ?_)
  refine wpAnyH_take (i := 0) (v := ?_) rfl (by kernel_rfl) (by kernel_rfl) (by kernel_rfl) (fun _ _ _ h => h) (Or.inl ⟨by kernel_rfl, ?_⟩) (by assumption) ?_
  rotate_left
  · intro w0 hSw
    have a0 : w0.cell? ⟨w.heap.size, 0, none⟩ = some (.bool n) := hSw.a.cell 0
    have a1 : w0.cell? ⟨w.heap.size, 1, none⟩ = some (.string s) := hSw.a.cell 1
    have a2 : w0.cell? ⟨w.heap.size, 2, none⟩ = some (.int .i64 k) := hSw.a.cell 2
    have d2 : w0.cell? ⟨w1.heap.size, 2, none⟩ = some (.int .i64 0) := hSw.b.cell 2
    (go_simp <;> with_reducible rfl)
  try simp only [Act.put, List.setIfInBounds_toArray, List.set_cons_zero, List.set_cons_succ, List.getElem_toArray, List.getElem_cons_zero, List.getElem_cons_succ]
  refine wpAnyH_take (i := 1) (v := ?_) rfl (by kernel_rfl) (by kernel_rfl) (by kernel_rfl) (fun _ _ _ h => h) (Or.inl ⟨by kernel_rfl, ?_⟩) (by assumption) ?_
  rotate_left
  · intro w0 hSw
    have a0 : w0.cell? ⟨w.heap.size, 0, none⟩ = some (.bool n) := hSw.a.cell 0
    have a1 : w0.cell? ⟨w.heap.size, 1, none⟩ = some (.string s) := hSw.a.cell 1
    have a2 : w0.cell? ⟨w.heap.size, 2, none⟩ = some (.int .i64 k) := hSw.a.cell 2
    have d2 : w0.cell? ⟨w1.heap.size, 2, none⟩ = some (.int .i64 0) := hSw.b.cell 2
    (go_simp <;> with_reducible rfl)
  try simp only [Act.put, List.setIfInBounds_toArray, List.set_cons_zero, List.set_cons_succ, List.getElem_toArray, List.getElem_cons_zero, List.getElem_cons_succ]
  refine wpAnyH_take (i := 2) (v := ?_) rfl (by kernel_rfl) (by kernel_rfl) (by kernel_rfl) (fun _ _ _ h => h) (Or.inl ⟨by kernel_rfl, ?_⟩) (by assumption) ?_
  rotate_left
  · intro w0 hSw
    have a0 : w0.cell? ⟨w.heap.size, 0, none⟩ = some (.bool n) := hSw.a.cell 0
    have a1 : w0.cell? ⟨w.heap.size, 1, none⟩ = some (.string s) := hSw.a.cell 1
    have a2 : w0.cell? ⟨w.heap.size, 2, none⟩ = some (.int .i64 k) := hSw.a.cell 2
    have d2 : w0.cell? ⟨w1.heap.size, 2, none⟩ = some (.int .i64 0) := hSw.b.cell 2
    (go_simp <;> with_reducible rfl)
  try simp only [Act.put, List.setIfInBounds_toArray, List.set_cons_zero, List.set_cons_succ, List.getElem_toArray, List.getElem_cons_zero, List.getElem_cons_succ]
  refine wpAnyH_take (i := 3) (v := ?_) rfl (by kernel_rfl) (by kernel_rfl) (by kernel_rfl) (fun _ _ _ h => h) (Or.inl ⟨by kernel_rfl, ?_⟩) (by assumption) ?_
  rotate_left
  · intro w0 hSw
    have a0 : w0.cell? ⟨w.heap.size, 0, none⟩ = some (.bool n) := hSw.a.cell 0
    have a1 : w0.cell? ⟨w.heap.size, 1, none⟩ = some (.string s) := hSw.a.cell 1
    have a2 : w0.cell? ⟨w.heap.size, 2, none⟩ = some (.int .i64 k) := hSw.a.cell 2
    have d2 : w0.cell? ⟨w1.heap.size, 2, none⟩ = some (.int .i64 0) := hSw.b.cell 2
    (go_simp <;> with_reducible rfl)
  try simp only [Act.put, List.setIfInBounds_toArray, List.set_cons_zero, List.set_cons_succ, List.getElem_toArray, List.getElem_cons_zero, List.getElem_cons_succ]
  refine wpAnyH_take (i := 4) (v := ?_) rfl (by kernel_rfl) (by kernel_rfl) (by kernel_rfl) (fun _ _ _ h => h) (Or.inl ⟨by kernel_rfl, ?_⟩) (by assumption) ?_
  rotate_left
  · intro w0 hSw
    have a0 : w0.cell? ⟨w.heap.size, 0, none⟩ = some (.bool n) := hSw.a.cell 0
    have a1 : w0.cell? ⟨w.heap.size, 1, none⟩ = some (.string s) := hSw.a.cell 1
    have a2 : w0.cell? ⟨w.heap.size, 2, none⟩ = some (.int .i64 k) := hSw.a.cell 2
    have d2 : w0.cell? ⟨w1.heap.size, 2, none⟩ = some (.int .i64 0) := hSw.b.cell 2
    (go_simp <;> with_reducible rfl)
  try simp only [Act.put, List.setIfInBounds_toArray, List.set_cons_zero, List.set_cons_succ, List.getElem_toArray, List.getElem_cons_zero, List.getElem_cons_succ]
  refine wpAnyH_ready (rs := [5]) (by kernel_rfl) (by simp) ?_
  refine AllReadyH.cons rfl (fun K hK => ?_) AllReadyH.nil
  go_simp
  go_at_call 50
  refine (HI0.out _).mono ?_
  rintro e x1 ⟨rfl, hbx⟩
  go_wp2_with fail
  refine hK.out _ _ (hHeld.later hbx) (fun hHeld2 => ?_)
  clear hHeld hbx hK K
  have hHeld := hHeld2
  clear hHeld2
  try simp only [Act.put, List.setIfInBounds_toArray, List.set_cons_zero, List.set_cons_succ, List.getElem_toArray, List.getElem_cons_zero, List.getElem_cons_succ]
  refine wpAnyH_ready (rs := [6]) (by kernel_rfl) (by simp) ?_
  refine AllReadyH.cons rfl (fun K hK => ?_) AllReadyH.nil
  go_simp
  go_at_call 49
  refine (HC0.out _).mono ?_
  rintro e x1 ⟨rfl, hbx⟩
  go_wp2_with fail
  refine hK.out _ _ (hHeld.later hbx) (fun hHeld2 => ?_)
  clear hHeld hbx hK K
  have hHeld := hHeld2
  clear hHeld2
  try simp only [Act.put, List.setIfInBounds_toArray, List.set_cons_zero, List.set_cons_succ, List.getElem_toArray, List.getElem_cons_zero, List.getElem_cons_succ]
  refine wpAnyH_take (i := 7) (v := ?_) rfl (by kernel_rfl) (by kernel_rfl) (by kernel_rfl) (fun _ _ _ h => h) (Or.inl ⟨by kernel_rfl, ?_⟩) (by assumption) ?_
  rotate_left
  · intro w0 hSw
    have a0 : w0.cell? ⟨w.heap.size, 0, none⟩ = some (.bool n) := hSw.a.cell 0
    have a1 : w0.cell? ⟨w.heap.size, 1, none⟩ = some (.string s) := hSw.a.cell 1
    have a2 : w0.cell? ⟨w.heap.size, 2, none⟩ = some (.int .i64 k) := hSw.a.cell 2
    have d2 : w0.cell? ⟨w1.heap.size, 2, none⟩ = some (.int .i64 0) := hSw.b.cell 2
    (go_simp <;> with_reducible rfl)
  try simp only [Act.put, List.setIfInBounds_toArray, List.set_cons_zero, List.set_cons_succ, List.getElem_toArray, List.getElem_cons_zero, List.getElem_cons_succ]
  refine wpAnyH_take (i := 8) (v := ?_) rfl (by kernel_rfl) (by kernel_rfl) (by kernel_rfl) (fun _ _ _ h => h) (Or.inl ⟨by kernel_rfl, ?_⟩) (by assumption) ?_
  rotate_left
  · intro w0 hSw
    have a0 : w0.cell? ⟨w.heap.size, 0, none⟩ = some (.bool n) := hSw.a.cell 0
    have a1 : w0.cell? ⟨w.heap.size, 1, none⟩ = some (.string s) := hSw.a.cell 1
    have a2 : w0.cell? ⟨w.heap.size, 2, none⟩ = some (.int .i64 k) := hSw.a.cell 2
    have d2 : w0.cell? ⟨w1.heap.size, 2, none⟩ = some (.int .i64 0) := hSw.b.cell 2
    (go_simp <;> with_reducible rfl)
  try simp only [Act.put, List.setIfInBounds_toArray, List.set_cons_zero, List.set_cons_succ, List.getElem_toArray, List.getElem_cons_zero, List.getElem_cons_succ]
  refine wpAnyH_take (i := 9) (v := ?_) rfl (by kernel_rfl) (by kernel_rfl) (by kernel_rfl) (fun _ _ _ h => h) (Or.inl ⟨by kernel_rfl, ?_⟩) (by assumption) ?_
  rotate_left
  · intro w0 hSw
    have a0 : w0.cell? ⟨w.heap.size, 0, none⟩ = some (.bool n) := hSw.a.cell 0
    have a1 : w0.cell? ⟨w.heap.size, 1, none⟩ = some (.string s) := hSw.a.cell 1
    have a2 : w0.cell? ⟨w.heap.size, 2, none⟩ = some (.int .i64 k) := hSw.a.cell 2
    have d2 : w0.cell? ⟨w1.heap.size, 2, none⟩ = some (.int .i64 0) := hSw.b.cell 2
    (go_simp <;> with_reducible rfl)
  try simp only [Act.put, List.setIfInBounds_toArray, List.set_cons_zero, List.set_cons_succ, List.getElem_toArray, List.getElem_cons_zero, List.getElem_cons_succ]
  refine wpAnyH_take (i := 10) (v := undef) rfl (by kernel_rfl) (by kernel_rfl) (by kernel_rfl) (fun _ _ _ h => h) (Or.inr ⟨by kernel_rfl, rfl⟩) (by assumption) ?_
  try simp only [Act.put, List.setIfInBounds_toArray, List.set_cons_zero, List.set_cons_succ, List.getElem_toArray, List.getElem_cons_zero, List.getElem_cons_succ]
  refine wpAnyH_take (i := 11) (v := undef) rfl (by kernel_rfl) (by kernel_rfl) (by kernel_rfl) (fun _ _ _ h => h) (Or.inr ⟨by kernel_rfl, rfl⟩) (by assumption) ?_
  try simp only [Act.put, List.setIfInBounds_toArray, List.set_cons_zero, List.set_cons_succ, List.getElem_toArray, List.getElem_cons_zero, List.getElem_cons_succ]
  refine wpAnyH_take (i := 12) (v := undef) rfl (by kernel_rfl) (by kernel_rfl) (by kernel_rfl) (fun _ _ _ h => h) (Or.inr ⟨by kernel_rfl, rfl⟩) (by assumption) ?_
  try simp only [Act.put, List.setIfInBounds_toArray, List.set_cons_zero, List.set_cons_succ, List.getElem_toArray, List.getElem_cons_zero, List.getElem_cons_succ]
  refine wpAnyH_take (i := 13) (v := undef) rfl (by kernel_rfl) (by kernel_rfl) (by kernel_rfl) (fun _ _ _ h => h) (Or.inr ⟨by kernel_rfl, rfl⟩) (by assumption) ?_
  try simp only [Act.put, List.setIfInBounds_toArray, List.set_cons_zero, List.set_cons_succ, List.getElem_toArray, List.getElem_cons_zero, List.getElem_cons_succ]
  refine wpAnyH_take (i := 14) (v := ?_) rfl (by kernel_rfl) (by kernel_rfl) (by kernel_rfl) (fun _ _ _ h => h) (Or.inl ⟨by kernel_rfl, ?_⟩) (by assumption) ?_
  rotate_left
  · intro w0 hSw
    have a0 : w0.cell? ⟨w.heap.size, 0, none⟩ = some (.bool n) := hSw.a.cell 0
    have a1 : w0.cell? ⟨w.heap.size, 1, none⟩ = some (.string s) := hSw.a.cell 1
    have a2 : w0.cell? ⟨w.heap.size, 2, none⟩ = some (.int .i64 k) := hSw.a.cell 2
    have d2 : w0.cell? ⟨w1.heap.size, 2, none⟩ = some (.int .i64 0) := hSw.b.cell 2
    (go_simp <;> with_reducible rfl)
  try simp only [Act.put, List.setIfInBounds_toArray, List.set_cons_zero, List.set_cons_succ, List.getElem_toArray, List.getElem_cons_zero, List.getElem_cons_succ]
  refine wpAnyH_done (by kernel_rfl) ?_ _
  have hS := hHeld
  clear hHeld
  go_wp2
  go_ret2
  exact ⟨rfl, hS.bel⟩
set_option maxHeartbeats 8000000 in
set_option maxRecDepth 100000 in
theorem count_c (n : Bool) (s s' S0' S1' : ByteArray) (k c0 c1 m : Int) (okc : Bool) (w : World)
    (hT : ∀ W : World, Calls Tryz.prog 36 #[.agg #[.bool n, .string s, .int .i64 k], .int .i64 0] W fun e w' => e = .returned (.agg #[.bool n, .string s', .int .i64 0]) ∧ Below W.heap.size W w')
    (hI0 : ∀ W : World, Calls Tryz.prog 50 #[.int .i64 0] W fun e w' => e = .returned (.agg #[.bool false, .string S0', .int .i64 0]) ∧ Below W.heap.size W w')
    (hC0 : ∀ W : World, Calls Tryz.prog 49 #[.agg #[.bool n, .string s, .int .i64 k], .agg #[.bool false, .string S0', .int .i64 0]] W fun e w' => e = .returned (.int .i64 c0) ∧ Below W.heap.size W w') (hc : ¬ c0 < 0)
    (hI1 : ∀ W : World, Calls Tryz.prog 50 #[.int .i64 20] W fun e w' => e = .returned (.agg #[.bool false, .string S1', .int .i64 0]) ∧ Below W.heap.size W w')
    (hC1 : ∀ W : World, Calls Tryz.prog 49 #[.agg #[.bool n, .string s, .int .i64 k], .agg #[.bool false, .string S1', .int .i64 0]] W fun e w' => e = .returned (.int .i64 c1) ∧ Below W.heap.size W w')
    (hok : okc = decide (¬ 0 < c1)) (hA : okc = true → ∀ W : World, Calls Tryz.prog 51 #[.string s'] W fun e w' => e = .returned (.tuple #[.int .i64 m, .nilIface]) ∧ Below W.heap.size W w') :
    Calls Tryz.prog 35 #[.agg #[.bool n, .string s, .int .i64 k]] w fun e w' => e = .returned (.tuple #[.int .i64 (if okc then m else 0), .bool okc]) ∧ Below w.heap.size w w' := by
  have HT := Lib.hid hT
  have HI0 := Lib.hid hI0
  have HC0 := Lib.hid hC0
  have HI1 := Lib.hid hI1
  have HC1 := Lib.hid hC1
  have e1 : decide (c0 < 0) = false := decide_eq_false hc
  have hc2 : ¬ c0 < 0 := hc
  have hA' := hA
  have HA := Lib.hid hA'
  clear hT hI0 hC0 hI1 hC1 hA hA' hc
  cases okc
  · have e2 : decide (0 < c1) = true := by
      have h : decide (¬ 0 < c1) = false := hok.symm
      simpa using h
    have hc3 : 0 < c1 := of_decide_eq_true e2
    clear hok
    go_enter Tryz.func35, Tryz.ntmps35
    go_wp2_with fail
    go_at_call 36
    refine (HT.out _).mono ?_
    rintro e w1 ⟨rfl, hb1⟩
    have S0 := Lib.hid (HeldC.mk (B := w.heap.size) (w := w) (((BoxAt.new w #[.bool n, .string s, .int .i64 k] 29).later hb1).alloc (.cells #[.bool n, .string s', .int .i64 0] 29)) (BoxAt.new w1 #[.bool n, .string s', .int .i64 0] 29) (below_new (below_box hb1) (Nat.le_refl _) (.cells #[.bool n, .string s', .int .i64 0] 29)))
    clear hb1
    go_wp2_with fail
    refine wp_region_held_drew (S := HeldC w.heap.size w.heap.size w1.heap.size #[.bool n, .string s, .int .i64 k] #[.bool n, .string s', .int .i64 0] 29 29 w) (by kernel_rfl) (S0.out.drew) (fun hHeld => ?_)
    refine wpAnyH_take (i := 0) (v := ?_) rfl (by kernel_rfl) (by kernel_rfl) (by kernel_rfl) (fun _ _ _ h => h) (Or.inl ⟨by kernel_rfl, ?_⟩) (by assumption) ?_
    rotate_left
    · intro w0 hSw
      have a0 : w0.cell? ⟨w.heap.size, 0, none⟩ = some (.bool n) := hSw.a.cell 0
      have a1 : w0.cell? ⟨w.heap.size, 1, none⟩ = some (.string s) := hSw.a.cell 1
      have a2 : w0.cell? ⟨w.heap.size, 2, none⟩ = some (.int .i64 k) := hSw.a.cell 2
      have d2 : w0.cell? ⟨w1.heap.size, 2, none⟩ = some (.int .i64 0) := hSw.b.cell 2
      (go_simp <;> with_reducible rfl)
    try simp only [Act.put, List.setIfInBounds_toArray, List.set_cons_zero, List.set_cons_succ, List.getElem_toArray, List.getElem_cons_zero, List.getElem_cons_succ]
    refine wpAnyH_take (i := 1) (v := ?_) rfl (by kernel_rfl) (by kernel_rfl) (by kernel_rfl) (fun _ _ _ h => h) (Or.inl ⟨by kernel_rfl, ?_⟩) (by assumption) ?_
    rotate_left
    · intro w0 hSw
      have a0 : w0.cell? ⟨w.heap.size, 0, none⟩ = some (.bool n) := hSw.a.cell 0
      have a1 : w0.cell? ⟨w.heap.size, 1, none⟩ = some (.string s) := hSw.a.cell 1
      have a2 : w0.cell? ⟨w.heap.size, 2, none⟩ = some (.int .i64 k) := hSw.a.cell 2
      have d2 : w0.cell? ⟨w1.heap.size, 2, none⟩ = some (.int .i64 0) := hSw.b.cell 2
      (go_simp <;> with_reducible rfl)
    try simp only [Act.put, List.setIfInBounds_toArray, List.set_cons_zero, List.set_cons_succ, List.getElem_toArray, List.getElem_cons_zero, List.getElem_cons_succ]
    refine wpAnyH_take (i := 2) (v := ?_) rfl (by kernel_rfl) (by kernel_rfl) (by kernel_rfl) (fun _ _ _ h => h) (Or.inl ⟨by kernel_rfl, ?_⟩) (by assumption) ?_
    rotate_left
    · intro w0 hSw
      have a0 : w0.cell? ⟨w.heap.size, 0, none⟩ = some (.bool n) := hSw.a.cell 0
      have a1 : w0.cell? ⟨w.heap.size, 1, none⟩ = some (.string s) := hSw.a.cell 1
      have a2 : w0.cell? ⟨w.heap.size, 2, none⟩ = some (.int .i64 k) := hSw.a.cell 2
      have d2 : w0.cell? ⟨w1.heap.size, 2, none⟩ = some (.int .i64 0) := hSw.b.cell 2
      (go_simp <;> with_reducible rfl)
    try simp only [Act.put, List.setIfInBounds_toArray, List.set_cons_zero, List.set_cons_succ, List.getElem_toArray, List.getElem_cons_zero, List.getElem_cons_succ]
    refine wpAnyH_take (i := 3) (v := ?_) rfl (by kernel_rfl) (by kernel_rfl) (by kernel_rfl) (fun _ _ _ h => h) (Or.inl ⟨by kernel_rfl, ?_⟩) (by assumption) ?_
    rotate_left
    · intro w0 hSw
      have a0 : w0.cell? ⟨w.heap.size, 0, none⟩ = some (.bool n) := hSw.a.cell 0
      have a1 : w0.cell? ⟨w.heap.size, 1, none⟩ = some (.string s) := hSw.a.cell 1
      have a2 : w0.cell? ⟨w.heap.size, 2, none⟩ = some (.int .i64 k) := hSw.a.cell 2
      have d2 : w0.cell? ⟨w1.heap.size, 2, none⟩ = some (.int .i64 0) := hSw.b.cell 2
      (go_simp <;> with_reducible rfl)
    try simp only [Act.put, List.setIfInBounds_toArray, List.set_cons_zero, List.set_cons_succ, List.getElem_toArray, List.getElem_cons_zero, List.getElem_cons_succ]
    refine wpAnyH_take (i := 4) (v := ?_) rfl (by kernel_rfl) (by kernel_rfl) (by kernel_rfl) (fun _ _ _ h => h) (Or.inl ⟨by kernel_rfl, ?_⟩) (by assumption) ?_
    rotate_left
    · intro w0 hSw
      have a0 : w0.cell? ⟨w.heap.size, 0, none⟩ = some (.bool n) := hSw.a.cell 0
      have a1 : w0.cell? ⟨w.heap.size, 1, none⟩ = some (.string s) := hSw.a.cell 1
      have a2 : w0.cell? ⟨w.heap.size, 2, none⟩ = some (.int .i64 k) := hSw.a.cell 2
      have d2 : w0.cell? ⟨w1.heap.size, 2, none⟩ = some (.int .i64 0) := hSw.b.cell 2
      (go_simp <;> with_reducible rfl)
    try simp only [Act.put, List.setIfInBounds_toArray, List.set_cons_zero, List.set_cons_succ, List.getElem_toArray, List.getElem_cons_zero, List.getElem_cons_succ]
    refine wpAnyH_ready (rs := [5]) (by kernel_rfl) (by simp) ?_
    refine AllReadyH.cons rfl (fun K hK => ?_) AllReadyH.nil
    go_simp
    go_at_call 50
    refine (HI0.out _).mono ?_
    rintro e x1 ⟨rfl, hbx⟩
    go_wp2_with fail
    refine hK.out _ _ (hHeld.later hbx) (fun hHeld2 => ?_)
    clear hHeld hbx hK K
    have hHeld := hHeld2
    clear hHeld2
    try simp only [Act.put, List.setIfInBounds_toArray, List.set_cons_zero, List.set_cons_succ, List.getElem_toArray, List.getElem_cons_zero, List.getElem_cons_succ]
    refine wpAnyH_ready (rs := [6]) (by kernel_rfl) (by simp) ?_
    refine AllReadyH.cons rfl (fun K hK => ?_) AllReadyH.nil
    go_simp
    go_at_call 49
    refine (HC0.out _).mono ?_
    rintro e x1 ⟨rfl, hbx⟩
    go_wp2_with fail
    refine hK.out _ _ (hHeld.later hbx) (fun hHeld2 => ?_)
    clear hHeld hbx hK K
    have hHeld := hHeld2
    clear hHeld2
    try simp only [Act.put, List.setIfInBounds_toArray, List.set_cons_zero, List.set_cons_succ, List.getElem_toArray, List.getElem_cons_zero, List.getElem_cons_succ]
    refine wpAnyH_take (i := 7) (v := ?_) rfl (by kernel_rfl) (by kernel_rfl) (by kernel_rfl) (fun _ _ _ h => h) (Or.inl ⟨by kernel_rfl, ?_⟩) (by assumption) ?_
    rotate_left
    · intro w0 hSw
      have a0 : w0.cell? ⟨w.heap.size, 0, none⟩ = some (.bool n) := hSw.a.cell 0
      have a1 : w0.cell? ⟨w.heap.size, 1, none⟩ = some (.string s) := hSw.a.cell 1
      have a2 : w0.cell? ⟨w.heap.size, 2, none⟩ = some (.int .i64 k) := hSw.a.cell 2
      have d2 : w0.cell? ⟨w1.heap.size, 2, none⟩ = some (.int .i64 0) := hSw.b.cell 2
      (go_simp <;> with_reducible rfl)
    try simp only [Act.put, List.setIfInBounds_toArray, List.set_cons_zero, List.set_cons_succ, List.getElem_toArray, List.getElem_cons_zero, List.getElem_cons_succ]
    refine wpAnyH_take (i := 8) (v := ?_) rfl (by kernel_rfl) (by kernel_rfl) (by kernel_rfl) (fun _ _ _ h => h) (Or.inl ⟨by kernel_rfl, ?_⟩) (by assumption) ?_
    rotate_left
    · intro w0 hSw
      have a0 : w0.cell? ⟨w.heap.size, 0, none⟩ = some (.bool n) := hSw.a.cell 0
      have a1 : w0.cell? ⟨w.heap.size, 1, none⟩ = some (.string s) := hSw.a.cell 1
      have a2 : w0.cell? ⟨w.heap.size, 2, none⟩ = some (.int .i64 k) := hSw.a.cell 2
      have d2 : w0.cell? ⟨w1.heap.size, 2, none⟩ = some (.int .i64 0) := hSw.b.cell 2
      (go_simp <;> with_reducible rfl)
    try simp only [Act.put, List.setIfInBounds_toArray, List.set_cons_zero, List.set_cons_succ, List.getElem_toArray, List.getElem_cons_zero, List.getElem_cons_succ]
    refine wpAnyH_take (i := 9) (v := ?_) rfl (by kernel_rfl) (by kernel_rfl) (by kernel_rfl) (fun _ _ _ h => h) (Or.inl ⟨by kernel_rfl, ?_⟩) (by assumption) ?_
    rotate_left
    · intro w0 hSw
      have a0 : w0.cell? ⟨w.heap.size, 0, none⟩ = some (.bool n) := hSw.a.cell 0
      have a1 : w0.cell? ⟨w.heap.size, 1, none⟩ = some (.string s) := hSw.a.cell 1
      have a2 : w0.cell? ⟨w.heap.size, 2, none⟩ = some (.int .i64 k) := hSw.a.cell 2
      have d2 : w0.cell? ⟨w1.heap.size, 2, none⟩ = some (.int .i64 0) := hSw.b.cell 2
      (go_simp <;> with_reducible rfl)
    try simp only [Act.put, List.setIfInBounds_toArray, List.set_cons_zero, List.set_cons_succ, List.getElem_toArray, List.getElem_cons_zero, List.getElem_cons_succ]
    refine wpAnyH_take (i := 10) (v := ?_) rfl (by kernel_rfl) (by kernel_rfl) (by kernel_rfl) (fun _ _ _ h => h) (Or.inl ⟨by kernel_rfl, ?_⟩) (by assumption) ?_
    rotate_left
    · intro w0 hSw
      have a0 : w0.cell? ⟨w.heap.size, 0, none⟩ = some (.bool n) := hSw.a.cell 0
      have a1 : w0.cell? ⟨w.heap.size, 1, none⟩ = some (.string s) := hSw.a.cell 1
      have a2 : w0.cell? ⟨w.heap.size, 2, none⟩ = some (.int .i64 k) := hSw.a.cell 2
      have d2 : w0.cell? ⟨w1.heap.size, 2, none⟩ = some (.int .i64 0) := hSw.b.cell 2
      (go_simp <;> with_reducible rfl)
    try simp only [Act.put, List.setIfInBounds_toArray, List.set_cons_zero, List.set_cons_succ, List.getElem_toArray, List.getElem_cons_zero, List.getElem_cons_succ]
    refine wpAnyH_ready (rs := [11]) (by kernel_rfl) (by simp) ?_
    refine AllReadyH.cons rfl (fun K hK => ?_) AllReadyH.nil
    go_simp
    go_at_call 50
    refine (HI1.out _).mono ?_
    rintro e x1 ⟨rfl, hbx⟩
    go_wp2_with fail
    refine hK.out _ _ (hHeld.later hbx) (fun hHeld2 => ?_)
    clear hHeld hbx hK K
    have hHeld := hHeld2
    clear hHeld2
    try simp only [Act.put, List.setIfInBounds_toArray, List.set_cons_zero, List.set_cons_succ, List.getElem_toArray, List.getElem_cons_zero, List.getElem_cons_succ]
    refine wpAnyH_ready (rs := [12]) (by kernel_rfl) (by simp) ?_
    refine AllReadyH.cons rfl (fun K hK => ?_) AllReadyH.nil
    go_simp
    go_at_call 49
    refine (HC1.out _).mono ?_
    rintro e x1 ⟨rfl, hbx⟩
    go_wp2_with fail
    refine hK.out _ _ (hHeld.later hbx) (fun hHeld2 => ?_)
    clear hHeld hbx hK K
    have hHeld := hHeld2
    clear hHeld2
    try simp only [Act.put, List.setIfInBounds_toArray, List.set_cons_zero, List.set_cons_succ, List.getElem_toArray, List.getElem_cons_zero, List.getElem_cons_succ]
    refine wpAnyH_take (i := 13) (v := ?_) rfl (by kernel_rfl) (by kernel_rfl) (by kernel_rfl) (fun _ _ _ h => h) (Or.inl ⟨by kernel_rfl, ?_⟩) (by assumption) ?_
    rotate_left
    · intro w0 hSw
      have a0 : w0.cell? ⟨w.heap.size, 0, none⟩ = some (.bool n) := hSw.a.cell 0
      have a1 : w0.cell? ⟨w.heap.size, 1, none⟩ = some (.string s) := hSw.a.cell 1
      have a2 : w0.cell? ⟨w.heap.size, 2, none⟩ = some (.int .i64 k) := hSw.a.cell 2
      have d2 : w0.cell? ⟨w1.heap.size, 2, none⟩ = some (.int .i64 0) := hSw.b.cell 2
      (go_simp <;> with_reducible rfl)
    try simp only [Act.put, List.setIfInBounds_toArray, List.set_cons_zero, List.set_cons_succ, List.getElem_toArray, List.getElem_cons_zero, List.getElem_cons_succ]
    refine wpAnyH_take (i := 14) (v := ?_) rfl (by kernel_rfl) (by kernel_rfl) (by kernel_rfl) (fun _ _ _ h => h) (Or.inl ⟨by kernel_rfl, ?_⟩) (by assumption) ?_
    rotate_left
    · intro w0 hSw
      have a0 : w0.cell? ⟨w.heap.size, 0, none⟩ = some (.bool n) := hSw.a.cell 0
      have a1 : w0.cell? ⟨w.heap.size, 1, none⟩ = some (.string s) := hSw.a.cell 1
      have a2 : w0.cell? ⟨w.heap.size, 2, none⟩ = some (.int .i64 k) := hSw.a.cell 2
      have d2 : w0.cell? ⟨w1.heap.size, 2, none⟩ = some (.int .i64 0) := hSw.b.cell 2
      (go_simp <;> with_reducible rfl)
    try simp only [Act.put, List.setIfInBounds_toArray, List.set_cons_zero, List.set_cons_succ, List.getElem_toArray, List.getElem_cons_zero, List.getElem_cons_succ]
    refine wpAnyH_done (by kernel_rfl) ?_ _
    have hS := hHeld
    clear hHeld
    go_wp2
    go_ret2
    exact ⟨rfl, hS.bel⟩
  · have e2 : decide (0 < c1) = false := by
      have h : decide (¬ 0 < c1) = true := hok.symm
      simpa using h
    have hc3 : ¬ 0 < c1 := of_decide_eq_false e2
    clear hok
    go_enter Tryz.func35, Tryz.ntmps35
    go_wp2_with fail
    go_at_call 36
    refine (HT.out _).mono ?_
    rintro e w1 ⟨rfl, hb1⟩
    have S0 := Lib.hid (HeldC.mk (B := w.heap.size) (w := w) (((BoxAt.new w #[.bool n, .string s, .int .i64 k] 29).later hb1).alloc (.cells #[.bool n, .string s', .int .i64 0] 29)) (BoxAt.new w1 #[.bool n, .string s', .int .i64 0] 29) (below_new (below_box hb1) (Nat.le_refl _) (.cells #[.bool n, .string s', .int .i64 0] 29)))
    clear hb1
    go_wp2_with fail
    refine wp_region_held_drew (S := HeldC w.heap.size w.heap.size w1.heap.size #[.bool n, .string s, .int .i64 k] #[.bool n, .string s', .int .i64 0] 29 29 w) (by kernel_rfl) (S0.out.drew) (fun hHeld => ?_)
    refine wpAnyH_take (i := 0) (v := ?_) rfl (by kernel_rfl) (by kernel_rfl) (by kernel_rfl) (fun _ _ _ h => h) (Or.inl ⟨by kernel_rfl, ?_⟩) (by assumption) ?_
    rotate_left
    · intro w0 hSw
      have a0 : w0.cell? ⟨w.heap.size, 0, none⟩ = some (.bool n) := hSw.a.cell 0
      have a1 : w0.cell? ⟨w.heap.size, 1, none⟩ = some (.string s) := hSw.a.cell 1
      have a2 : w0.cell? ⟨w.heap.size, 2, none⟩ = some (.int .i64 k) := hSw.a.cell 2
      have d2 : w0.cell? ⟨w1.heap.size, 2, none⟩ = some (.int .i64 0) := hSw.b.cell 2
      (go_simp <;> with_reducible rfl)
    try simp only [Act.put, List.setIfInBounds_toArray, List.set_cons_zero, List.set_cons_succ, List.getElem_toArray, List.getElem_cons_zero, List.getElem_cons_succ]
    refine wpAnyH_take (i := 1) (v := ?_) rfl (by kernel_rfl) (by kernel_rfl) (by kernel_rfl) (fun _ _ _ h => h) (Or.inl ⟨by kernel_rfl, ?_⟩) (by assumption) ?_
    rotate_left
    · intro w0 hSw
      have a0 : w0.cell? ⟨w.heap.size, 0, none⟩ = some (.bool n) := hSw.a.cell 0
      have a1 : w0.cell? ⟨w.heap.size, 1, none⟩ = some (.string s) := hSw.a.cell 1
      have a2 : w0.cell? ⟨w.heap.size, 2, none⟩ = some (.int .i64 k) := hSw.a.cell 2
      have d2 : w0.cell? ⟨w1.heap.size, 2, none⟩ = some (.int .i64 0) := hSw.b.cell 2
      (go_simp <;> with_reducible rfl)
    try simp only [Act.put, List.setIfInBounds_toArray, List.set_cons_zero, List.set_cons_succ, List.getElem_toArray, List.getElem_cons_zero, List.getElem_cons_succ]
    refine wpAnyH_take (i := 2) (v := ?_) rfl (by kernel_rfl) (by kernel_rfl) (by kernel_rfl) (fun _ _ _ h => h) (Or.inl ⟨by kernel_rfl, ?_⟩) (by assumption) ?_
    rotate_left
    · intro w0 hSw
      have a0 : w0.cell? ⟨w.heap.size, 0, none⟩ = some (.bool n) := hSw.a.cell 0
      have a1 : w0.cell? ⟨w.heap.size, 1, none⟩ = some (.string s) := hSw.a.cell 1
      have a2 : w0.cell? ⟨w.heap.size, 2, none⟩ = some (.int .i64 k) := hSw.a.cell 2
      have d2 : w0.cell? ⟨w1.heap.size, 2, none⟩ = some (.int .i64 0) := hSw.b.cell 2
      (go_simp <;> with_reducible rfl)
    try simp only [Act.put, List.setIfInBounds_toArray, List.set_cons_zero, List.set_cons_succ, List.getElem_toArray, List.getElem_cons_zero, List.getElem_cons_succ]
    refine wpAnyH_take (i := 3) (v := ?_) rfl (by kernel_rfl) (by kernel_rfl) (by kernel_rfl) (fun _ _ _ h => h) (Or.inl ⟨by kernel_rfl, ?_⟩) (by assumption) ?_
    rotate_left
    · intro w0 hSw
      have a0 : w0.cell? ⟨w.heap.size, 0, none⟩ = some (.bool n) := hSw.a.cell 0
      have a1 : w0.cell? ⟨w.heap.size, 1, none⟩ = some (.string s) := hSw.a.cell 1
      have a2 : w0.cell? ⟨w.heap.size, 2, none⟩ = some (.int .i64 k) := hSw.a.cell 2
      have d2 : w0.cell? ⟨w1.heap.size, 2, none⟩ = some (.int .i64 0) := hSw.b.cell 2
      (go_simp <;> with_reducible rfl)
    try simp only [Act.put, List.setIfInBounds_toArray, List.set_cons_zero, List.set_cons_succ, List.getElem_toArray, List.getElem_cons_zero, List.getElem_cons_succ]
    refine wpAnyH_take (i := 4) (v := ?_) rfl (by kernel_rfl) (by kernel_rfl) (by kernel_rfl) (fun _ _ _ h => h) (Or.inl ⟨by kernel_rfl, ?_⟩) (by assumption) ?_
    rotate_left
    · intro w0 hSw
      have a0 : w0.cell? ⟨w.heap.size, 0, none⟩ = some (.bool n) := hSw.a.cell 0
      have a1 : w0.cell? ⟨w.heap.size, 1, none⟩ = some (.string s) := hSw.a.cell 1
      have a2 : w0.cell? ⟨w.heap.size, 2, none⟩ = some (.int .i64 k) := hSw.a.cell 2
      have d2 : w0.cell? ⟨w1.heap.size, 2, none⟩ = some (.int .i64 0) := hSw.b.cell 2
      (go_simp <;> with_reducible rfl)
    try simp only [Act.put, List.setIfInBounds_toArray, List.set_cons_zero, List.set_cons_succ, List.getElem_toArray, List.getElem_cons_zero, List.getElem_cons_succ]
    refine wpAnyH_ready (rs := [5]) (by kernel_rfl) (by simp) ?_
    refine AllReadyH.cons rfl (fun K hK => ?_) AllReadyH.nil
    go_simp
    go_at_call 50
    refine (HI0.out _).mono ?_
    rintro e x1 ⟨rfl, hbx⟩
    go_wp2_with fail
    refine hK.out _ _ (hHeld.later hbx) (fun hHeld2 => ?_)
    clear hHeld hbx hK K
    have hHeld := hHeld2
    clear hHeld2
    try simp only [Act.put, List.setIfInBounds_toArray, List.set_cons_zero, List.set_cons_succ, List.getElem_toArray, List.getElem_cons_zero, List.getElem_cons_succ]
    refine wpAnyH_ready (rs := [6]) (by kernel_rfl) (by simp) ?_
    refine AllReadyH.cons rfl (fun K hK => ?_) AllReadyH.nil
    go_simp
    go_at_call 49
    refine (HC0.out _).mono ?_
    rintro e x1 ⟨rfl, hbx⟩
    go_wp2_with fail
    refine hK.out _ _ (hHeld.later hbx) (fun hHeld2 => ?_)
    clear hHeld hbx hK K
    have hHeld := hHeld2
    clear hHeld2
    try simp only [Act.put, List.setIfInBounds_toArray, List.set_cons_zero, List.set_cons_succ, List.getElem_toArray, List.getElem_cons_zero, List.getElem_cons_succ]
    refine wpAnyH_take (i := 7) (v := ?_) rfl (by kernel_rfl) (by kernel_rfl) (by kernel_rfl) (fun _ _ _ h => h) (Or.inl ⟨by kernel_rfl, ?_⟩) (by assumption) ?_
    rotate_left
    · intro w0 hSw
      have a0 : w0.cell? ⟨w.heap.size, 0, none⟩ = some (.bool n) := hSw.a.cell 0
      have a1 : w0.cell? ⟨w.heap.size, 1, none⟩ = some (.string s) := hSw.a.cell 1
      have a2 : w0.cell? ⟨w.heap.size, 2, none⟩ = some (.int .i64 k) := hSw.a.cell 2
      have d2 : w0.cell? ⟨w1.heap.size, 2, none⟩ = some (.int .i64 0) := hSw.b.cell 2
      (go_simp <;> with_reducible rfl)
    try simp only [Act.put, List.setIfInBounds_toArray, List.set_cons_zero, List.set_cons_succ, List.getElem_toArray, List.getElem_cons_zero, List.getElem_cons_succ]
    refine wpAnyH_take (i := 8) (v := ?_) rfl (by kernel_rfl) (by kernel_rfl) (by kernel_rfl) (fun _ _ _ h => h) (Or.inl ⟨by kernel_rfl, ?_⟩) (by assumption) ?_
    rotate_left
    · intro w0 hSw
      have a0 : w0.cell? ⟨w.heap.size, 0, none⟩ = some (.bool n) := hSw.a.cell 0
      have a1 : w0.cell? ⟨w.heap.size, 1, none⟩ = some (.string s) := hSw.a.cell 1
      have a2 : w0.cell? ⟨w.heap.size, 2, none⟩ = some (.int .i64 k) := hSw.a.cell 2
      have d2 : w0.cell? ⟨w1.heap.size, 2, none⟩ = some (.int .i64 0) := hSw.b.cell 2
      (go_simp <;> with_reducible rfl)
    try simp only [Act.put, List.setIfInBounds_toArray, List.set_cons_zero, List.set_cons_succ, List.getElem_toArray, List.getElem_cons_zero, List.getElem_cons_succ]
    refine wpAnyH_take (i := 9) (v := ?_) rfl (by kernel_rfl) (by kernel_rfl) (by kernel_rfl) (fun _ _ _ h => h) (Or.inl ⟨by kernel_rfl, ?_⟩) (by assumption) ?_
    rotate_left
    · intro w0 hSw
      have a0 : w0.cell? ⟨w.heap.size, 0, none⟩ = some (.bool n) := hSw.a.cell 0
      have a1 : w0.cell? ⟨w.heap.size, 1, none⟩ = some (.string s) := hSw.a.cell 1
      have a2 : w0.cell? ⟨w.heap.size, 2, none⟩ = some (.int .i64 k) := hSw.a.cell 2
      have d2 : w0.cell? ⟨w1.heap.size, 2, none⟩ = some (.int .i64 0) := hSw.b.cell 2
      (go_simp <;> with_reducible rfl)
    try simp only [Act.put, List.setIfInBounds_toArray, List.set_cons_zero, List.set_cons_succ, List.getElem_toArray, List.getElem_cons_zero, List.getElem_cons_succ]
    refine wpAnyH_take (i := 10) (v := ?_) rfl (by kernel_rfl) (by kernel_rfl) (by kernel_rfl) (fun _ _ _ h => h) (Or.inl ⟨by kernel_rfl, ?_⟩) (by assumption) ?_
    rotate_left
    · intro w0 hSw
      have a0 : w0.cell? ⟨w.heap.size, 0, none⟩ = some (.bool n) := hSw.a.cell 0
      have a1 : w0.cell? ⟨w.heap.size, 1, none⟩ = some (.string s) := hSw.a.cell 1
      have a2 : w0.cell? ⟨w.heap.size, 2, none⟩ = some (.int .i64 k) := hSw.a.cell 2
      have d2 : w0.cell? ⟨w1.heap.size, 2, none⟩ = some (.int .i64 0) := hSw.b.cell 2
      (go_simp <;> with_reducible rfl)
    try simp only [Act.put, List.setIfInBounds_toArray, List.set_cons_zero, List.set_cons_succ, List.getElem_toArray, List.getElem_cons_zero, List.getElem_cons_succ]
    refine wpAnyH_ready (rs := [11]) (by kernel_rfl) (by simp) ?_
    refine AllReadyH.cons rfl (fun K hK => ?_) AllReadyH.nil
    go_simp
    go_at_call 50
    refine (HI1.out _).mono ?_
    rintro e x1 ⟨rfl, hbx⟩
    go_wp2_with fail
    refine hK.out _ _ (hHeld.later hbx) (fun hHeld2 => ?_)
    clear hHeld hbx hK K
    have hHeld := hHeld2
    clear hHeld2
    try simp only [Act.put, List.setIfInBounds_toArray, List.set_cons_zero, List.set_cons_succ, List.getElem_toArray, List.getElem_cons_zero, List.getElem_cons_succ]
    refine wpAnyH_ready (rs := [12]) (by kernel_rfl) (by simp) ?_
    refine AllReadyH.cons rfl (fun K hK => ?_) AllReadyH.nil
    go_simp
    go_at_call 49
    refine (HC1.out _).mono ?_
    rintro e x1 ⟨rfl, hbx⟩
    go_wp2_with fail
    refine hK.out _ _ (hHeld.later hbx) (fun hHeld2 => ?_)
    clear hHeld hbx hK K
    have hHeld := hHeld2
    clear hHeld2
    try simp only [Act.put, List.setIfInBounds_toArray, List.set_cons_zero, List.set_cons_succ, List.getElem_toArray, List.getElem_cons_zero, List.getElem_cons_succ]
    refine wpAnyH_take (i := 13) (v := ?_) rfl (by kernel_rfl) (by kernel_rfl) (by kernel_rfl) (fun _ _ _ h => h) (Or.inl ⟨by kernel_rfl, ?_⟩) (by assumption) ?_
    rotate_left
    · intro w0 hSw
      have a0 : w0.cell? ⟨w.heap.size, 0, none⟩ = some (.bool n) := hSw.a.cell 0
      have a1 : w0.cell? ⟨w.heap.size, 1, none⟩ = some (.string s) := hSw.a.cell 1
      have a2 : w0.cell? ⟨w.heap.size, 2, none⟩ = some (.int .i64 k) := hSw.a.cell 2
      have d2 : w0.cell? ⟨w1.heap.size, 2, none⟩ = some (.int .i64 0) := hSw.b.cell 2
      (go_simp <;> with_reducible rfl)
    try simp only [Act.put, List.setIfInBounds_toArray, List.set_cons_zero, List.set_cons_succ, List.getElem_toArray, List.getElem_cons_zero, List.getElem_cons_succ]
    refine wpAnyH_take (i := 14) (v := ?_) rfl (by kernel_rfl) (by kernel_rfl) (by kernel_rfl) (fun _ _ _ h => h) (Or.inl ⟨by kernel_rfl, ?_⟩) (by assumption) ?_
    rotate_left
    · intro w0 hSw
      have a0 : w0.cell? ⟨w.heap.size, 0, none⟩ = some (.bool n) := hSw.a.cell 0
      have a1 : w0.cell? ⟨w.heap.size, 1, none⟩ = some (.string s) := hSw.a.cell 1
      have a2 : w0.cell? ⟨w.heap.size, 2, none⟩ = some (.int .i64 k) := hSw.a.cell 2
      have d2 : w0.cell? ⟨w1.heap.size, 2, none⟩ = some (.int .i64 0) := hSw.b.cell 2
      (go_simp <;> with_reducible rfl)
    try simp only [Act.put, List.setIfInBounds_toArray, List.set_cons_zero, List.set_cons_succ, List.getElem_toArray, List.getElem_cons_zero, List.getElem_cons_succ]
    refine wpAnyH_done (by kernel_rfl) ?_ _
    have hS := hHeld
    clear hHeld
    have q1 := hS.b.cell 1
    have z1 := hS.b.lt
    simp only [List.getElem?_toArray, List.getElem?_cons_zero, List.getElem?_cons_succ] at q1
    have HS := Lib.hid hS
    clear hS
    go_wp2_with fail
    go_at_call 51
    refine (HA.out (by first | trivial | rfl) _).mono ?_
    rintro e w3 ⟨rfl, hb3⟩
    go_wp2_with fail
    go_quiet (fail)
    go_wp2
    go_ret2
    exact ⟨rfl, below_drewQ (HS.out.later hb3).bel _⟩
end Go.Proofs.YtjdpmdheapmanaaGreatDoor

namespace Go.Proofs.YtjdpmdheapmanaaGreatDoor
open Go.RowKit
set_option linter.unusedVariables false
set_option linter.unusedSimpArgs false
theorem dec0 : Lib.decDigits 0 = [48] := by rw [Lib.decDigits, dif_pos (by decide)]; rfl
theorem dec20 : Lib.decDigits 20 = [50, 48] := by
  rw [Lib.decDigits, dif_neg (by decide), Lib.decDigits, dif_pos (by decide)]
  rfl
def cntK (l : List UInt8) (k : Nat) : Nat := if 0 < k then k - trimZ l k 0 else k
def cntOk (n : Bool) (l : List UInt8) (k : Nat) : Bool := decide (cntK l k = 0) && (!decide (decC n l k false [48] 0 < 0) && decide (¬ 0 < decC n l k false [50, 48] 0))
def cntC (n : Bool) (l : List UInt8) (k : Nat) : Int := if cntOk n l k then (numL (l.take (l.length - k)) : Int) else 0
theorem twenty_digs : ([50, 48] : List UInt8).all digB = true := by decide
theorem cnt_le {n : Bool} {l : List UInt8} {k : Nat} (hN : Num l k) (h : cntOk n l k = true) : numL (l.take (l.length - k)) ≤ 20 := by
  unfold cntOk at h
  rw [Bool.and_eq_true, Bool.and_eq_true] at h
  obtain ⟨_, h1, h2⟩ := h
  have hlt := hN.lt
  rw [decC_num n false l [48] k 0 hN.digs (by decide) (by omega) (by decide)] at h1
  rw [decC_num n false l [50, 48] k 0 hN.digs twenty_digs (by omega) (by decide)] at h2
  have e1 : numL [48] = 0 := by decide
  have e2 : numL [50, 48] = 20 := by decide
  rw [e1] at h1
  rw [e2] at h2
  have h2 := of_decide_eq_true h2
  have h1 : ¬ cmpZ (sv n (numL l * 10 ^ 0)) (sv false (0 * 10 ^ k)) < 0 := by simpa using h1
  rw [Nat.pow_zero, Nat.mul_one] at h1 h2
  have h3 : sv n (numL l) ≤ sv false (20 * 10 ^ k) := by
    rw [← cmpZ_le]
    omega
  have h4 : ¬ sv n (numL l) < sv false (0 * 10 ^ k) := by
    intro hlt
    apply h1
    unfold cmpZ
    rw [if_pos hlt]
    decide
  rw [Nat.zero_mul] at h4
  have h5 : numL l ≤ 20 * 10 ^ k := by
    unfold sv at h3 h4
    cases n
    · simp only [Bool.false_eq_true, if_false] at h3
      exact Int.ofNat_le.1 h3
    · simp at h4
      omega
  have hc := numL_cut l k (by omega)
  have h6 : numL (l.take (l.length - k)) * 10 ^ k ≤ 20 * 10 ^ k := by omega
  exact Nat.le_of_mul_le_mul_right h6 (ten_pos k)
theorem cnt_short {n : Bool} {l : List UInt8} {k : Nat} (hN : Num l k) (h : cntOk n l k = true) : (l.take (l.length - k)).length ≤ 18 ∧ l.take (l.length - k) ≠ [] := by
  have hlt := hN.lt
  have hle := cnt_le hN h
  have hlen : (l.take (l.length - k)).length = l.length - k := by rw [List.length_take]; omega
  have hne : l.take (l.length - k) ≠ [] := by intro e; rw [e] at hlen; simp at hlen; omega
  refine ⟨?_, hne⟩
  rcases hN.head with hh | hh
  · have hp := head_pow (l := l.take (l.length - k)) (List.all_eq_true.2 fun c hc => List.all_eq_true.1 hN.digs c (List.mem_of_mem_take hc)) (by
      intro e
      apply hh
      cases l with
      | nil => simp at hlt
      | cons c r =>
        rw [show (c :: r).length - k = ((c :: r).length - k - 1) + 1 by omega, List.take_succ_cons] at e
        exact e) hne
    apply Nat.le_of_not_lt
    intro hgt
    have h1 : (10 : Nat) ^ 2 ≤ 10 ^ ((l.take (l.length - k)).length - 1) := Nat.pow_le_pow_right (by decide) (by omega)
    have h2 : (10 : Nat) ^ 2 = 100 := by decide
    omega
  · rw [hlen]; omega
theorem cntC_bd {n : Bool} {l : List UInt8} {k : Nat} (hN : Num l k) : 0 ≤ cntC n l k ∧ cntC n l k ≤ 20 := by
  unfold cntC
  split
  · rename_i h
    have := cnt_le hN h
    omega
  · omega
theorem atoi_any {s : ByteArray} (h : s.data.toList.all digB = true) (hne : s.data.toList ≠ []) (hl : s.size ≤ 18) (W : World) : Calls Tryz.prog 51 #[.string s] W fun e w' => e = .returned (.tuple #[.int .i64 (numL s.data.toList : Int), .nilIface]) ∧ Below W.heap.size W w' := by
  refine (Tryz.strconv_Atoi s (numL s.data.toList : Int) hl (atoi_num h hne) W).mono ?_
  rintro e w' ⟨h, x, rfl⟩
  exact ⟨h, Joins.below_bytesWorld _ _ _ _ (Nat.le_refl _)⟩
theorem count_any (n : Bool) (s : ByteArray) (k : Nat) (w : World) (hN : Num s.data.toList k) :
    Calls Tryz.prog 35 #[.agg #[.bool n, .string s, .int .i64 (k : Int)]] w fun e w' => e = .returned (.tuple #[.int .i64 (cntC n s.data.toList k), .bool (cntOk n s.data.toList k)]) ∧ Below w.heap.size w w' := by
  have hlt := hN.lt
  have hle := hN.le
  rw [size_data] at hlt hle
  have hT0 := fun W => trim_any n s k 0 0 W (by omega) (by omega) (by decide)
  have hI0 : ∀ W : World, Calls Tryz.prog 50 #[.int .i64 0] W fun e w' => e = .returned (.agg #[.bool false, .string ⟨#[48]⟩, .int .i64 0]) ∧ Below W.heap.size W w' := fun W => by
    have h := int_small 0 (by decide) W
    rw [dec0] at h
    exact h
  have hI1 : ∀ W : World, Calls Tryz.prog 50 #[.int .i64 20] W fun e w' => e = .returned (.agg #[.bool false, .string ⟨#[50, 48]⟩, .int .i64 0]) ∧ Below W.heap.size W w' := fun W => by
    have h := int_small 20 (by decide) W
    rw [dec20] at h
    exact h
  have hC0 := fun W => compare_any n false s ⟨#[48]⟩ k 0 W (by unfold maxLen; omega) (by decide) (by omega) (by decide)
  have hC1 := fun W => compare_any n false s ⟨#[50, 48]⟩ k 0 W (by unfold maxLen; omega) (by decide) (by omega) (by decide)
  have hT : ∃ s', (∀ W : World, Calls Tryz.prog 36 #[.agg #[.bool n, .string s, .int .i64 (k : Int)], .int .i64 0] W fun e w' => e = .returned (.agg #[.bool n, .string s', .int .i64 (cntK s.data.toList k : Nat)]) ∧ Below W.heap.size W w') ∧ (cntK s.data.toList k = 0 → s'.data.toList = s.data.toList.take (s.data.toList.length - k)) := by
    by_cases h0 : 0 < k
    · refine ⟨s.extract 0 (s.size - trimZ s.data.toList k 0), fun W => ?_, fun h => ?_⟩
      · have h := hT0 W
        rw [if_pos h0] at h
        unfold cntK
        rw [if_pos h0]
        exact h
      · unfold cntK at h
        rw [if_pos h0] at h
        have := trimZ_le s.data.toList k 0
        rw [extract_take, size_data, show trimZ s.data.toList k 0 = k by omega]
    · refine ⟨s, fun W => ?_, fun h => ?_⟩
      · have h := hT0 W
        rw [if_neg h0] at h
        unfold cntK
        rw [if_neg h0]
        exact h
      · rw [show k = 0 by omega, Nat.sub_zero, List.take_length]
  obtain ⟨s', hT1, hT2⟩ := hT
  by_cases hk : cntK s.data.toList k = 0
  · have hs := hT2 hk
    rw [hk] at hT1
    have h0 : decide (cntK s.data.toList k = 0) = true := decide_eq_true hk
    by_cases hc0 : decC n s.data.toList k false [48] 0 < 0
    · have e : cntOk n s.data.toList k = false := by unfold cntOk; rw [decide_eq_true hc0]; simp
      have e2 : cntC n s.data.toList k = 0 := by unfold cntC; rw [e]; rfl
      rw [e, e2]
      exact count_b n s s' ⟨#[48]⟩ (k : Int) _ w hT1 hI0 hC0 hc0
    · have e : cntOk n s.data.toList k = decide (¬ 0 < decC n s.data.toList k false [50, 48] 0) := by unfold cntOk; rw [decide_eq_false hc0, h0]; rfl
      have hA : cntOk n s.data.toList k = true → ∀ W : World, Calls Tryz.prog 51 #[.string s'] W fun e w' => e = .returned (.tuple #[.int .i64 (numL (s.data.toList.take (s.data.toList.length - k)) : Int), .nilIface]) ∧ Below W.heap.size W w' := fun h W => by
        obtain ⟨g1, g2⟩ := cnt_short hN h
        rw [← hs] at g1 g2 ⊢
        exact atoi_any (by rw [hs]; exact List.all_eq_true.2 fun c hc => List.all_eq_true.1 hN.digs c (List.mem_of_mem_take hc)) g2 (by rw [← size_data]; exact g1) W
      have h := count_c n s s' ⟨#[48]⟩ ⟨#[50, 48]⟩ (k : Int) _ _ _ _ w hT1 hI0 hC0 hc0 hI1 hC1 e hA
      unfold cntC
      exact h
  · have e : cntOk n s.data.toList k = false := by unfold cntOk; rw [decide_eq_false hk]; rfl
    have e2 : cntC n s.data.toList k = 0 := by unfold cntC; rw [e]; rfl
    rw [e, e2]
    exact count_a n s s' (k : Int) _ w hT1 (by omega)
end Go.Proofs.YtjdpmdheapmanaaGreatDoor
