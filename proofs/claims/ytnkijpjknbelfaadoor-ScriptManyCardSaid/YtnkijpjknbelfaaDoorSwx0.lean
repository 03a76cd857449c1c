/-
  Package script: ScriptMany.
-/
import Derived.Test.YtnkijpjknbelfaaDoorSws
import Derived.Lib.ConvBytes
import Derived.Laws.MakeOwn
import Derived.IntWalk
namespace Go.Proofs.YtnkijpjknbelfaaDoor
open Go.RowKit
set_option linter.unusedVariables false
set_option linter.unusedSimpArgs false

theorem and7 (x : Int) : ∃ j : Nat, j ≤ 7 ∧ bits BinOp.and IntKind.i64 x 7 = (j : Int) := by
  refine ⟨(BitVec.ofInt 64 x).toNat &&& 7, Nat.and_le_right, ?_⟩
  have h : (BitVec.ofInt 64 x).toNat &&& 7 ≤ 7 := Nat.and_le_right
  simp only [bits, BitVec.toNat_and]
  show IntKind.i64.wrap (((BitVec.ofInt 64 x).toNat &&& (BitVec.ofInt 64 7).toNat : Nat) : Int) = _
  rw [show (BitVec.ofInt 64 7).toNat = 7 by decide]
  generalize (BitVec.ofInt 64 x).toNat &&& 7 = y at *
  exact IntWalk.i64_in _ (by omega)
theorem bytesW (w : World) (s : ByteArray) : Lib.Bytes (Lib.bytesWorld w 5 s) w.heap.size 0 s := fun i hi => by
  rw [Nat.zero_add, Lib.bytesWorld_cell w _ s i hi]
  congr 2
  simp [List.getD, hi]
  rfl
theorem belowBy (w : World) (s : ByteArray) : Below w.heap.size w (Lib.bytesWorld w 5 s) :=
  ⟨rfl, rfl, rfl, by rw [Lib.bytesWorld_size]; omega, fun k hk => Lib.bytesWorld_at_old w _ s k hk⟩
def aS : ST := ⟨2, ⟨#[]⟩, ⟨#[]⟩, false, [], ⟨#[]⟩, ⟨#[]⟩, []⟩
def aB : List UInt8 := [49, 58, 113, 44, 48, 58, 44, 48, 58, 44, 49, 58, 48, 44]
theorem a_enc : encS aS = aB := by
  unfold encS textsS aS encT aB
  simp [Lib.decDigits_one]
theorem a_right : rightS aS = true := rfl
theorem a_short : ShortS aS := ⟨by decide, by decide, by decide, by decide, by decide, (fun w h => by cases h), by decide, (fun a h => by cases h)⟩
theorem a_encL : ∀ n, (encL (List.replicate n aS)).length = n * 14
  | 0 => by simp [encL]
  | n + 1 => by rw [List.replicate_succ, encL_cons, List.length_append, a_encL n, a_enc]; show 14 + n * 14 = _; omega
theorem a_snoc (n : Nat) : encL (List.replicate (n + 1) aS) = encL (List.replicate n aS) ++ aB := by
  unfold encL
  rw [List.replicate_succ', List.flatMap_append, List.flatMap_cons, List.flatMap_nil, List.append_nil, a_enc]
theorem a_all (n : Nat) : (List.replicate n aS).all rightS = true := by
  rw [List.all_eq_true]
  intro x hx
  rw [(List.mem_replicate.1 hx).2]
  rfl
theorem a_encR (n : Nat) : encR (List.replicate n aS) = if 4096 < n then ([], 4) else (encL (List.replicate n aS), 0) := by
  unfold encR
  rw [List.length_replicate, if_pos (a_all n)]
/-- What Decode tells of so many. -/
theorem a_dec (n : Nat) (hn : n ≤ 5000) : decD (mkS (encL (List.replicate n aS))) = if 4096 < n then (List.replicate 4096 aS, 57344, 4) else (List.replicate n aS, n * 14, 0) := by
  have hv : ∀ m, ∀ x ∈ List.replicate m aS, ValS x ∧ rightS x = true := fun m x hx => by
    rw [(List.mem_replicate.1 hx).2]
    exact ⟨valS_of a_short a_right, a_right⟩
  obtain ⟨k, hk⟩ : ∃ k, k = 4096 := ⟨_, rfl⟩
  rw [← hk]
  split
  · next h =>
    unfold decD
    have hsz : (mkS (encL (List.replicate n aS))).size = n * 14 := by rw [size_mkS, a_encL]
    rw [hsz, if_neg (by omega)]
    have hsplit : List.replicate n aS = List.replicate k aS ++ List.replicate (n - k) aS := by rw [List.replicate_append_replicate]; congr 1; omega
    have henc : (mkS (encL (List.replicate n aS))).data.toList = encL (List.replicate k aS) ++ (mkS (encL (List.replicate (n - k) aS))).data.toList := by
      rw [mkS_data, mkS_data, hsplit]
      unfold encL
      rw [List.flatMap_append]
    have hr : (mkS (encL (List.replicate (n - k) aS))).size = (n - k) * 14 := by rw [size_mkS, a_encL]
    rw [decG_enc (n * 14) (List.replicate k aS) [] _ (mkS (encL (List.replicate (n - k) aS))) _ ((n - k) * 14 + 1) (hv _) (by rw [List.length_replicate, List.length_nil]; omega) henc (by rw [hsz]; omega) (by rw [hr]; omega), List.nil_append, decG, if_neg (by rw [hr]; omega)]
    have hcons : encL (List.replicate (n - k) aS) = encS aS ++ encL (List.replicate (n - k - 1) aS) := by
      obtain ⟨m, hm⟩ : ∃ m, n - k = m + 1 := ⟨n - k - 1, by omega⟩
      rw [hm, List.replicate_succ, encL_cons, Nat.add_sub_cancel]
    have q := rds_step.to (mkS (encL (List.replicate (n - k) aS))) aS (mkS (encL (List.replicate (n - k - 1) aS))) (valS_of a_short a_right) (by rw [mkS_data, mkS_data, hcons])
    rw [q]
    dsimp only
    rw [if_neg (by rw [a_right]; simp), if_pos (by rw [List.length_replicate]; exact hk), hr, show n * 14 - (n - k) * 14 = 57344 by omega]
  · next h =>
    have := decD_enc (List.replicate n aS) (hv n) (by rw [List.length_replicate]; omega) (by rw [a_encL]; omega)
    rw [a_encL] at this
    exact this
theorem zst_get (n m : Nat) (h : m < n * 8) : (madeCells #[.int .i64 0, .string ⟨#[]⟩, .string ⟨#[]⟩, .bool false, .slice none 0 0, .string ⟨#[]⟩, .string ⟨#[]⟩, .slice none 0 0] (n * 8))[m]? = some ((#[.int .i64 0, .string ⟨#[]⟩, .string ⟨#[]⟩, .bool false, .slice none 0 0, .string ⟨#[]⟩, .string ⟨#[]⟩, .slice none 0 0] : Array Value)[m % 8]!) := by
  unfold madeCells
  rw [Array.getElem?_map, Array.getElem?_range, if_pos h]
  rfl
/-- The cell m of a row of steps of which the first i are asked. -/
def cellM (i m : Nat) : Value := if m % 8 = 0 then .int .i64 (if m / 8 < i then 2 else 0) else (#[.int .i64 0, .string ⟨#[]⟩, .string ⟨#[]⟩, .bool false, .slice none 0 0, .string ⟨#[]⟩, .string ⟨#[]⟩, .slice none 0 0] : Array Value)[m % 8]!
def RowM (w : World) (g n i : Nat) : Prop := ∃ cs, BoxAt w g cs 29 ∧ cs.size = n * 8 ∧ ∀ m, m < n * 8 → cs[m]? = some (cellM i m)
theorem RowM.zero (w : World) (n : Nat) : RowM (w.alloc (.cells (madeCells #[.int .i64 0, .string ⟨#[]⟩, .string ⟨#[]⟩, .bool false, .slice none 0 0, .string ⟨#[]⟩, .string ⟨#[]⟩, .slice none 0 0] (n * 8)) 29)) w.heap.size n 0 := by
  refine ⟨_, BoxAt.new _ _ _, size_madeCells _ _, fun m hm => ?_⟩
  rw [zst_get n m hm]
  unfold cellM
  split
  · next h => rw [h]; rfl
  · rfl
theorem RowM.put {w : World} {g n i : Nat} (h : RowM w g n i) (hi : i < n) : RowM (w.setCell ⟨g, i * 8, none⟩ (.int .i64 2)) g n (i + 1) := by
  obtain ⟨cs, h1, h2, h3⟩ := h
  refine ⟨_, h1.put (i * 8) (.int .i64 2), by rw [Array.size_setIfInBounds, h2], fun m hm => ?_⟩
  rw [Array.getElem?_setIfInBounds]
  split
  · next e =>
    rw [if_pos (by omega)]
    subst e
    unfold cellM
    rw [if_pos (by omega), if_pos (by omega)]
  · next e =>
    rw [h3 m hm]
    unfold cellM
    split
    · next e8 =>
      have : (if m / 8 < i then (2 : Int) else 0) = if m / 8 < i + 1 then 2 else 0 := by
        by_cases hlt : m / 8 < i
        · rw [if_pos hlt, if_pos (by omega)]
        · rw [if_neg hlt, if_neg (by omega)]
      rw [this]
    · rfl
theorem RowM.later {w w' : World} {g n i : Nat} (h : RowM w g n i) (b : Below w.heap.size w w') : RowM w' g n i := by
  obtain ⟨cs, h1, h2⟩ := h
  exact ⟨cs, h1.later b, h2⟩
theorem RowM.sts {w : World} {g n : Nat} (h : RowM w g n n) : StsIn w (Old w) (List.replicate n aS) (some ⟨g, 0, none⟩) := fun _ => by
  obtain ⟨cs, h1, h2, h3⟩ := h
  refine ⟨g, 0, rfl, h1.lt, fun j x hx => ?_⟩
  have hj : j < n := by
    obtain ⟨q, _⟩ := List.getElem?_eq_some_iff.1 hx
    rwa [List.length_replicate] at q
  have hxe : x = aS := (List.mem_replicate.1 (List.mem_of_getElem? hx)).2
  subst hxe
  refine ⟨none, 0, none, 0, fun i u hu => ?_, WsIn.nil _ _ _, AsIn.nil _ _ _⟩
  have hi : i < 8 := by
    obtain ⟨q, _⟩ := List.getElem?_eq_some_iff.1 hu
    exact q
  rw [h1.cell, Nat.zero_add, h3 (j * 8 + i) (by omega)]
  rw [← hu]
  have e1 : (j * 8 + i) % 8 = i := by omega
  have e2 : (j * 8 + i) / 8 = j := by omega
  unfold cellM
  rw [e1, e2, if_pos hj]
  have : i = 0 ∨ i = 1 ∨ i = 2 ∨ i = 3 ∨ i = 4 ∨ i = 5 ∨ i = 6 ∨ i = 7 := by omega
  rcases this with rfl | rfl | rfl | rfl | rfl | rfl | rfl | rfl <;> rfl
end Go.Proofs.YtnkijpjknbelfaaDoor
