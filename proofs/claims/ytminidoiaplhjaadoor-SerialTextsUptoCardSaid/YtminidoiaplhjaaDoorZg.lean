/-
  Package serial: pieces; a reference; what stands ahead of arguments.
-/
import Derived.Test.YtminidoiaplhjaaDoorZf
import Derived.Test.YtminidoiaplhjaaDoorZd
namespace Go.Proofs.YtminidoiaplhjaaDoor
open Go.RowKit
set_option linter.unusedVariables false
set_option linter.unusedSimpArgs false

abbrev maxW : Nat := 140737488355328
section
variable {B b : Nat} {bs : List UInt8}
theorem write1 (x : ByteArray) (w : World) (h : WrAt B b bs w) (hn : bs.length + x.size ≤ 140737488355328) :
    Calls Tryd.prog 20 #[.pointer (some ⟨b, 0, none⟩), .slice (some ⟨w.heap.size, 0, none⟩) 1 1] (w.alloc (.cells #[.string x] 9)) fun e w' => e = .returned (.tuple #[]) ∧ WrAt B b (bs ++ x.data.toList) w' ∧ Wk B b w w' := by
  have h2 := write_any (B := B) (b := b) (bs := bs) [x] w.heap.size 1 (w.alloc (.cells #[.string x] 9)) (h.alloc _) (BoxAt.new w _ _) (by simpa [catL] using hn) (by simp)
  refine h2.mono ?_
  rintro e w' ⟨he, h3, h4⟩
  exact ⟨he, by simpa [catL] using h3, ((Wk.refl B b w).alloc h.le _).trans h4⟩
theorem write2 (x y : ByteArray) (w : World) (h : WrAt B b bs w) (hn : bs.length + (x.size + y.size) ≤ 140737488355328) :
    Calls Tryd.prog 20 #[.pointer (some ⟨b, 0, none⟩), .slice (some ⟨w.heap.size, 0, none⟩) 2 2] (w.alloc (.cells #[.string x, .string y] 9)) fun e w' => e = .returned (.tuple #[]) ∧ WrAt B b (bs ++ (x.data.toList ++ y.data.toList)) w' ∧ Wk B b w w' := by
  have h2 := write_any (B := B) (b := b) (bs := bs) [x, y] w.heap.size 2 (w.alloc (.cells #[.string x, .string y] 9)) (h.alloc _) (BoxAt.new w _ _) (by simpa [catL] using hn) (by simp)
  refine h2.mono ?_
  rintro e w' ⟨he, h3, h4⟩
  exact ⟨he, by simpa [catL] using h3, ((Wk.refl B b w).alloc h.le _).trans h4⟩
theorem write3 (x y z : ByteArray) (w : World) (h : WrAt B b bs w) (hn : bs.length + (x.size + (y.size + z.size)) ≤ 140737488355328) :
    Calls Tryd.prog 20 #[.pointer (some ⟨b, 0, none⟩), .slice (some ⟨w.heap.size, 0, none⟩) 3 3] (w.alloc (.cells #[.string x, .string y, .string z] 9)) fun e w' => e = .returned (.tuple #[]) ∧ WrAt B b (bs ++ (x.data.toList ++ (y.data.toList ++ z.data.toList))) w' ∧ Wk B b w w' := by
  have h2 := write_any (B := B) (b := b) (bs := bs) [x, y, z] w.heap.size 3 (w.alloc (.cells #[.string x, .string y, .string z] 9)) (h.alloc _) (BoxAt.new w _ _) (by simpa [catL] using hn) (by simp)
  refine h2.mono ?_
  rintro e w' ⟨he, h3, h4⟩
  exact ⟨he, by simpa [catL] using h3, ((Wk.refl B b w).alloc h.le _).trans h4⟩
theorem write7 (x1 x2 x3 x4 x5 x6 x7 : ByteArray) (w : World) (h : WrAt B b bs w) (hn : bs.length + (x1.size + (x2.size + (x3.size + (x4.size + (x5.size + (x6.size + x7.size)))))) ≤ 140737488355328) :
    Calls Tryd.prog 20 #[.pointer (some ⟨b, 0, none⟩), .slice (some ⟨w.heap.size, 0, none⟩) 7 7] (w.alloc (.cells #[.string x1, .string x2, .string x3, .string x4, .string x5, .string x6, .string x7] 9)) fun e w' => e = .returned (.tuple #[]) ∧ WrAt B b (bs ++ (x1.data.toList ++ (x2.data.toList ++ (x3.data.toList ++ (x4.data.toList ++ (x5.data.toList ++ (x6.data.toList ++ x7.data.toList))))))) w' ∧ Wk B b w w' := by
  have h2 := write_any (B := B) (b := b) (bs := bs) [x1, x2, x3, x4, x5, x6, x7] w.heap.size 7 (w.alloc (.cells #[.string x1, .string x2, .string x3, .string x4, .string x5, .string x6, .string x7] 9)) (h.alloc _) (BoxAt.new w _ _) (by simpa [catL] using hn) (by simp)
  refine h2.mono ?_
  rintro e w' ⟨he, h3, h4⟩
  exact ⟨he, by simpa [catL] using h3, ((Wk.refl B b w).alloc h.le _).trans h4⟩
end
/-- The margin's spaces, as a text. -/
def mgB (m : Nat) : ByteArray := ⟨(sps m).toArray⟩
theorem mgB_data (m : Nat) : (mgB m).data.toList = sps m := by simp [mgB]
theorem mgB_size (m : Nat) : (mgB m).size = m := by rw [← size_data, mgB_data]; simp [sps]
theorem mgB_add (m n : Nat) : mgB m ++ mgB n = mgB (m + n) := by
  apply bytes_eq
  rw [mgB_data]
  simp [mgB_data, sps]
/-- Where the tree lies, and how the writer stands. -/
structure Sw (W0 : World) (B b : Nat) (w : World) : Prop where
  hB : W0.heap.size ≤ B
  hW : Below W0.heap.size W0 w
theorem Sw.step {W0 : World} {B b : Nat} {w w' : World} (h : Sw W0 B b w) (g : Wk B b w w') : Sw W0 B b w' := ⟨h.hB, h.hW.trans (g.below.mono h.hB)⟩
theorem Sw.alloc {W0 : World} {B b : Nat} {w : World} (h : Sw W0 B b w) (o : Obj) : Sw W0 B b (w.alloc o) := ⟨h.hB, h.hW.alloc h.hW.size o⟩
theorem Sw.drew {W0 : World} {B b : Nat} {w : World} (h : Sw W0 B b w) : Sw W0 B b w.drew := ⟨h.hB, h.hW.drew⟩
theorem Sw.at_ {W0 : World} {B b : Nat} {w : World} (h : Sw W0 B b w) {q o : Nat} {c : C7} (hq : q < W0.heap.size) (hc : CellsAt W0 q o c) : CellsAt w q o c ∧ q < w.heap.size := ⟨hc.under hq h.hW, Nat.lt_of_lt_of_le hq h.hW.size⟩

set_option maxHeartbeats 4000000 in
set_option maxRecDepth 100000 in
theorem ref_any {W0 : World} {B b : Nat} {bs : List UInt8} (k : Int) (t n a : ByteArray) (al i vs : Value) (q o : Nat) (w : World) (hS : Sw W0 B b w) (hq : q < W0.heap.size) (hc : CellsAt W0 q o ⟨.int .i64 k, .string t, .string n, .string a, al, i, vs⟩) (h : WrAt B b bs w)
    (hn : bs.length + (n.data.toList ++ (if emp a then [] else 46 :: a.data.toList)).length ≤ 140737488355328) :
    Calls Tryd.prog 86 #[.pointer (some ⟨b, 0, none⟩), .pointer (some ⟨q, o, none⟩)] w fun e w' => e = .returned (.tuple #[]) ∧ WrAt B b (bs ++ (n.data.toList ++ (if emp a then [] else 46 :: a.data.toList))) w' ∧ Wk B b w w' := by
  obtain ⟨⟨k0, k1, k2, k3, k4, k5, k6⟩, hlt⟩ := hS.at_ hq hc
  have HW1 := Lib.hid (write1 n w h (by rw [List.length_append, size_data] at hn; omega))
  have HS := Lib.hid hS
  have HC := Lib.hid hc
  have HN := Lib.hid hn
  have HH := Lib.hid h
  obtain ⟨em, hem⟩ : ∃ g, emp a = g := ⟨_, rfl⟩
  have hem2 : a.toList.isEmpty = em := hem
  rw [hem] at HN ⊢
  clear hS hc h hn hem
  go_enter Tryd.func86, Tryd.ntmps86
  go_wp2_with fail
  go_at_call 20
  refine HW1.out.mono ?_
  rintro e w1 ⟨rfl, h1, g1⟩
  obtain ⟨⟨j0, j1, j2, j3, j4, j5, j6⟩, hlt1⟩ := (HS.out.step g1).at_ hq HC.out
  have HA := Lib.hid h1
  have HG := Lib.hid g1
  clear h1 g1 k0 k1 k2 k3 k4 k5 k6
  cases em
  · have HW2 := Lib.hid (write2 ⟨#[46]⟩ a w1 HA.out (by rw [List.length_append, size_data]; have hz := HN.out; simp at hz; show _ + (1 + _) ≤ _; omega))
    go_wp2_with fail
    go_at_call 20
    refine HW2.out.mono ?_
    rintro e w2 ⟨rfl, h2, g2⟩
    have HA2 := Lib.hid h2
    have HG2 := Lib.hid (HG.out.trans g2)
    clear h2 g2
    go_wp2
    go_end0
    exact ⟨rfl, by simpa using HA2.out, HG2.out⟩
  · go_wp2
    go_end0
    exact ⟨rfl, by simpa using HA.out, HG.out⟩
end Go.Proofs.YtminidoiaplhjaaDoor
