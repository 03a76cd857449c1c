import Derived.Test.YtggnmkagkdlgnacDoorLawOrders
namespace Go.Proofs.YtggnmkagkdlgnacDoor
open Go.RowKit

theorem Num.size {s : ByteArray} {k : Nat} (h : Num s.data.toList k) : s.size ≤ 60 ∧ k ≤ s.size := by
  have h1 := h.le
  have h2 := h.lt
  rw [size_data] at h1 h2
  omega
theorem compTo (n1 n2 : Bool) (s1 s2 : ByteArray) (k1 k2 : Nat) (h1 : s1.size ≤ 1000 ∧ k1 ≤ s1.size) (h2 : s2.size ≤ 1000 ∧ k2 ≤ s2.size) : CompTo n1 s1 k1 n2 s2 k2 (decC n1 s1.data.toList k1 n2 s2.data.toList k2) :=
  fun W => compare_any n1 n2 s1 s2 k1 k2 W (by unfold maxLen; omega) (by unfold maxLen; omega) h1.2 h2.2
theorem roundTo (n : Bool) (s : ByteArray) (k : Nat) (x : Int) (h : Num s.data.toList k) (hx0 : -9223372036854775808 ≤ x) (hx1 : x ≤ 9223372036854775807) : RoundTo n s k x ⟨(roundL s.data.toList k x.toNat).toArray⟩ (min k x.toNat) :=
  fun W => round_any n s k x W (by have := h.size; omega) h.size.2 h.digs hx0 hx1

theorem lawOrders (n1 n2 n3 : Bool) (s1 s2 s3 : ByteArray) (k1 k2 k3 : Int) (x : Int) (w : World) (hsh : w.ShapedOpen Tryd.prog) (hx0 : -9223372036854775808 ≤ x) (hx1 : x ≤ 9223372036854775807)
    (hs1 : s1.size ≤ 9223372036854775807) (lo1 : -9223372036854775808 ≤ k1) (hi1 : k1 ≤ 9223372036854775807) (hs2 : s2.size ≤ 9223372036854775807) (lo2 : -9223372036854775808 ≤ k2) (hi2 : k2 ≤ 9223372036854775807) (hs3 : s3.size ≤ 9223372036854775807) (lo3 : -9223372036854775808 ≤ k3) (hi3 : k3 ≤ 9223372036854775807) :
    Calls Tryd.prog 4 #[.agg #[.bool n1, .string s1, .int .i64 k1], .agg #[.bool n2, .string s2, .int .i64 k2], .agg #[.bool n3, .string s3, .int .i64 k3], .int .i64 x] w fun e w' => e = .returned (.bool true) ∧ Below w.heap.size w w' := by
  refine orders_core n1 n2 n3 s1 s2 s3 k1 k2 k3 x w hsh hx0 hx1 hs1 lo1 hi1 hs2 lo2 hi2 hs3 lo3 hi3 ?_
  rintro m1 m2 m3 rfl rfl rfl hN1 hN2 hN3
  have z1 := hN1.size
  have z2 := hN2.size
  have z3 := hN3.size
  have l1 : m1 ≤ s1.data.toList.length := Nat.le_of_lt hN1.lt
  have l2 : m2 ≤ s2.data.toList.length := Nat.le_of_lt hN2.lt
  have l3 : m3 ≤ s3.data.toList.length := Nat.le_of_lt hN3.lt
  have r1 := roundL_length s1.data.toList m1 x.toNat l1
  have r2 := roundL_length s2.data.toList m2 x.toNat l2
  have e1 := hN1.le
  have e2 := hN2.le
  refine ⟨_, _, _, _, _, _, _, _, compTo n1 n2 s1 s2 m1 m2 (by omega) (by omega), compTo n2 n3 s2 s3 m2 m3 (by omega) (by omega), compTo n1 n3 s1 s3 m1 m3 (by omega) (by omega), roundTo n1 s1 m1 x hN1 hx0 hx1, roundTo n2 s2 m2 x hN2 hx0 hx1,
    compTo n1 n2 _ _ _ _ (by rw [size_mk]; omega) (by rw [size_mk]; omega), ?_, ?_⟩
  · exact decC_trans n1 n2 n3 _ _ _ m1 m2 m3 hN1.digs hN2.digs hN3.digs l1 l2 l3
  · exact decC_round n1 n2 _ _ m1 m2 x.toNat hN1.digs hN2.digs l1 l2
end Go.Proofs.YtggnmkagkdlgnacDoor
