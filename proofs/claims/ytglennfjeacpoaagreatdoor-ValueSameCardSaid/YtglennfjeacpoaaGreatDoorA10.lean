import Derived.Test.YtglennfjeacpoaaGreatDoorA3
import Derived.Test.YtglennfjeacpoaaGreatDoorA5
import Derived.Test.YtglennfjeacpoaaGreatDoorA9
namespace Go.Proofs.YtglennfjeacpoaaGreatDoor
open Go.RowKit

/-- The digits of a number with so many behind the point at most. -/
def roundL (l : List UInt8) (sc m : Nat) : List UInt8 :=
  if m < sc then (if upB (l.take (l.length - sc + m)) (l.drop (l.length - sc + m)) = true then incL (l.take (l.length - sc + m)) else l.take (l.length - sc + m)) else l

theorem partTo (neg : Bool) (s : ByteArray) (sc : Nat) (hs : s.size ≤ maxLen) (hsc : sc ≤ s.size) : PartTo neg s (s.extract (s.size - sc) s.size) sc := fun W => part_any neg s sc W hs hsc
theorem round_any (neg : Bool) (s : ByteArray) (sc : Nat) (x : Int) (w : World) (hs : s.size ≤ 1000000) (hsc : sc ≤ s.size) (hd : s.data.toList.all digB = true) (hx0 : -9223372036854775808 ≤ x) (hx1 : x ≤ 9223372036854775807) :
    Calls Tryz.prog 74 #[.agg #[.bool neg, .string s, .int .i64 sc], .int .i64 x] w fun e w' => e = .returned (.agg #[.bool neg, .string ⟨(roundL s.data.toList sc x.toNat).toArray⟩, .int .i64 (min sc x.toNat : Nat)]) ∧ Below w.heap.size w w' := by
  have hmax : s.size ≤ maxLen := by unfold maxLen; omega
  have hp := partTo neg s sc hmax hsc
  have hps : (s.extract (s.size - sc) s.size).size = sc := by simp; omega
  by_cases hm : x.toNat < sc
  · have hk : (s.extract 0 (s.size - sc + x.toNat)).data.toList = s.data.toList.take (s.data.toList.length - sc + x.toNat) := by rw [extract_take, size_data]
    have ho : ((s.extract (s.size - sc) s.size).extract x.toNat (s.extract (s.size - sc) s.size).size).data.toList = s.data.toList.drop (s.data.toList.length - sc + x.toNat) := by
      rw [extract_drop, extract_drop, List.drop_drop, size_data]
    have hksz : (s.extract 0 (s.size - sc + x.toNat)).size ≤ 1000000 := by simp; omega
    have hkd : (s.extract 0 (s.size - sc + x.toNat)).data.toList.all digB = true := by
      rw [hk]
      exact List.all_eq_true.2 fun c hc => List.all_eq_true.1 hd c (List.mem_of_mem_take hc)
    have hup : UpTo (s.extract 0 (s.size - sc + x.toNat)) ((s.extract (s.size - sc) s.size).extract x.toNat (s.extract (s.size - sc) s.size).size) (upB (s.data.toList.take (s.data.toList.length - sc + x.toNat)) (s.data.toList.drop (s.data.toList.length - sc + x.toNat))) := by
      intro W
      rw [← hk, ← ho]
      exact roundsUp_any _ _ W (by unfold maxLen; omega) (by unfold maxLen; simp; omega)
    have hinc : IncTo (s.extract 0 (s.size - sc + x.toNat)) ⟨(incL (s.data.toList.take (s.data.toList.length - sc + x.toNat))).toArray⟩ := by
      intro W
      rw [← hk]
      exact plusOne_any _ W hksz hkd
    have hres : ∀ up, up = upB (s.data.toList.take (s.data.toList.length - sc + x.toNat)) (s.data.toList.drop (s.data.toList.length - sc + x.toNat)) →
        roundL s.data.toList sc x.toNat = if up = true then incL (s.data.toList.take (s.data.toList.length - sc + x.toNat)) else s.data.toList.take (s.data.toList.length - sc + x.toNat) := by
      intro up e
      rw [e]
      unfold roundL
      rw [if_pos hm]
    have hmin : min sc x.toNat = x.toNat := by omega
    generalize hU : upB (s.data.toList.take (s.data.toList.length - sc + x.toNat)) (s.data.toList.drop (s.data.toList.length - sc + x.toNat)) = up at hup hres
    have hr := hres up rfl
    have hk2 : ∀ k2 : ByteArray, k2.data.toList = roundL s.data.toList sc x.toNat → k2 = ⟨(roundL s.data.toList sc x.toNat).toArray⟩ := by
      intro k2 e
      rw [← e]
    rw [hmin]
    by_cases hneg : x < 0
    · have hx : x.toNat = 0 := by omega
      rw [hx] at hup hinc hr hk2 hk ⊢
      simp only [Nat.add_zero] at hup hinc hr hk
      have hpz : ((s.extract (s.size - sc) s.size).extract 0 (s.extract (s.size - sc) s.size).size) = s.extract (s.size - sc) s.size := by
        apply bytes_eq
        rw [extract_drop]
        rfl
      rw [hpz] at hup
      refine (round_neg neg up s _ ⟨(roundL s.data.toList sc 0).toArray⟩ sc x hneg w hs hsc hp hps (by omega) hup ?_ ?_).mono ?_
      · intro h; rw [hr, if_pos h]; exact hinc
      · intro h
        exact (hk2 _ (by rw [hk, hr, h]; rfl)).symm
      · rintro e w' ⟨rfl, hb⟩; exact ⟨rfl, hb⟩
    · have hx : ((x.toNat : Nat) : Int) = x := by omega
      refine hx ▸ (round_less neg up s _ ⟨(roundL s.data.toList sc x.toNat).toArray⟩ sc x.toNat w hs hsc hp hps hm hup ?_ ?_).mono ?_
      · intro h; rw [hr, if_pos h]; exact hinc
      · intro h
        exact (hk2 _ (by rw [hk, hr, h]; rfl)).symm
      · rintro e w' ⟨rfl, hb⟩; exact ⟨rfl, hb⟩
  · have hl : roundL s.data.toList sc x.toNat = s.data.toList := by unfold roundL; rw [if_neg hm]
    have hmin : min sc x.toNat = sc := by omega
    refine (round_same neg s _ sc x w hp hps (by omega) hx1 hx0).mono ?_
    rintro e w' ⟨rfl, hb⟩
    refine ⟨?_, hb⟩
    rw [hl, hmin]
end Go.Proofs.YtglennfjeacpoaaGreatDoor
