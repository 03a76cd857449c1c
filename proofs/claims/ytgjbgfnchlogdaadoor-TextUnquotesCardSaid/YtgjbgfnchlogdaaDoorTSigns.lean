import Derived.Test.YtgjbgfnchlogdaaDoorTLawDecodes
import Derived.Test.YtgjbgfnchlogdaaDoorBld
namespace Go.Proofs.YtgjbgfnchlogdaaDoor
open Go.RowKit
set_option linter.unusedVariables false
set_option linter.unusedSimpArgs false

theorem infoStr : (Tryd.prog.info? 9).map (fun i => (i.zero, i.size, i.bytes)) = some (some (.string ⟨#[]⟩), 1, 16) := by kernel_rfl
/-- A text's signs, one by one; none: it isn't made of signs alone. -/
def sigs : Nat → List UInt8 → Option (List (List UInt8))
  | 0, _ => some []
  | f + 1, l => if l = [] then some [] else if (Lib.decodeL l).1 = 65533 ∧ (Lib.decodeL l).2 ≤ 1 then none else (sigs f (l.drop (Lib.decodeL l).2)).map (l.take (Lib.decodeL l).2 :: ·)

def strV (l : List UInt8) : Value := .string ⟨l.toArray⟩
def sigAll (l : List UInt8) : Option (List (List UInt8)) := sigs l.length l
def SignsEnd (l : List UInt8) (B : Nat) (w' : World) (e : Ending) : Prop :=
  (sigAll l = none ∧ e = .returned (.tuple #[.slice none 0 0, .bool false])) ∨ ∃ xs v, sigAll l = some xs ∧ xs.length ≤ l.length ∧ e = .returned (.tuple #[v, .bool true]) ∧ w'.ownsRowF B 9 1 v xs.length (xs.map strV)
theorem sigs_step (f : Nat) (l : List UInt8) (hne : l ≠ []) : sigs (f + 1) l = if (Lib.decodeL l).1 = 65533 ∧ (Lib.decodeL l).2 ≤ 1 then none else (sigs f (l.drop (Lib.decodeL l).2)).map (l.take (Lib.decodeL l).2 :: ·) := by
  rw [sigs, if_neg hne]
theorem sigs_nil (f : Nat) : sigs f [] = some [] := by cases f <;> rfl
theorem strV_extract (t : ByteArray) (n : Nat) : strV (t.data.toList.take n) = .string (t.extract 0 n) := by
  unfold strV
  congr 1
  apply bytes_eq
  rw [extract_take]

theorem ownsRowF_below {w w1 : World} {base : Nat} {e : TypeId} {size : Nat} {v : Value} {n : Nat} {xs : List Value} (h : w.ownsRowF base e size v n xs) (hb : Below w.heap.size w w1) : w1.ownsRowF base e size v n xs := by
  refine ⟨h.1, ?_⟩
  rcases h.2 with hn | ⟨g, cap, cur, fz, hv, hbg, hg, rest⟩
  · exact Or.inl hn
  · exact Or.inr ⟨g, cap, cur, fz, hv, hbg, (hb.block g (Array.getElem?_eq_some_iff.1 hg).1).trans hg, rest⟩
theorem owns_empty (w : World) (e : TypeId) : (w.alloc (.cells #[] e)).ownsRowF w.heap.size e 1 (.slice (some ⟨w.heap.size, 0, none⟩) 0 0) 0 [] := by
  refine ⟨rfl, Or.inr ⟨w.heap.size, 0, #[], (0, 0), rfl, Nat.le_refl _, heap_alloc_new w _, Nat.le_refl _, Nat.le_refl _, by decide, rfl, ?_⟩⟩
  simp

set_option maxHeartbeats 4000000 in
set_option maxRecDepth 1000000 in
theorem signs_any (s : ByteArray) (w : World) (hT : TabU w) (hs : s.size ≤ 100000) :
    Calls Tryd.prog 13 #[.string s] w fun e w' => SignsEnd s.data.toList w.heap.size w' e ∧ Below w.heap.size w w' := by
  obtain ⟨i0, hi, hz0, hz1, hz2⟩ := info_parts infoStr
  have hTw := Lib.hid hT
  clear hT
  go_enter Tryd.func13, Tryd.ntmps13
  go_wp2
  go_loopw [0, 4] (fun st ot wr => ∃ (t : ByteArray) (done : List (List UInt8)) (f : Nat), st = .string t ∧ Hid (wr.ownsRowF w.heap.size 9 1 ot done.length (done.map strV)) ∧ Hid ((sigs f t.data.toList).map (done ++ ·) = sigAll s.data.toList) ∧ Hid (t.size ≤ f) ∧ Hid (done.length + t.size ≤ s.size) ∧ Below w.heap.size w wr) (fun st _ _ => strSize st)
  case atStart =>
    refine ⟨s, [], s.size, rfl, ?_, ?_, by show s.size ≤ s.size; omega, by show 0 + s.size ≤ s.size; omega, (Below.refl _ w).alloc (Nat.le_refl _) _⟩
    · exact owns_empty w 9
    · show _ = _
      unfold sigAll
      rw [size_data]
      cases sigs s.size s.data.toList <;> simp
  case round =>
    obtain ⟨t, done, f, rfl, Hown, Hsig, Hf, Hlen, hbw⟩ := hrel
    by_cases h0 : 0 < t.size
    · have hne : t.data.toList ≠ [] := by
        intro e
        have h1 := size_data t
        rw [e, List.length_nil] at h1
        omega
      obtain ⟨f, rfl⟩ : ∃ f', f = f' + 1 := ⟨f - 1, by have := Hf.out; omega⟩
      have hsg := Hsig.out
      rw [sigs_step f _ hne] at hsg
      have hw1 := decodeL_pos t.data.toList
      have hw2 := Lib.decodeL_le t.data.toList hne
      have hcall' := runeIn_any t wr (hTw.out.below hbw) h0
      have hsv := strV_extract t (Lib.decodeL t.data.toList).2
      have hed := extract_drop t (Lib.decodeL t.data.toList).2
      rw [size_data] at hw2
      generalize Lib.decodeL t.data.toList = rn at *
      obtain ⟨r, n⟩ := rn
      dsimp only at *
      have Hsv := Lib.hid hsv
      have Hed := Lib.hid hed
      have Hsg := Lib.hid hsg
      have hflen := Hlen.out
      clear hsv hed hsg hne Hsig
      have hn1 : (1 : Int) ≤ n := by omega
      have hn2 : (n : Int) ≤ t.size := by omega
      by_cases hbad : r = 65533 ∧ n ≤ 1
      · obtain ⟨hr, hn⟩ := hbad
        obtain rfl : n = 1 := by omega
        subst hr
        have hfin := Hsg.out
        rw [if_pos ⟨rfl, Nat.le_refl _⟩] at hfin
        have Hfin := Lib.hid hfin
        clear hfin Hsg
        go_wp2_with fail
        go_at_call 9
        refine hcall'.mono ?_
        rintro e W1 ⟨rfl, b1⟩
        go_wp2
        go_ret2
        exact ⟨Or.inl ⟨Hfin.out.symm, rfl⟩, hbw.trans (b1.mono hbw.size)⟩
      · have hpart : (((r : Int) == 65533) = true ∧ ¬ ((n : Int) ≤ 1)) ∨ ((r : Int) == 65533) = false := by
          by_cases h : r = 65533
          · left; exact ⟨by rw [h]; rfl, by intro e; exact hbad ⟨h, by omega⟩⟩
          · right; rw [beq_eq_false_iff_ne]; omega
        have hfin := Hsg.out
        rw [if_neg hbad] at hfin
        have Hfin := Lib.hid hfin
        clear hfin Hsg hbad
        rcases hpart with ⟨hq1, hq2⟩ | hq1
        all_goals
          go_wp2_with fail
          go_at_call 9
          refine hcall'.mono ?_
          rintro e W1 ⟨rfl, b1⟩
          have hown1 := ownsRowF_below Hown.out b1
          go_wp2_with (at_builtin; refine wpList_append_ownF _ rfl _ _ 29 rfl w.heap.size 9 i0 (.string ⟨#[]⟩) 1 16 Tryd.underlying29 hi hz0 hz1 hz2 rfl (by decide) _ _ _ rfl (hown1.alloc _) ⟨W1.heap.size, 0, none⟩ 1 1 [.string (t.extract 0 n)] rfl rfl ?c1 ?c2 ?c3 ?c4 ?c5 ?_)
          case c1 =>
            intro j u hj
            match j, hj with
            | 0, hj => simp at hj; subst hj; simp [Addr.add]
          case c2 => intro u hu; simp at hu; subst hu; rfl
          case c3 => unfold maxLen; omega
          case c4 => omega
          case c5 => have := hbw.size; have := b1.size; simp; omega
          intro v' w2 hown' hgrow _
          have hbw2 : Below w.heap.size w w2 := ((hbw.trans (b1.mono hbw.size)).alloc (by have := hbw.size; have := b1.size; omega) _).grown hgrow (by have := hbw.size; have := b1.size; simp; omega) (fun k hk => ((hown1.alloc (.cells #[.string (t.extract 0 n)] 9)).lt k hk).1)
          have Hown' := Lib.hid hown'
          clear hown' hgrow hown1
          go_wp2
          go_roundw
          case rel =>
            refine ⟨_, done ++ [t.data.toList.take n], f, rfl, ?_, ?_, ?_, ?_, hbw2⟩
            · show World.ownsRowF _ _ _ _ _ _ _
              have := Hown'.out
              rw [← Hsv.out] at this
              simpa using this
            · show _ = _
              rw [Hed.out, ← Hfin.out, Option.map_map]
              congr 1
              funext x
              simp
            · show _ ≤ _
              rw [(ext_size t n hw2).2]; have := Hf.out; omega
            · show _ ≤ _
              rw [(ext_size t n hw2).2, List.length_append, List.length_singleton]; omega
          case measure =>
            show (t.extract n t.size).size < t.size
            rw [(ext_size t n hw2).2]; omega
    · have ht0 : t.data.toList = [] := List.eq_nil_of_length_eq_zero (by rw [size_data]; omega)
      have hsg := Hsig.out
      rw [ht0, sigs_nil] at hsg
      have Hsg := Lib.hid hsg
      clear hsg ht0 Hsig
      go_wp2
      go_ret2
      exact ⟨Or.inr ⟨done, _, by rw [← Hsg.out]; simp, by rw [size_data]; have := Hlen.out; omega, rfl, Hown.out⟩, hbw⟩
end Go.Proofs.YtgjbgfnchlogdaaDoor
