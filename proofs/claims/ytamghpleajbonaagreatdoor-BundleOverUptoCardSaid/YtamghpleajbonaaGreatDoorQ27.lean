/-
  Several texts put together (part 27): what the law and the program call, walked; their contracts.
-/
import Derived.Test.YtamghpleajbonaaGreatDoorQ26
namespace Go.Proofs.YtamghpleajbonaaGreatDoor
open Go.RowKit
set_option linter.unusedVariables false
set_option linter.unusedSimpArgs false
theorem next_pos {s : ByteArray} {i : Nat} (hi : i ≤ s.size) {f p k : Nat} (h : nextS s i = some (f, p, k)) : i < k := by
  have h0 := nl_wt i (s.size - i) 0 i i (Nat.le_refl _) hi (Nat.le_refl _) (by omega)
  unfold nextS at h
  split at h
  · cases h
  · next hn =>
    cases h
    have h1 : ¬ (nlS s 0 i i).2.2 = (nlS s 0 i i).2.1 := fun e => hn (Or.inl e)
    omega
theorem OwnL.set {B : Nat} {W : World} {v : Value} {acc : List LN} (h : OwnL B W v acc) {nb : Nat} (hb : nb < B) (o : Nat) (x : Value) : OwnL B (W.setCell ⟨nb, o, none⟩ x) v acc := by
  obtain ⟨xs, h1, h2⟩ := h
  refine ⟨xs, h1.kept (row := some nb) ⟨rfl, rfl, rfl, by simp, fun k _ hk => Below.heap_setCell _ _ _ _ (fun e => hk (by simp [e]))⟩ (.inr (fun e => by have := (h1.lt nb e).1; omega)), LZip.carry (fun b hb' => ?_) _ _ h2⟩
  obtain ⟨⟨hb1, hb2⟩, hb3⟩ := hb'
  exact ⟨⟨⟨hb1, by simpa using hb2⟩, hb3⟩, Below.heap_setCell _ ⟨nb, o, none⟩ _ b (by show b ≠ nb; omega)⟩
theorem box_third {w : World} {k : Nat} {a b c : Value} {t : TypeId} (h : BoxAt w k #[a, b, c] t) (v : Value) : BoxAt (w.setCell ⟨k, 2, none⟩ v) k #[a, b, v] t := by
  unfold BoxAt at h ⊢
  simp [World.setCell, Array.getElem?_modify, h]
def patQ : Option (List LN × Nat) → Option (List EL × Nat)
  | none => none
  | some (ls, j) => some (joinS ls, j)
theorem patS_q (P : Nat → Res) (s : ByteArray) (i : Nat) : patS P s i = patQ (linesS P s [] 0 0 (sp s i)) := by
  unfold patS
  cases linesS P s [] 0 0 (sp s i) with
  | none => rfl
  | some v => obtain ⟨ls, j⟩ := v; rfl
set_option maxHeartbeats 4000000 in
set_option maxRecDepth 100000 in
theorem pattern_any {rb : Nat} {s : ByteArray} {d : Nat} {P : Nat → Res} (hs : s.size ≤ 1000000) (hd : d ≤ 3000) (hP : WayTo rb s 111 #[pt rb, .int .i64 ((d + 1 : Nat) : Int)] P) (hPos : PosOk s P) : PatTo rb s d (patS P s) := by
  intro i w hr hi
  obtain ⟨i0, hi0, hz0, hz1, hz2⟩ := info_parts infoLine
  have HR := Lib.hid hr
  have hlt := hr.lt
  have hS := sp_ok s i hi
  have hP1 := fun W (h : Rd rb s i W) => pass_any endSpaces W h (by omega) hi
  obtain ⟨R, hRR⟩ : ∃ R, linesS P s [] 0 0 (sp s i) = R := ⟨_, rfl⟩
  have hwt := fun ls j h => lines_wt hPos _ _ _ _ _ (Nat.le_refl _) hS.2 ls j (hRR.trans h)
  rw [patS_q, hRR]
  obtain ⟨p0, hp0⟩ : ∃ p, sp s i = p := ⟨_, rfl⟩
  rw [hp0] at hS hP1 hRR hwt
  have hPt := fun j W (h : Rd rb s j W) hj => parts_any hs (show d + 1 ≤ 4000 by omega) hP hPos j W h hj
  have hNx := fun j W (h : Rd rb s j W) hj => nextLine_any hs j W h hj
  obtain ⟨Q, hQ⟩ : ∃ Q, patQ R = Q := ⟨_, rfl⟩
  rw [show ((d + 1 : Nat) : Int) = (d : Int) + 1 by omega] at hPt
  rw [hQ]
  have HP1 := Lib.hid hP1
  have HPt := Lib.hid hPt
  have HNx := Lib.hid hNx
  have HQ := Lib.hid hQ
  have HRR := Lib.hid hRR
  have Hwt := Lib.hid hwt
  have hd0 : (d : Int) ≤ 3000 := by omega
  clear hr hP1 hp0 hP hPos hPt hNx hQ hRR hwt
  unfold pt at HP1 HPt HNx ⊢
  go_enter Tryz.func96, Tryz.ntmps96
  go_wp2_with fail
  go_at_call 103
  refine (HP1.out _ HR.out).mono ?_
  rintro e w1 ⟨rfl, g1, g2⟩
  have G1 := Lib.hid g1
  have HK := Lib.hid g2
  clear g1 g2
  go_wp2
  go_loopw [6, 8] (fun t6 t8 wr => ∃ (acc : List LN) (j f p : Nat) (gb : Bool) (A : Option Addr) (c : Nat), t6 = .slice A acc.length c ∧ t8 = .bool gb ∧ j ≤ s.size ∧ f ≤ s.size ∧ p ≤ s.size ∧ acc.length ≤ j + 1 ∧ (gb = true → acc.length ≤ j) ∧ Hid (gb = true → linesS P s acc f p j = R) ∧ Hid (gb = false → some (acc, j) = R ∧ 0 < acc.length) ∧ Hid (Rd rb s j wr) ∧ Hid (Kp rb w wr) ∧ Hid (BoxAt wr w1.heap.size #[.int .i64 f, .int .i64 p, .slice none 0 0] 162) ∧ Hid (OwnL (w1.heap.size + 1) wr (.slice A acc.length c) acc)) (fun _ t8 wr => match t8 with | .bool true => s.size - posOf rb wr + 1 | _ => 0)
  case atStart => exact ⟨[], p0, 0, 0, true, none, 0, rfl, rfl, hS.2, Nat.zero_le _, Nat.zero_le _, Nat.zero_le _, fun _ => Nat.zero_le _, fun _ => HRR.out, (fun h => by cases h), G1.out.alloc _, HK.out.alloc (by have := HK.out.size; omega) _, BoxAt.new _ _ _, OwnL.nil _ _⟩
  case round =>
    obtain ⟨acc, j, f, p, gb, A, c, rfl, rfl, hj, hf, hp, hal, hal2, Hl, He, HRd, HKr, HB, HO⟩ := hrel
    have Hpos := Lib.hid HRd.out.pos
    have hs1 := HK.out.size
    have hsr := HKr.out.size
    have hbl := HB.out.lt
    cases gb
    case false =>
      obtain ⟨hRe, h0⟩ := He.out rfl
      obtain ⟨xs, ho, hz⟩ := HO.out
      rcases ho.2 with ⟨_, hn⟩ | ⟨g, cap, cur, hv, hb, hg, hc1, hc2, hcs, htk⟩
      · omega
      cases hv
      have hw := (Hwt.out acc j hRe.symm).1
      have hw0 : wtLs ([] : List LN) = 0 := rfl
      have hJ := join_any acc (OwnSet (w1.heap.size + 1) wr (.slice (some ⟨g, 0, none⟩) acc.length c)) g c wr h0 hc1 (by omega) (by omega) (LZip.at_ acc xs 0 (fun j x hx => by
        have := ho.cells (g := g) rfl j x hx
        rw [Addr.add_mid] at this
        exact this) hz) (Array.getElem?_eq_some_iff.1 hg).1 (fun b hb => hb.1.2)
      have HJ := Lib.hid hJ
      have HRe := Lib.hid hRe
      clear hJ hRe hw hw0 ho hz hg hcs htk hc1 hc2
      go_wp2_with fail
      go_at_call 106
      refine (HJ.out).mono ?_
      rintro e w2 ⟨hb2, A2, n2, c2, rfl, hn, hn4, hpat⟩
      have HB2 := Lib.hid hb2
      have HPt2 := Lib.hid hpat
      clear hb2 hpat
      go_wp2
      go_ret2
      have hQe : Q = some (joinS acc, j) := by rw [← HQ.out, ← HRe.out]; rfl
      subst hQe
      have hb2 := HB2.out.size
      refine ⟨HKr.out.trans (Kp.of_below HB2.out (by omega)), A2, n2, c2, j, rfl, HRd.out.later HB2.out, hj, hn4, fun l m h => ?_⟩
      cases h
      refine ⟨rfl, hn, PatF.carry (fun b hb => ?_) HPt2.out⟩
      rcases hb with ⟨⟨b1, b2⟩, _⟩ | ⟨b1, b2⟩
      · exact ⟨⟨by omega, by omega⟩, rfl⟩
      · exact ⟨⟨by omega, b2⟩, rfl⟩
    case true =>
      have hans := Hl.out rfl
      have hal3 := hal2 rfl
      rw [linesS] at hans
      have hPt := fun W h => HPt.out j W h hj
      obtain ⟨r, hrr⟩ : ∃ r, partsS P s [] j = r := ⟨_, rfl⟩
      have hjp := fun ps j' (h : r = some (ps, j')) => parts_pos _ _ _ (Nat.le_refl _) hj ps j' (hrr.trans h)
      rw [hrr] at hPt hans
      have HPr := Lib.hid hPt
      have Hans := Lib.hid hans
      have Hjp := Lib.hid hjp
      have hacc : (acc.length : Int) ≤ 1000000 := by omega
      have hrb1 : rb ≠ w1.heap.size := by omega
      clear hPt hans hrr hjp
      go_wp2_with fail
      go_at_call 105
      refine (HPr.out _ HRd.out).mono ?_
      rintro e w2 ⟨h1, A2, n2, c2, j2, rfl, h2, hj2, h3⟩
      have HK2 := Lib.hid (HKr.out.trans h1)
      have HB2 := Lib.hid (BoxAt.kp HB.out h1 (fun e => hrb1 e.symm))
      have HO2 := Lib.hid (HO.out.kp h1 (by omega))
      have H2 := Lib.hid h2
      have H3 := Lib.hid h3
      have hs2 := h1.size
      clear h1 h2 h3
      cases r with
      | none =>
        have hR := Hans.out
        dsimp only at hR
        have HRn := Lib.hid hR
        clear hR
        go_wp2
        go_ret2
        have hQe : Q = none := by rw [← HQ.out, ← HRn.out]; rfl
        subst hQe
        exact ⟨HK2.out, none, 0, 0, j2, rfl, H2.out, hj2, Nat.zero_le _, fun l m h => by cases h⟩
      | some pj =>
        obtain ⟨ps, j2'⟩ := pj
        obtain ⟨rfl, hpl, hpn, hpt⟩ := H3.out ps j2' rfl
        subst hpl
        have hR := Hans.out
        dsimp only at hR
        have hjj := Hjp.out _ _ rfl
        have hNx := fun W h => HNx.out j2' W h hj2
        have hnp := fun f' p' k (h : nextS s j2' = some (f', p', k)) => next_pos hj2 h
        obtain ⟨rn, hrn⟩ : ∃ r, nextS s j2' = r := ⟨_, rfl⟩
        rw [hrn] at hR hNx hnp
        have HRn := Lib.hid hR
        have HN := Lib.hid hNx
        have Hnp := Lib.hid hnp
        have HPF := Lib.hid hpt
        obtain ⟨q0, q1, q2, p0', p1, p2⟩ := cells3 HB2.out
        have hl2 := HB2.out.lt
        obtain ⟨xs6, ho6, hz6⟩ := (HO2.out.set (nb := w1.heap.size) (by omega) 2 (.slice A2 ps.length c2))
        have hown1 := ho6.alloc (.cells #[.int .i64 f, .int .i64 p, .slice A2 ps.length c2] 162)
        have hnew : BoxAt ((w2.setCell ⟨w1.heap.size, 2, none⟩ (.slice A2 ps.length c2)).alloc (.cells #[.int .i64 f, .int .i64 p, .slice A2 ps.length c2] 162)) w2.heap.size #[.int .i64 f, .int .i64 p, .slice A2 ps.length c2] 162 := BoxAt.new' _ _ _ _ (by simp)
        have hmid : BoxAt ((w2.setCell ⟨w1.heap.size, 2, none⟩ (.slice A2 ps.length c2)).alloc (.cells #[.int .i64 f, .int .i64 p, .slice A2 ps.length c2] 162)) w1.heap.size #[.int .i64 f, .int .i64 p, .slice A2 ps.length c2] 162 := (box_third HB2.out (.slice A2 ps.length c2)).alloc _
        have Hmid := Lib.hid hmid
        clear hmid
        obtain ⟨_, ho5, _⟩ := HO.out
        have Hv5 := Lib.hid (fun k e => ho5.lt k e)
        clear hR hNx hnp hrn hpt ho6 ho5
        go_wp2_with (at_builtin; refine wpList_append_where _ rfl _ _ 159 rfl (w1.heap.size + 1) 162 i0 (.agg #[.int .i64 0, .int .i64 0, .slice none 0 0]) 3 40 Tryz.underlying159 hi0 hz0 hz1 hz2 rfl (by decide) _ _ _ rfl hown1 ⟨w2.heap.size, 0, none⟩ 1 1 [.int .i64 f, .int .i64 p, .slice A2 ps.length c2] rfl rfl ?c1 ?c2 ?c3 ?c4 ?c5 ?c6 ?_)
        case c1 =>
          intro j u hj
          match j, hj with
          | 0, hj => simp at hj; subst hj; exact hnew.cell 0
          | 1, hj => simp at hj; subst hj; exact hnew.cell 1
          | 2, hj => simp at hj; subst hj; exact hnew.cell 2
        case c2 => intro u hu; simp at hu; rcases hu with rfl | rfl | rfl <;> rfl
        case c3 => unfold maxLen; omega
        case c4 => omega
        case c5 => simp; omega
        case c6 => decide
        intro v' w8 hown' hgrow hwh
        have K2 : Kp rb (w2.setCell ⟨w1.heap.size, 2, none⟩ (.slice A2 ps.length c2)) ((w2.setCell ⟨w1.heap.size, 2, none⟩ (.slice A2 ps.length c2)).alloc (.cells #[.int .i64 f, .int .i64 p, .slice A2 ps.length c2] 162)) := (Kp.refl rb _).alloc (by simp; omega) _
        have hcar : ∀ b, Since wr.heap.size w2 b → OwnSet (w1.heap.size + 1) ((w2.setCell ⟨w1.heap.size, 2, none⟩ (.slice A2 ps.length c2)).alloc (.cells #[.int .i64 f, .int .i64 p, .slice A2 ps.length c2] 162)) (.slice A acc.length c) b ∧ ((w2.setCell ⟨w1.heap.size, 2, none⟩ (.slice A2 ps.length c2)).alloc (.cells #[.int .i64 f, .int .i64 p, .slice A2 ps.length c2] 162)).heap[b]? = w2.heap[b]? := fun b hb => by
          obtain ⟨b1, b2⟩ := hb
          refine ⟨⟨⟨by omega, by simp; omega⟩, fun e => by have := Hv5.out b e.symm; omega⟩, ?_⟩
          exact (Lib.alloc_old _ _ b (by simpa using b2)).trans (Below.heap_setCell _ ⟨w1.heap.size, 2, none⟩ _ b (by show b ≠ w1.heap.size; omega))
        have HO8 := Lib.hid (ownL_push (rb := rb) (f := f) (p := p) (l := ps) (by omega) K2 hz6 (PatF.carry hcar HPF.out) hown' hgrow (by simpa using hwh))
        have G8 := Lib.hid (((H2.out.setOther hrb1 2 _).alloc _).grown hgrow (fun k e => by have := Hv5.out k e; omega))
        have HK8 := Lib.hid (Kp.grown ((HK2.out.setNew (b := w1.heap.size) hs1 hlt 2 _).alloc (by simp; omega) _) hgrow (fun k e => by have := (Hv5.out k e).1; omega) hlt)
        have HB8 := Lib.hid (show BoxAt w8 w1.heap.size #[.int .i64 f, .int .i64 p, .slice A2 ps.length c2] 162 from (hgrow.block w1.heap.size Hmid.out.lt (fun e => by have := (Hv5.out _ e.symm).1; omega)).trans Hmid.out)
        obtain ⟨A9, c9, rfl⟩ := own_slice hown' (by omega)
        clear hown' hgrow hwh K2 hcar hnew q0 q1 q2 p0' p1 p2 hown1 hz6
        go_wp2_with fail
        go_at_call 104
        refine (HN.out _ G8.out).mono ?_
        rintro e w9 ⟨h4, f', p', j3, rfl, h5, hj3, hf', hp', hnone, hsome⟩
        have HK9 := Lib.hid (HK8.out.trans h4)
        have HB9 := Lib.hid (BoxAt.kp HB8.out h4 (fun e => hrb1 e.symm))
        have HO9 := Lib.hid (HO8.out.kp h4 (by omega))
        have H9 := Lib.hid h5
        have hl9 := HB9.out.lt
        obtain ⟨q0, q1, q2, p0', p1, p2⟩ := cells3 HB9.out
        have Hnone := Lib.hid hnone
        have Hsome := Lib.hid hsome
        clear h4 h5 hnone hsome
        go_wp2
        go_roundw
        case rel =>
          refine ⟨acc ++ [⟨f, p, ps⟩], j3, f', p', rn.isSome, A9, c9, ?_, rfl, hj3, hf', hp', ?_, ?_, ?_, ?_, H9.out.set3 hrb1 _ _ _, HK9.out.set3 hs1 hlt _ _ _, box_set3 HB9.out _ _ _, ?_⟩
          · show Value.slice A9 _ c9 = _
            simp
          · rw [List.length_append, List.length_singleton]
            cases rn with
            | none => have := Hnone.out rfl; omega
            | some v => obtain ⟨f2, p2, k2⟩ := v; have := Hnp.out _ _ _ rfl; obtain ⟨_, _, e⟩ := Hsome.out _ _ _ rfl; omega
          · intro hg
            rw [List.length_append, List.length_singleton]
            cases rn with
            | none => cases hg
            | some v => obtain ⟨f2, p2, k2⟩ := v; have := Hnp.out _ _ _ rfl; obtain ⟨_, _, e⟩ := Hsome.out _ _ _ rfl; omega
          · intro hg
            cases rn with
            | none => cases hg
            | some v =>
              obtain ⟨f2, p2, k2⟩ := v
              have := Hnp.out _ _ _ rfl
              obtain ⟨rfl, rfl, rfl⟩ := Hsome.out _ _ _ rfl
              have hR := HRn.out
              dsimp only at hR
              rw [dif_pos (show j < k2 ∧ k2 ≤ s.size from ⟨by omega, hj3⟩)] at hR
              exact hR
          · intro hg
            cases rn with
            | some v => cases hg
            | none =>
              have e := Hnone.out rfl
              subst e
              have hR := HRn.out
              dsimp only at hR
              exact ⟨hR, by simp⟩
          · rw [List.length_append, List.length_singleton]
            exact ((HO9.out.set (nb := w1.heap.size) (by omega) 0 _).set (nb := w1.heap.size) (by omega) 1 _).set (nb := w1.heap.size) (by omega) 2 _
        case measure =>
          have e3 := (H9.out.set3 hrb1 (.int .i64 f') (.int .i64 p') (.slice none 0 0)).pos
          cases rn with
          | none => show 0 < s.size - posOf rb wr + 1; omega
          | some v =>
            obtain ⟨f2, p2, k2⟩ := v
            have := Hnp.out _ _ _ rfl
            obtain ⟨_, _, e⟩ := Hsome.out _ _ _ rfl
            have e4 := Hpos.out
            show s.size - posOf rb (set3 w9 w1.heap.size (.int .i64 f') (.int .i64 p') (.slice none 0 0)) + 1 < s.size - posOf rb wr + 1
            rw [e3, e4]
            omega
end Go.Proofs.YtamghpleajbonaaGreatDoor

namespace Go.Proofs.YtamghpleajbonaaGreatDoor
open Go.RowKit
set_option linter.unusedVariables false
set_option linter.unusedSimpArgs false
theorem or_some {α : Type} {a b : Option α} {v : α} (h : a.or b = some v) : a = some v ∨ b = some v := by
  cases a with
  | none => exact .inr (by simpa using h)
  | some x => exact .inl (by simpa using h)
section
variable {s : ByteArray} {P : Nat → Res} {i j : Nat} {e : EX}
theorem quo_pos (hi : i ≤ s.size) (h : quoS s i = some (e, j)) : i < j ∧ j ≤ s.size := by
  obtain ⟨T, n, b, _, hn, _, h4⟩ := quo_val s i hi
  obtain ⟨rfl, _, h0⟩ := h4 _ _ h
  omega
theorem var_pos (hi : i ≤ s.size) (h : varS s i = some (e, j)) : i < j ∧ j ≤ s.size := by
  unfold varS at h
  split at h
  · next hc =>
    rw [Bool.and_eq_true, decide_eq_true_iff] at hc
    have h1 := isAt_lt hc.1
    have h2 := nm_ok s (i + 1) h1
    cases h
    omega
  · cases h
theorem nest_pos (hP : PosOk s P) (h : nestS P i = some (e, j)) : i < j ∧ j ≤ s.size := by
  unfold nestS at h
  split at h
  · next hp => cases h; exact hP _ _ _ hp
  · cases h
theorem ref_pos {k : Int} (hi : i ≤ s.size) (h : refS k s i = some (e, j)) : i < j ∧ j ≤ s.size := by
  unfold refS at h
  have h1 := nm_ok s i hi
  split at h
  · cases h
  · split at h
    · next hd =>
      have h2 := isAt_lt hd
      have h3 := nm_ok s (nm s i + 1) h2
      split at h
      · cases h
      · cases h; omega
    · cases h; omega
theorem ter_pos (hi : i ≤ s.size) (h : terS s i = some (e, j)) : i < j ∧ j ≤ s.size := by
  unfold terS at h
  split at h
  · next hc =>
    have h1 := isAt_lt hc
    have := ref_pos (by omega) h
    omega
  · cases h
theorem nub_pos (hi : i ≤ s.size) (h : nubS s i = some (e, j)) : i < j ∧ j ≤ s.size := by
  unfold nubS at h
  have h1 := nu_ok s i hi
  split at h
  · cases h
  · cases h; omega
theorem head_pos (hP : PosOk s P) (hi : i ≤ s.size) (h : headS P s i = some (e, j)) : i < j ∧ j ≤ s.size := by
  unfold headS at h
  rcases or_some h with h | h
  · exact quo_pos hi h
  rcases or_some h with h | h
  · exact var_pos hi h
  rcases or_some h with h | h
  · exact nest_pos hP h
  rcases or_some h with h | h
  · exact ter_pos hi h
  rcases or_some h with h | h
  · exact ref_pos hi h
  · exact nub_pos hi h
theorem opn_pos (e : EX) (hj : j ≤ s.size) : j ≤ (opnS s e j).2 ∧ (opnS s e j).2 ≤ s.size := by
  unfold opnS
  have h1 := bl_ok s j hj
  split
  · split
    · next hc => have h2 := isAt_lt hc; exact ⟨by show j ≤ bl s j + 1; omega, h2⟩
    · exact h1
  · exact ⟨Nat.le_refl _, hj⟩
theorem nam_pos {n : ByteArray} (hi : i ≤ s.size) (h : namS s i = some (n, e, j)) : i < j ∧ j ≤ s.size := by
  unfold namS at h
  have h1 := nm_ok s i hi
  have h2 := bl_ok s (nm s i) h1.2
  split at h
  · cases h
  · split at h
    · next hc =>
      have h3 := isAt_lt hc
      have h4 := bl_ok s (bl s (nm s i) + 1) h3
      split at h
      · next e' q ho =>
        cases h
        have : bl s (bl s (nm s i) + 1) < j ∧ j ≤ s.size := by
          rcases or_some ho with ho | ho
          · exact quo_pos h4.2 ho
          · exact nub_pos h4.2 ho
        omega
      · cases h
    · cases h
theorem arg_pos {n : ByteArray} (hP : PosOk s P) (hi : i ≤ s.size) (h : argS P s i = some (n, e, j)) : i < j ∧ j ≤ s.size := by
  unfold argS at h
  split at h
  · next hn => cases h; exact nam_pos hi hn
  · split at h
    · next hh => cases h; exact head_pos hP hi hh
    · cases h
theorem args_pos (hP : PosOk s P) : ∀ (m : Nat) (xs : List AR) (want : Bool) (i : Nat), s.size - i ≤ m → i ≤ s.size → ∀ l j, argsS P s xs want i = some (l, j) → i < j ∧ j ≤ s.size := by
  intro m
  induction m with
  | zero =>
    intro xs want i hm hi l j h
    have h1 := bl_ok s i hi
    rw [argsS] at h
    split at h
    · next hc => have := isAt_lt hc; omega
    · split at h
      · split at h
        · next hc => have := isAt_lt hc; omega
        · cases h
      · split at h
        · cases h
        · next hh => have := arg_pos hP h1.2 hh; omega
  | succ m ih =>
    intro xs want i hm hi l j h
    have h1 := bl_ok s i hi
    rw [argsS] at h
    split at h
    · next hc => have := isAt_lt hc; cases h; omega
    · split at h
      · split at h
        · next hc =>
          have h2 := isAt_lt hc
          have := ih _ _ _ (by omega) h2 l j h
          omega
        · cases h
      · split at h
        · cases h
        · next n e' j' hh =>
          have h2 := arg_pos hP h1.2 hh
          split at h
          · split at h
            · next hg =>
              split at h
              · cases h
              · next hh2 =>
                have h3 := ih _ _ _ (by omega) hg.2 _ _ hh2
                split at h
                · next hg2 =>
                  split at h
                  · have := ih _ _ _ (by omega) hg2.2 l j h
                    omega
                  · cases h
                · cases h
            · cases h
          · generalize (if emp n = true then (opnS s e' j').2 else j') = q at h
            split at h
            · next hg =>
              split at h
              · have := ih _ _ _ (by omega) hg.2 l j h
                omega
              · cases h
            · cases h
theorem inl_pos (hP : PosOk s P) (hi : i ≤ s.size) (h : inlS P s i = some (e, j)) : i < j ∧ j ≤ s.size := by
  unfold inlS at h
  split at h
  · cases h
  · next e' j' hh =>
    have h1 := head_pos hP hi hh
    have h2 := opn_pos e' h1.2
    split at h
    · split at h
      · cases h
      · next ha =>
        cases h
        have := args_pos hP _ _ _ _ (Nat.le_refl _) h2.2 _ _ ha
        omega
    · cases h; omega
theorem vars_pos : ∀ (m : Nat) (acc : List VA) (i : Nat), s.size - i ≤ m → i ≤ s.size → ∀ l j, varsS P s acc i = some (l, j) → i < j ∧ j ≤ s.size := by
  intro m
  induction m with
  | zero =>
    intro acc i hm hi l j h
    rw [varsS] at h
    split at h
    · next hc => have := isAt_lt hc; omega
    · split at h
      · cases h
      · split at h
        · next hg => omega
        · cases h
  | succ m ih =>
    intro acc i hm hi l j h
    rw [varsS] at h
    split at h
    · next hc =>
      have := isAt_lt hc
      split at h
      · cases h; omega
      · cases h
    · split at h
      · cases h
      · split at h
        · next hg => have := ih _ _ (by omega) hg.2 l j h; omega
        · cases h
theorem sel_pos {l : List VA} (hi : i ≤ s.size) (h : selS P s i = some (l, j)) : i < j ∧ j ≤ s.size := by
  unfold selS at h
  have h1 := sp_ok s i hi
  split at h
  · next hc =>
    have h2 := isAt_lt hc
    have h3 := bl_ok s (sp s i + 1) h2
    have := vars_pos _ _ _ (Nat.le_refl _) h3.2 _ _ h
    omega
  · cases h
theorem pl_pos (hP : PosOk s P) : PosOk s (plS P s) := by
  intro i e j h
  unfold plS at h
  split at h
  · next hc =>
    have h1 := isAt_lt hc
    have h2 := bl_ok s (i + 1) h1
    split at h
    · cases h
    · next e' j' hin =>
      have h3 := inl_pos hP h2.2 hin
      have h4 := bl_ok s j' h3.2
      split at h
      · next hb =>
        have h5 := isAt_lt hb
        split at h
        · cases h
        · cases h; omega
      · split at h
        · next hb =>
          rw [Bool.and_eq_true, Bool.and_eq_true] at hb
          have h5 := isAt_lt hb.1.2
          split at h
          · cases h
          · next hsl =>
            cases h
            have := sel_pos (by omega) hsl
            omega
        · cases h
  · cases h
end
theorem place_pos (s : ByteArray) : ∀ r, PosOk s (placeS s r)
  | 0 => by
    intro i e j h
    rw [placeS] at h
    cases h
  | r + 1 => by
    rw [placeS_succ]
    exact pl_pos (place_pos s r)
def InKnot (rb : Nat) (s : ByteArray) : Prop := ∀ (d : Nat) (P : Nat → Res), d ≤ 20 → WayTo rb s 111 #[pt rb, .int .i64 ((d + 1 : Nat) : Int)] P → PosOk s P → WayTo rb s 123 #[pt rb, .int .i64 d] (inlS P s)
theorem place_knot {rb : Nat} {s : ByteArray} (hs : s.size ≤ 1000000) (hIn : InKnot rb s) : ∀ (r d : Nat), d + r = 21 → WayTo rb s 111 #[pt rb, .int .i64 (d : Nat)] (placeS s r)
  | 0, d, h => by
    have := place_deep (rb := rb) (s := s) (d := d) (by omega) (by omega)
    have e : placeS s 0 = fun _ => none := by funext i; rw [placeS]
    rw [e]
    exact this
  | r + 1, d, h => by
    rw [placeS_succ]
    have hP := place_knot hs hIn r (d + 1) (by omega)
    have hPos := place_pos s r
    refine place_any hs (by omega) (hIn d _ (by omega) hP hPos) ?_
    intro i w hr hi
    exact variants_any hs (by omega) (pattern_any hs (by omega) hP hPos) i w hr hi
end Go.Proofs.YtamghpleajbonaaGreatDoor
