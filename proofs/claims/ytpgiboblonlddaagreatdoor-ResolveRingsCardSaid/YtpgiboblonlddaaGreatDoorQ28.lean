/-
  Several texts put together (part 28): what the law and the program call, walked; their contracts.
-/
import Derived.Test.YtpgiboblonlddaaGreatDoorQ27
import Derived.Test.YtpgiboblonlddaaGreatDoorQ23
namespace Go.Proofs.YtpgiboblonlddaaGreatDoor
open Go.RowKit
set_option linter.unusedVariables false
set_option linter.unusedSimpArgs false
theorem next_pos {s : ByteArray} {i : Nat} (hi : i ≤ s.size) {f p k : Nat} (h : nextS s i = some (f, p, k)) : i < k := by
  have h0 := nl_wt i (s.size - i) 0 i i (Nat.le_refl _) hi (Nat.le_refl _) (by omega)
  unfold nextS at h
  split at h
  · cases h
  · next hn =>
    cases h
    have h1 : ¬ (nlS s 0 i i).2.2 = (nlS s 0 i i).2.1 := fun e => hn (Or.inl e)
    omega
theorem OwnL.set {B : Nat} {W : World} {v : Value} {acc : List LN} (h : OwnL B W v acc) {nb : Nat} (hb : nb < B) (o : Nat) (x : Value) : OwnL B (W.setCell ⟨nb, o, none⟩ x) v acc := by
  obtain ⟨xs, h1, h2⟩ := h
  refine ⟨xs, h1.kept (row := some nb) ⟨rfl, rfl, rfl, by simp, fun k _ hk => Below.heap_setCell _ _ _ _ (fun e => hk (by simp [e]))⟩ (.inr (fun e => by have := (h1.lt nb e).1; omega)), LZip.carry (fun b hb' => ?_) _ _ h2⟩
  obtain ⟨⟨hb1, hb2⟩, hb3⟩ := hb'
  exact ⟨⟨⟨hb1, by simpa using hb2⟩, hb3⟩, Below.heap_setCell _ ⟨nb, o, none⟩ _ b (by show b ≠ nb; omega)⟩
theorem box_third {w : World} {k : Nat} {a b c : Value} {t : TypeId} (h : BoxAt w k #[a, b, c] t) (v : Value) : BoxAt (w.setCell ⟨k, 2, none⟩ v) k #[a, b, v] t := by
  unfold BoxAt at h ⊢
  simp [World.setCell, Array.getElem?_modify, h]
def patQ : Option (List LN × Nat) → Option (List EL × Nat)
  | none => none
  | some (ls, j) => some (joinS ls, j)
theorem patS_q (P : Nat → Res) (s : ByteArray) (i : Nat) : patS P s i = patQ (linesS P s [] 0 0 (sp s i)) := by
  unfold patS
  cases linesS P s [] 0 0 (sp s i) with
  | none => rfl
  | some v => obtain ⟨ls, j⟩ := v; rfl
set_option maxHeartbeats 4000000 in
set_option maxRecDepth 100000 in
theorem pattern_any {rb : Nat} {s : ByteArray} {d : Nat} {P : Nat → Res} (hs : s.size ≤ 1000000) (hd : d ≤ 3000) (hP : WayTo rb s 241 #[pt rb, .int .i64 ((d + 1 : Nat) : Int)] P) (hPos : PosOk s P) : PatTo rb s d (patS P s) := by
  intro i w hr hi
  obtain ⟨i0, hi0, hz0, hz1, hz2⟩ := info_parts infoLine
  have HR := Lib.hid hr
  have hlt := hr.lt
  have hS := sp_ok s i hi
  have hP1 := fun W (h : Rd rb s i W) => pass_any endSpaces W h (by omega) hi
  obtain ⟨R, hRR⟩ : ∃ R, linesS P s [] 0 0 (sp s i) = R := ⟨_, rfl⟩
  have hwt := fun ls j h => lines_wt hPos _ _ _ _ _ (Nat.le_refl _) hS.2 ls j (hRR.trans h)
  rw [patS_q, hRR]
  obtain ⟨p0, hp0⟩ : ∃ p, sp s i = p := ⟨_, rfl⟩
  rw [hp0] at hS hP1 hRR hwt
  have hPt := fun j W (h : Rd rb s j W) hj => parts_any hs (show d + 1 ≤ 4000 by omega) hP hPos j W h hj
  have hNx := fun j W (h : Rd rb s j W) hj => nextLine_any hs j W h hj
  obtain ⟨Q, hQ⟩ : ∃ Q, patQ R = Q := ⟨_, rfl⟩
  rw [show ((d + 1 : Nat) : Int) = (d : Int) + 1 by omega] at hPt
  rw [hQ]
  have HP1 := Lib.hid hP1
  have HPt := Lib.hid hPt
  have HNx := Lib.hid hNx
  have HQ := Lib.hid hQ
  have HRR := Lib.hid hRR
  have Hwt := Lib.hid hwt
  have hd0 : (d : Int) ≤ 3000 := by omega
  clear hr hP1 hp0 hP hPos hPt hNx hQ hRR hwt
  unfold pt at HP1 HPt HNx ⊢
  go_enter Tryz.func195, Tryz.ntmps195
  go_wp2_with fail
  go_at_call 218
  refine (HP1.out _ HR.out).mono ?_
  rintro e w1 ⟨rfl, g1, g2⟩
  have G1 := Lib.hid g1
  have HK := Lib.hid g2
  clear g1 g2
  go_wp2
  go_loopw [6, 8] (fun t6 t8 wr => ∃ (acc : List LN) (j f p : Nat) (gb : Bool) (A : Option Addr) (c : Nat), t6 = .slice A acc.length c ∧ t8 = .bool gb ∧ j ≤ s.size ∧ f ≤ s.size ∧ p ≤ s.size ∧ acc.length ≤ j + 1 ∧ (gb = true → acc.length ≤ j) ∧ Hid (gb = true → linesS P s acc f p j = R) ∧ Hid (gb = false → some (acc, j) = R ∧ 0 < acc.length) ∧ Hid (Rd rb s j wr) ∧ Hid (Kp rb w wr) ∧ Hid (BoxAt wr w1.heap.size #[.int .i64 f, .int .i64 p, .slice none 0 0] 300) ∧ Hid (OwnL (w1.heap.size + 1) wr (.slice A acc.length c) acc)) (fun _ t8 wr => match t8 with | .bool true => s.size - posOf rb wr + 1 | _ => 0)
  case atStart => exact ⟨[], p0, 0, 0, true, none, 0, rfl, rfl, hS.2, Nat.zero_le _, Nat.zero_le _, Nat.zero_le _, fun _ => Nat.zero_le _, fun _ => HRR.out, (fun h => by cases h), G1.out.alloc _, HK.out.alloc (by have := HK.out.size; omega) _, BoxAt.new _ _ _, OwnL.nil _ _⟩
  case round =>
    obtain ⟨acc, j, f, p, gb, A, c, rfl, rfl, hj, hf, hp, hal, hal2, Hl, He, HRd, HKr, HB, HO⟩ := hrel
    have Hpos := Lib.hid HRd.out.pos
    have hs1 := HK.out.size
    have hsr := HKr.out.size
    have hbl := HB.out.lt
    cases gb
    case false =>
      obtain ⟨hRe, h0⟩ := He.out rfl
      obtain ⟨xs, ho, hz⟩ := HO.out
      rcases ho.2 with ⟨_, hn⟩ | ⟨g, cap, cur, hv, hb, hg, hc1, hc2, hcs, htk⟩
      · omega
      cases hv
      have hw := (Hwt.out acc j hRe.symm).1
      have hw0 : wtLs ([] : List LN) = 0 := rfl
      have hJ := join_any acc (OwnSet (w1.heap.size + 1) wr (.slice (some ⟨g, 0, none⟩) acc.length c)) g c wr h0 hc1 (by omega) (by omega) (LZip.at_ acc xs 0 (fun j x hx => by
        have := ho.cells (g := g) rfl j x hx
        rw [Addr.add_mid] at this
        exact this) hz) (Array.getElem?_eq_some_iff.1 hg).1 (fun b hb => hb.1.2)
      have HJ := Lib.hid hJ
      have HRe := Lib.hid hRe
      clear hJ hRe hw hw0 ho hz hg hcs htk hc1 hc2
      go_wp2_with fail
      go_at_call 221
      refine (HJ.out).mono ?_
      rintro e w2 ⟨hb2, A2, n2, c2, rfl, hn, hn4, hpat⟩
      have HB2 := Lib.hid hb2
      have HPt2 := Lib.hid hpat
      clear hb2 hpat
      go_wp2
      go_ret2
      have hQe : Q = some (joinS acc, j) := by rw [← HQ.out, ← HRe.out]; rfl
      subst hQe
      have hb2 := HB2.out.size
      refine ⟨HKr.out.trans (Kp.of_below HB2.out (by omega)), A2, n2, c2, j, rfl, HRd.out.later HB2.out, hj, hn4, fun l m h => ?_⟩
      cases h
      refine ⟨rfl, hn, PatF.carry (fun b hb => ?_) HPt2.out⟩
      rcases hb with ⟨⟨b1, b2⟩, _⟩ | ⟨b1, b2⟩
      · exact ⟨⟨by omega, by omega⟩, rfl⟩
      · exact ⟨⟨by omega, b2⟩, rfl⟩
    case true =>
      have hans := Hl.out rfl
      have hal3 := hal2 rfl
      rw [linesS] at hans
      have hPt := fun W h => HPt.out j W h hj
      obtain ⟨r, hrr⟩ : ∃ r, partsS P s [] j = r := ⟨_, rfl⟩
      have hjp := fun ps j' (h : r = some (ps, j')) => parts_pos _ _ _ (Nat.le_refl _) hj ps j' (hrr.trans h)
      rw [hrr] at hPt hans
      have HPr := Lib.hid hPt
      have Hans := Lib.hid hans
      have Hjp := Lib.hid hjp
      have hacc : (acc.length : Int) ≤ 1000000 := by omega
      have hrb1 : rb ≠ w1.heap.size := by omega
      clear hPt hans hrr hjp
      go_wp2_with fail
      go_at_call 220
      refine (HPr.out _ HRd.out).mono ?_
      rintro e w2 ⟨h1, A2, n2, c2, j2, rfl, h2, hj2, h3⟩
      have HK2 := Lib.hid (HKr.out.trans h1)
      have HB2 := Lib.hid (BoxAt.kp HB.out h1 (fun e => hrb1 e.symm))
      have HO2 := Lib.hid (HO.out.kp h1 (by omega))
      have H2 := Lib.hid h2
      have H3 := Lib.hid h3
      have hs2 := h1.size
      clear h1 h2 h3
      cases r with
      | none =>
        have hR := Hans.out
        dsimp only at hR
        have HRn := Lib.hid hR
        clear hR
        go_wp2
        go_ret2
        have hQe : Q = none := by rw [← HQ.out, ← HRn.out]; rfl
        subst hQe
        exact ⟨HK2.out, none, 0, 0, j2, rfl, H2.out, hj2, Nat.zero_le _, fun l m h => by cases h⟩
      | some pj =>
        obtain ⟨ps, j2'⟩ := pj
        obtain ⟨rfl, hpl, hpn, hpt⟩ := H3.out ps j2' rfl
        subst hpl
        have hR := Hans.out
        dsimp only at hR
        have hjj := Hjp.out _ _ rfl
        have hNx := fun W h => HNx.out j2' W h hj2
        have hnp := fun f' p' k (h : nextS s j2' = some (f', p', k)) => next_pos hj2 h
        obtain ⟨rn, hrn⟩ : ∃ r, nextS s j2' = r := ⟨_, rfl⟩
        rw [hrn] at hR hNx hnp
        have HRn := Lib.hid hR
        have HN := Lib.hid hNx
        have Hnp := Lib.hid hnp
        have HPF := Lib.hid hpt
        obtain ⟨q0, q1, q2, p0', p1, p2⟩ := cells3 HB2.out
        have hl2 := HB2.out.lt
        obtain ⟨xs6, ho6, hz6⟩ := (HO2.out.set (nb := w1.heap.size) (by omega) 2 (.slice A2 ps.length c2))
        have hown1 := ho6.alloc (.cells #[.int .i64 f, .int .i64 p, .slice A2 ps.length c2] 300)
        have hnew : BoxAt ((w2.setCell ⟨w1.heap.size, 2, none⟩ (.slice A2 ps.length c2)).alloc (.cells #[.int .i64 f, .int .i64 p, .slice A2 ps.length c2] 300)) w2.heap.size #[.int .i64 f, .int .i64 p, .slice A2 ps.length c2] 300 := BoxAt.new' _ _ _ _ (by simp)
        have hmid : BoxAt ((w2.setCell ⟨w1.heap.size, 2, none⟩ (.slice A2 ps.length c2)).alloc (.cells #[.int .i64 f, .int .i64 p, .slice A2 ps.length c2] 300)) w1.heap.size #[.int .i64 f, .int .i64 p, .slice A2 ps.length c2] 300 := (box_third HB2.out (.slice A2 ps.length c2)).alloc _
        have Hmid := Lib.hid hmid
        clear hmid
        obtain ⟨_, ho5, _⟩ := HO.out
        have Hv5 := Lib.hid (fun k e => ho5.lt k e)
        clear hR hNx hnp hrn hpt ho6 ho5
        go_wp2_with (at_builtin; refine wpList_append_where _ rfl _ _ 297 rfl (w1.heap.size + 1) 300 i0 (.agg #[.int .i64 0, .int .i64 0, .slice none 0 0]) 3 40 Tryz.underlying297 hi0 hz0 hz1 hz2 rfl (by decide) _ _ _ rfl hown1 ⟨w2.heap.size, 0, none⟩ 1 1 [.int .i64 f, .int .i64 p, .slice A2 ps.length c2] rfl rfl ?c1 ?c2 ?c3 ?c4 ?c5 ?c6 ?_)
        case c1 =>
          intro j u hj
          match j, hj with
          | 0, hj => simp at hj; subst hj; exact hnew.cell 0
          | 1, hj => simp at hj; subst hj; exact hnew.cell 1
          | 2, hj => simp at hj; subst hj; exact hnew.cell 2
        case c2 => intro u hu; simp at hu; rcases hu with rfl | rfl | rfl <;> rfl
        case c3 => unfold maxLen; omega
        case c4 => omega
        case c5 => simp; omega
        case c6 => decide
        intro v' w8 hown' hgrow hwh
        have K2 : Kp rb (w2.setCell ⟨w1.heap.size, 2, none⟩ (.slice A2 ps.length c2)) ((w2.setCell ⟨w1.heap.size, 2, none⟩ (.slice A2 ps.length c2)).alloc (.cells #[.int .i64 f, .int .i64 p, .slice A2 ps.length c2] 300)) := (Kp.refl rb _).alloc (by simp; omega) _
        have hcar : ∀ b, Since wr.heap.size w2 b → OwnSet (w1.heap.size + 1) ((w2.setCell ⟨w1.heap.size, 2, none⟩ (.slice A2 ps.length c2)).alloc (.cells #[.int .i64 f, .int .i64 p, .slice A2 ps.length c2] 300)) (.slice A acc.length c) b ∧ ((w2.setCell ⟨w1.heap.size, 2, none⟩ (.slice A2 ps.length c2)).alloc (.cells #[.int .i64 f, .int .i64 p, .slice A2 ps.length c2] 300)).heap[b]? = w2.heap[b]? := fun b hb => by
          obtain ⟨b1, b2⟩ := hb
          refine ⟨⟨⟨by omega, by simp; omega⟩, fun e => by have := Hv5.out b e.symm; omega⟩, ?_⟩
          exact (Lib.alloc_old _ _ b (by simpa using b2)).trans (Below.heap_setCell _ ⟨w1.heap.size, 2, none⟩ _ b (by show b ≠ w1.heap.size; omega))
        have HO8 := Lib.hid (ownL_push (rb := rb) (f := f) (p := p) (l := ps) (by omega) K2 hz6 (PatF.carry hcar HPF.out) hown' hgrow (by simpa using hwh))
        have G8 := Lib.hid (((H2.out.setOther hrb1 2 _).alloc _).grown hgrow (fun k e => by have := Hv5.out k e; omega))
        have HK8 := Lib.hid (Kp.grown ((HK2.out.setNew (b := w1.heap.size) hs1 hlt 2 _).alloc (by simp; omega) _) hgrow (fun k e => by have := (Hv5.out k e).1; omega) hlt)
        have HB8 := Lib.hid (show BoxAt w8 w1.heap.size #[.int .i64 f, .int .i64 p, .slice A2 ps.length c2] 300 from (hgrow.block w1.heap.size Hmid.out.lt (fun e => by have := (Hv5.out _ e.symm).1; omega)).trans Hmid.out)
        obtain ⟨A9, c9, rfl⟩ := own_slice hown' (by omega)
        clear hown' hgrow hwh K2 hcar hnew q0 q1 q2 p0' p1 p2 hown1 hz6
        go_wp2_with fail
        go_at_call 219
        refine (HN.out _ G8.out).mono ?_
        rintro e w9 ⟨h4, f', p', j3, rfl, h5, hj3, hf', hp', hnone, hsome⟩
        have HK9 := Lib.hid (HK8.out.trans h4)
        have HB9 := Lib.hid (BoxAt.kp HB8.out h4 (fun e => hrb1 e.symm))
        have HO9 := Lib.hid (HO8.out.kp h4 (by omega))
        have H9 := Lib.hid h5
        have hl9 := HB9.out.lt
        obtain ⟨q0, q1, q2, p0', p1, p2⟩ := cells3 HB9.out
        have Hnone := Lib.hid hnone
        have Hsome := Lib.hid hsome
        clear h4 h5 hnone hsome
        go_wp2
        go_roundw
        case rel =>
          refine ⟨acc ++ [⟨f, p, ps⟩], j3, f', p', rn.isSome, A9, c9, ?_, rfl, hj3, hf', hp', ?_, ?_, ?_, ?_, H9.out.set3 hrb1 _ _ _, HK9.out.set3 hs1 hlt _ _ _, box_set3 HB9.out _ _ _, ?_⟩
          · show Value.slice A9 _ c9 = _
            simp
          · rw [List.length_append, List.length_singleton]
            cases rn with
            | none => have := Hnone.out rfl; omega
            | some v => obtain ⟨f2, p2, k2⟩ := v; have := Hnp.out _ _ _ rfl; obtain ⟨_, _, e⟩ := Hsome.out _ _ _ rfl; omega
          · intro hg
            rw [List.length_append, List.length_singleton]
            cases rn with
            | none => cases hg
            | some v => obtain ⟨f2, p2, k2⟩ := v; have := Hnp.out _ _ _ rfl; obtain ⟨_, _, e⟩ := Hsome.out _ _ _ rfl; omega
          · intro hg
            cases rn with
            | none => cases hg
            | some v =>
              obtain ⟨f2, p2, k2⟩ := v
              have := Hnp.out _ _ _ rfl
              obtain ⟨rfl, rfl, rfl⟩ := Hsome.out _ _ _ rfl
              have hR := HRn.out
              dsimp only at hR
              rw [dif_pos (show j < k2 ∧ k2 ≤ s.size from ⟨by omega, hj3⟩)] at hR
              exact hR
          · intro hg
            cases rn with
            | some v => cases hg
            | none =>
              have e := Hnone.out rfl
              subst e
              have hR := HRn.out
              dsimp only at hR
              exact ⟨hR, by simp⟩
          · rw [List.length_append, List.length_singleton]
            exact ((HO9.out.set (nb := w1.heap.size) (by omega) 0 _).set (nb := w1.heap.size) (by omega) 1 _).set (nb := w1.heap.size) (by omega) 2 _
        case measure =>
          have e3 := (H9.out.set3 hrb1 (.int .i64 f') (.int .i64 p') (.slice none 0 0)).pos
          cases rn with
          | none => show 0 < s.size - posOf rb wr + 1; omega
          | some v =>
            obtain ⟨f2, p2, k2⟩ := v
            have := Hnp.out _ _ _ rfl
            obtain ⟨_, _, e⟩ := Hsome.out _ _ _ rfl
            have e4 := Hpos.out
            show s.size - posOf rb (set3 w9 w1.heap.size (.int .i64 f') (.int .i64 p') (.slice none 0 0)) + 1 < s.size - posOf rb wr + 1
            rw [e3, e4]
            omega
end Go.Proofs.YtpgiboblonlddaaGreatDoor

namespace Go.Proofs.YtpgiboblonlddaaGreatDoor
open Go.RowKit
set_option linter.unusedVariables false
set_option linter.unusedSimpArgs false
theorem or_some {α : Type} {a b : Option α} {v : α} (h : a.or b = some v) : a = some v ∨ b = some v := by
  cases a with
  | none => exact .inr (by simpa using h)
  | some x => exact .inl (by simpa using h)
section
variable {s : ByteArray} {P : Nat → Res} {i j : Nat} {e : EX}
theorem quo_pos (hi : i ≤ s.size) (h : quoS s i = some (e, j)) : i < j ∧ j ≤ s.size := by
  obtain ⟨T, n, b, _, hn, _, h4⟩ := quo_val s i hi
  obtain ⟨rfl, _, h0⟩ := h4 _ _ h
  omega
theorem var_pos (hi : i ≤ s.size) (h : varS s i = some (e, j)) : i < j ∧ j ≤ s.size := by
  unfold varS at h
  split at h
  · next hc =>
    rw [Bool.and_eq_true, decide_eq_true_iff] at hc
    have h1 := isAt_lt hc.1
    have h2 := nm_ok s (i + 1) h1
    cases h
    omega
  · cases h
theorem nest_pos (hP : PosOk s P) (h : nestS P i = some (e, j)) : i < j ∧ j ≤ s.size := by
  unfold nestS at h
  split at h
  · next hp => cases h; exact hP _ _ _ hp
  · cases h
theorem ref_pos {k : Int} (hi : i ≤ s.size) (h : refS k s i = some (e, j)) : i < j ∧ j ≤ s.size := by
  unfold refS at h
  have h1 := nm_ok s i hi
  split at h
  · cases h
  · split at h
    · next hd =>
      have h2 := isAt_lt hd
      have h3 := nm_ok s (nm s i + 1) h2
      split at h
      · cases h
      · cases h; omega
    · cases h; omega
theorem ter_pos (hi : i ≤ s.size) (h : terS s i = some (e, j)) : i < j ∧ j ≤ s.size := by
  unfold terS at h
  split at h
  · next hc =>
    have h1 := isAt_lt hc
    have := ref_pos (by omega) h
    omega
  · cases h
theorem nub_pos (hi : i ≤ s.size) (h : nubS s i = some (e, j)) : i < j ∧ j ≤ s.size := by
  unfold nubS at h
  have h1 := nu_ok s i hi
  split at h
  · cases h
  · cases h; omega
theorem head_pos (hP : PosOk s P) (hi : i ≤ s.size) (h : headS P s i = some (e, j)) : i < j ∧ j ≤ s.size := by
  unfold headS at h
  rcases or_some h with h | h
  · exact quo_pos hi h
  rcases or_some h with h | h
  · exact var_pos hi h
  rcases or_some h with h | h
  · exact nest_pos hP h
  rcases or_some h with h | h
  · exact ter_pos hi h
  rcases or_some h with h | h
  · exact ref_pos hi h
  · exact nub_pos hi h
theorem opn_pos (e : EX) (hj : j ≤ s.size) : j ≤ (opnS s e j).2 ∧ (opnS s e j).2 ≤ s.size := by
  unfold opnS
  have h1 := bl_ok s j hj
  split
  · split
    · next hc => have h2 := isAt_lt hc; exact ⟨by show j ≤ bl s j + 1; omega, h2⟩
    · exact h1
  · exact ⟨Nat.le_refl _, hj⟩
theorem nam_pos {n : ByteArray} (hi : i ≤ s.size) (h : namS s i = some (n, e, j)) : i < j ∧ j ≤ s.size := by
  unfold namS at h
  have h1 := nm_ok s i hi
  have h2 := bl_ok s (nm s i) h1.2
  split at h
  · cases h
  · split at h
    · next hc =>
      have h3 := isAt_lt hc
      have h4 := bl_ok s (bl s (nm s i) + 1) h3
      split at h
      · next e' q ho =>
        cases h
        have : bl s (bl s (nm s i) + 1) < j ∧ j ≤ s.size := by
          rcases or_some ho with ho | ho
          · exact quo_pos h4.2 ho
          · exact nub_pos h4.2 ho
        omega
      · cases h
    · cases h
theorem arg_pos {n : ByteArray} (hP : PosOk s P) (hi : i ≤ s.size) (h : argS P s i = some (n, e, j)) : i < j ∧ j ≤ s.size := by
  unfold argS at h
  split at h
  · next hn => cases h; exact nam_pos hi hn
  · split at h
    · next hh => cases h; exact head_pos hP hi hh
    · cases h
theorem args_pos (hP : PosOk s P) : ∀ (m : Nat) (xs : List AR) (want : Bool) (i : Nat), s.size - i ≤ m → i ≤ s.size → ∀ l j, argsS P s xs want i = some (l, j) → i < j ∧ j ≤ s.size := by
  intro m
  induction m with
  | zero =>
    intro xs want i hm hi l j h
    have h1 := bl_ok s i hi
    rw [argsS] at h
    split at h
    · next hc => have := isAt_lt hc; omega
    · split at h
      · split at h
        · next hc => have := isAt_lt hc; omega
        · cases h
      · split at h
        · cases h
        · next hh => have := arg_pos hP h1.2 hh; omega
  | succ m ih =>
    intro xs want i hm hi l j h
    have h1 := bl_ok s i hi
    rw [argsS] at h
    split at h
    · next hc => have := isAt_lt hc; cases h; omega
    · split at h
      · split at h
        · next hc =>
          have h2 := isAt_lt hc
          have := ih _ _ _ (by omega) h2 l j h
          omega
        · cases h
      · split at h
        · cases h
        · next n e' j' hh =>
          have h2 := arg_pos hP h1.2 hh
          split at h
          · split at h
            · next hg =>
              split at h
              · cases h
              · next hh2 =>
                have h3 := ih _ _ _ (by omega) hg.2 _ _ hh2
                split at h
                · next hg2 =>
                  split at h
                  · have := ih _ _ _ (by omega) hg2.2 l j h
                    omega
                  · cases h
                · cases h
            · cases h
          · generalize (if emp n = true then (opnS s e' j').2 else j') = q at h
            split at h
            · next hg =>
              split at h
              · have := ih _ _ _ (by omega) hg.2 l j h
                omega
              · cases h
            · cases h
theorem inl_pos (hP : PosOk s P) (hi : i ≤ s.size) (h : inlS P s i = some (e, j)) : i < j ∧ j ≤ s.size := by
  unfold inlS at h
  split at h
  · cases h
  · next e' j' hh =>
    have h1 := head_pos hP hi hh
    have h2 := opn_pos e' h1.2
    split at h
    · split at h
      · cases h
      · next ha =>
        cases h
        have := args_pos hP _ _ _ _ (Nat.le_refl _) h2.2 _ _ ha
        omega
    · cases h; omega
theorem vars_pos : ∀ (m : Nat) (acc : List VA) (i : Nat), s.size - i ≤ m → i ≤ s.size → ∀ l j, varsS P s acc i = some (l, j) → i < j ∧ j ≤ s.size := by
  intro m
  induction m with
  | zero =>
    intro acc i hm hi l j h
    rw [varsS] at h
    split at h
    · next hc => have := isAt_lt hc; omega
    · split at h
      · cases h
      · split at h
        · next hg => omega
        · cases h
  | succ m ih =>
    intro acc i hm hi l j h
    rw [varsS] at h
    split at h
    · next hc =>
      have := isAt_lt hc
      split at h
      · cases h; omega
      · cases h
    · split at h
      · cases h
      · split at h
        · next hg => have := ih _ _ (by omega) hg.2 l j h; omega
        · cases h
theorem sel_pos {l : List VA} (hi : i ≤ s.size) (h : selS P s i = some (l, j)) : i < j ∧ j ≤ s.size := by
  unfold selS at h
  have h1 := sp_ok s i hi
  split at h
  · next hc =>
    have h2 := isAt_lt hc
    have h3 := bl_ok s (sp s i + 1) h2
    have := vars_pos _ _ _ (Nat.le_refl _) h3.2 _ _ h
    omega
  · cases h
theorem pl_pos (hP : PosOk s P) : PosOk s (plS P s) := by
  intro i e j h
  unfold plS at h
  split at h
  · next hc =>
    have h1 := isAt_lt hc
    have h2 := bl_ok s (i + 1) h1
    split at h
    · cases h
    · next e' j' hin =>
      have h3 := inl_pos hP h2.2 hin
      have h4 := bl_ok s j' h3.2
      split at h
      · next hb =>
        have h5 := isAt_lt hb
        split at h
        · cases h
        · cases h; omega
      · split at h
        · next hb =>
          rw [Bool.and_eq_true, Bool.and_eq_true] at hb
          have h5 := isAt_lt hb.1.2
          split at h
          · cases h
          · next hsl =>
            cases h
            have := sel_pos (by omega) hsl
            omega
        · cases h
  · cases h
end
theorem place_pos (s : ByteArray) : ∀ r, PosOk s (placeS s r)
  | 0 => by
    intro i e j h
    rw [placeS] at h
    cases h
  | r + 1 => by
    rw [placeS_succ]
    exact pl_pos (place_pos s r)
def InKnot (rb : Nat) (s : ByteArray) : Prop := ∀ (d : Nat) (P : Nat → Res), d ≤ 20 → WayTo rb s 241 #[pt rb, .int .i64 ((d + 1 : Nat) : Int)] P → PosOk s P → WayTo rb s 254 #[pt rb, .int .i64 d] (inlS P s)
theorem place_knot {rb : Nat} {s : ByteArray} (hs : s.size ≤ 1000000) (hIn : InKnot rb s) : ∀ (r d : Nat), d + r = 21 → WayTo rb s 241 #[pt rb, .int .i64 (d : Nat)] (placeS s r)
  | 0, d, h => by
    have := place_deep (rb := rb) (s := s) (d := d) (by omega) (by omega)
    have e : placeS s 0 = fun _ => none := by funext i; rw [placeS]
    rw [e]
    exact this
  | r + 1, d, h => by
    rw [placeS_succ]
    have hP := place_knot hs hIn r (d + 1) (by omega)
    have hPos := place_pos s r
    refine place_any hs (by omega) (hIn d _ (by omega) hP hPos) ?_
    intro i w hr hi
    exact variants_any hs (by omega) (pattern_any hs (by omega) hP hPos) i w hr hi
end Go.Proofs.YtpgiboblonlddaaGreatDoor

namespace Go.Proofs.YtpgiboblonlddaaGreatDoor
open Go.RowKit
set_option linter.unusedVariables false
set_option linter.unusedSimpArgs false
theorem trim_eq (l : List UInt8) : ∃ z, (∀ c ∈ z, c = 32) ∧ l = trimR l ++ z := by
  refine ⟨(l.reverse.takeWhile (· == 32)).reverse, fun c hc => ?_, ?_⟩
  · rw [List.mem_reverse] at hc
    have h := List.all_takeWhile (l := l.reverse) (p := (· == (32 : UInt8)))
    rw [List.all_eq_true] at h
    exact beq_iff_eq.1 (h c hc)
  · unfold trimR
    rw [← List.reverse_append, List.takeWhile_append_dropWhile, List.reverse_reverse]
theorem mkB_dl (l : List UInt8) : (mkB l).data.toList = l := List.toList_toArray
theorem nl_shape {s : ByteArray} : ∀ (m f fr q : Nat), s.size - q ≤ m → q ≤ s.size → (fr = q ∨ (q = sp s fr ∧ fr ≤ s.size ∧ 0 < f)) →
    isAt s (nlS s f fr q).2.2 10 = false ∧ (nlS s f fr q).2.2 ≤ s.size ∧ ((nlS s f fr q).2.2 = (nlS s f fr q).2.1 ∨ ((nlS s f fr q).2.2 = sp s (nlS s f fr q).2.1 ∧ (nlS s f fr q).2.1 ≤ s.size ∧ 0 < (nlS s f fr q).1))
  | m, f, fr, q, hm, hq, h => by
    rw [nlS]
    split
    · next hc =>
      have h1 := isAt_lt hc
      have h2 := sp_ok s (q + 1) h1
      cases m with
      | zero => omega
      | succ m => exact nl_shape m (f + 1) (q + 1) (sp s (q + 1)) (by omega) h2.2 (Or.inr ⟨rfl, h1, by omega⟩)
    · next hc =>
      refine ⟨by simpa using hc, hq, ?_⟩
      rcases h with h | h
      · exact Or.inl h.symm
      · exact Or.inr h
end Go.Proofs.YtpgiboblonlddaaGreatDoor

namespace Go.Proofs.YtpgiboblonlddaaGreatDoor
open Go.RowKit
set_option linter.unusedVariables false
set_option linter.unusedSimpArgs false
theorem unq_long (s : ByteArray) : ∀ (f pos next : Nat) (acc t : List UInt8) (n : Nat), acc.length ≤ 4 * max pos next → unqFrom s f pos next acc = some (t, n) → t.length ≤ 4 * n
  | 0, _, _, _, _, _, _, h => by rw [unqFrom] at h; cases h
  | f + 1, pos, next, acc, t, n, ha, h => by
    rw [unqFrom] at h
    split at h
    · next hp =>
      have hw := width_pos s pos hp
      have enc4 : ∀ r : Int, (Lib.encodeRune r).length ≤ 4 := fun r => by
        have := (Lib.runeCells_le r).2
        rw [Lib.runeCells_length] at this
        exact this
      split at h
      · exact unq_long s f _ _ _ t n (by omega) h
      · split at h
        · cases h; omega
        · split at h
          · cases h
          · split at h
            · split at h
              · cases h
              · refine unq_long s f _ _ _ t n ?_ h
                have := enc4 (escV (s.data.toList.drop pos)).1
                rw [List.length_append]
                omega
            · refine unq_long s f _ _ _ t n ?_ h
              have := enc4 (Utf8.decode s pos).1
              rw [List.length_append]
              omega
    · cases h
section
variable {s : ByteArray} {P : Nat → Res} {i j : Nat} {e : EX}
theorem mk_size (k : Int) (t n a : ByteArray) : (EX.mk k t n a [] none []).size = 1 + t.size + n.size + a.size := by
  rw [EX.size, sizeAs, sizeO, sizeVs]
  omega
theorem E0_size : (E0 : ByteArray).size = 0 := rfl
theorem ext_le9 (s : ByteArray) (i j : Nat) : (s.extract i j).size ≤ j - i := by rw [ByteArray.size_extract]; omega
theorem quo_sz (hi : i ≤ s.size) (h : quoS s i = some (e, j)) : e.size ≤ 8 * (j - i) := by
  have hp := quo_pos hi h
  unfold quoS at h
  split at h
  · next t n hu =>
    cases h
    have hl : t.length ≤ 4 * n := by
      unfold unqAll at hu
      split at hu
      · exact unq_long _ _ _ _ _ t n (by simp) hu
      · cases hu
    rw [mk_size, ← size_data, mkB_dl, E0_size]
    omega
  · cases h
theorem var_sz (hi : i ≤ s.size) (h : varS s i = some (e, j)) : e.size ≤ 8 * (j - i) := by
  have hp := var_pos hi h
  unfold varS at h
  split at h
  · cases h
    have := ext_le9 s (i + 1) (nm s (i + 1))
    rw [mk_size, E0_size]
    omega
  · cases h
theorem ref_sz {k : Int} (hi : i ≤ s.size) (h : refS k s i = some (e, j)) : e.size ≤ 8 * (j - i) := by
  have hp := ref_pos hi h
  unfold refS at h
  have h1 := nm_ok s i hi
  split at h
  · cases h
  · split at h
    · next hd =>
      have h2 := isAt_lt hd
      have h3 := nm_ok s (nm s i + 1) h2
      split at h
      · cases h
      · cases h
        have g1 := ext_le9 s i (nm s i)
        have g2 := ext_le9 s (nm s i + 1) (nm s (nm s i + 1))
        rw [mk_size, E0_size]
        omega
    · cases h
      have g1 := ext_le9 s i (nm s i)
      rw [mk_size, E0_size]
      omega
theorem ter_sz (hi : i ≤ s.size) (h : terS s i = some (e, j)) : e.size ≤ 8 * (j - i) := by
  unfold terS at h
  split at h
  · next hc =>
    have h1 := isAt_lt hc
    have := ref_sz (by omega) h
    omega
  · cases h
theorem nub_sz (hi : i ≤ s.size) (h : nubS s i = some (e, j)) : e.size ≤ 8 * (j - i) := by
  have hp := nub_pos hi h
  unfold nubS at h
  split at h
  · cases h
  · cases h
    have g1 := ext_le9 s i (nu s i)
    rw [mk_size, E0_size]
    omega
def SzP (P : Nat → Res) : Prop := ∀ i e j, P i = some (e, j) → e.size + 16 ≤ 8 * (j - i)
theorem head_sz (hS : SzP P) (hi : i ≤ s.size) (h : headS P s i = some (e, j)) : e.size ≤ 8 * (j - i) := by
  unfold headS at h
  rcases or_some h with h | h
  · exact quo_sz hi h
  rcases or_some h with h | h
  · exact var_sz hi h
  rcases or_some h with h | h
  · unfold nestS at h
    split at h
    · next e' j' hp =>
      cases h
      have := hS _ _ _ hp
      rw [EX.size, sizeAs, sizeO, sizeVs, E0_size]
      omega
    · cases h
  rcases or_some h with h | h
  · exact ter_sz hi h
  rcases or_some h with h | h
  · exact ref_sz hi h
  · exact nub_sz hi h
theorem with_sz (e : EX) (xs : List AR) : (withArgs (opnE e) xs).size ≤ e.size + sizeAs xs := by
  obtain ⟨k, t, n, a, al, i, vs⟩ := e
  show (EX.mk (if k = 3 then 5 else k) t n a xs i vs).size ≤ _
  rw [EX.size, EX.size]
  omega
theorem as_snoc (n : ByteArray) (e : EX) : ∀ xs : List AR, sizeAs (xs ++ [.mk n e]) = sizeAs xs + (n.size + e.size)
  | [] => by simp only [List.nil_append, sizeAs]; omega
  | .mk m y :: r => by rw [List.cons_append, sizeAs, sizeAs, as_snoc n e r]; omega
theorem nam_sz {n : ByteArray} (hi : i ≤ s.size) (h : namS s i = some (n, e, j)) : n.size + e.size ≤ 8 * (j - i) := by
  unfold namS at h
  have h1 := nm_ok s i hi
  have h2 := bl_ok s (nm s i) h1.2
  split at h
  · cases h
  · split at h
    · next hc =>
      have h3 := isAt_lt hc
      have h4 := bl_ok s (bl s (nm s i) + 1) h3
      split at h
      · next e' q ho =>
        cases h
        have g1 := ext_le9 s i (nm s i)
        have h5 : bl s (bl s (nm s i) + 1) < j := by
          rcases or_some ho with ho | ho
          · exact (quo_pos h4.2 ho).1
          · exact (nub_pos h4.2 ho).1
        have h6 : e.size ≤ 8 * (j - bl s (bl s (nm s i) + 1)) := by
          rcases or_some ho with ho | ho
          · exact quo_sz h4.2 ho
          · exact nub_sz h4.2 ho
        omega
      · cases h
    · cases h
theorem arg_sz {n : ByteArray} (hS : SzP P) (hi : i ≤ s.size) (h : argS P s i = some (n, e, j)) : n.size + e.size ≤ 8 * (j - i) := by
  unfold argS at h
  split at h
  · next hn => cases h; exact nam_sz hi hn
  · split at h
    · next hh => cases h; have := head_sz hS hi hh; rw [E0_size]; omega
    · cases h
theorem args_sz (hP : PosOk s P) (hS : SzP P) : ∀ (m : Nat) (xs : List AR) (want : Bool) (i : Nat) (xs' : List AR) (j : Nat), s.size - i ≤ m → i ≤ s.size → argsS P s xs want i = some (xs', j) → sizeAs xs' ≤ sizeAs xs + 8 * (j - i)
  | m, xs, want, i, xs', j, hm, hi, h => by
    have hpos := args_pos hP m xs want i hm hi xs' j h
    rw [argsS] at h
    have hb := bl_ok s i hi
    split at h
    · cases h; omega
    · split at h
      · split at h
        · next hc =>
          have hlt := isAt_lt hc
          cases m with
          | zero => omega
          | succ m =>
            have := args_sz hP hS m xs false (bl s i + 1) xs' j (by omega) (by omega) h
            omega
        · cases h
      · split at h
        · cases h
        · next n e j' hg =>
          have hap := arg_pos hP hb.2 hg
          have haz := arg_sz hS hb.2 hg
          have hop := opn_pos (s := s) e hap.2
          split at h
          · next hc =>
            rw [Bool.and_eq_true] at hc
            split at h
            · next hp =>
              split at h
              · cases h
              · next xs2 m2 hin =>
                split at h
                · next hp2 =>
                  split at h
                  · cases m with
                    | zero => omega
                    | succ m =>
                      have g1 := args_sz hP hS m [] false _ xs2 m2 (by omega) hp.2 hin
                      have g0 := args_pos hP m [] false _ (by omega) hp.2 xs2 m2 hin
                      have g2 := args_sz hP hS m _ true m2 xs' j (by omega) hp2.2 h
                      have g4 := args_pos hP m _ true m2 (by omega) hp2.2 xs' j h
                      have g3 := with_sz e xs2
                      rw [as_snoc, E0_size] at g2
                      rw [sizeAs] at g1
                      omega
                  · cases h
                · cases h
            · cases h
          · next hc =>
            obtain ⟨pp, hpp⟩ : ∃ q, (if emp n = true then (opnS s e j').2 else j') = q := ⟨_, rfl⟩
            have hle : j' ≤ pp := by rw [← hpp]; split <;> omega
            rw [hpp] at h
            split at h
            · next hp =>
              split at h
              · cases m with
                | zero => omega
                | succ m =>
                  have g2 := args_sz hP hS m _ true _ xs' j (by omega) hp.2 h
                  have g4 := args_pos hP m _ true _ (by omega) hp.2 xs' j h
                  rw [as_snoc] at g2
                  omega
              · cases h
            · cases h
theorem inl_sz (hP : PosOk s P) (hS : SzP P) (hi : i ≤ s.size) (h : inlS P s i = some (e, j)) : e.size ≤ 8 * (j - i) := by
  unfold inlS at h
  split at h
  · cases h
  · next e0 j0 hh =>
    have h1 := head_pos hP hi hh
    have h2 := head_sz hS hi hh
    have h3 := opn_pos (s := s) e0 h1.2
    split at h
    · split at h
      · cases h
      · next xs m hx =>
        cases h
        have g1 := args_sz hP hS s.size [] false _ xs _ (by omega) h3.2 hx
        have g2 := args_pos hP s.size [] false _ (by omega) h3.2 xs _ hx
        have g3 := with_sz e0 xs
        rw [sizeAs] at g1
        omega
    · cases h
      omega
theorem es_app (a b : List EL) : sizeEs (a ++ b) = sizeEs a + sizeEs b := by
  induction a with
  | nil => rw [List.nil_append, sizeEs]; omega
  | cons x r ih =>
    obtain ⟨t, p⟩ := x
    rw [List.cons_append, sizeEs, sizeEs, ih]
    omega
theorem es_one (t : ByteArray) (p : Option EX) : sizeEs [.mk t p] = 1 + t.size + sizeO p := by rw [sizeEs, sizeEs]; omega
theorem addT_sz (acc : List EL) (i t : Nat) : sizeEs (addT s acc i t) ≤ sizeEs acc + 2 * (t - i) := by
  unfold addT
  split
  · have := ext_le9 s i t
    rw [es_app, es_one, sizeO]
    omega
  · omega
theorem parts_sz (hP : PosOk s P) (hS : SzP P) : ∀ (m : Nat) (acc : List EL) (i : Nat) (ps : List EL) (j : Nat), s.size - i ≤ m → i ≤ s.size → partsS P s acc i = some (ps, j) → sizeEs ps ≤ sizeEs acc + 8 * (j - i)
  | m, acc, i, ps, j, hm, hi, h => by
    have hw := parts_wt hP m acc i hm hi ps j h
    have ht := tx_ok s i hi
    have ha := addT_sz (s := s) acc i (tx s i)
    rw [partsS] at h
    split at h
    · split at h
      · cases h
      · next e j' hp =>
        split at h
        · next hl =>
          cases m with
          | zero => omega
          | succ m =>
            have h1 := parts_sz hP hS m _ j' ps j (by omega) hl.2 h
            have h2 := hS _ _ _ hp
            have h3 := hP _ _ _ hp
            have h4 := parts_wt hP m _ j' (by omega) hl.2 ps j h
            rw [es_app, es_one, sizeO, E0_size] at h1
            omega
        · cases h
    · cases h
      omega
def wL (l : List LN) : Nat := (l.map fun x => sizeEs x.parts + x.feeds + x.spaces + 1).sum
theorem wL_snoc (l : List LN) (x : LN) : wL (l ++ [x]) = wL l + (sizeEs x.parts + x.feeds + x.spaces + 1) := by
  unfold wL
  rw [List.map_append, List.sum_append]
  simp
theorem lines_sz (hP : PosOk s P) (hS : SzP P) : ∀ (m : Nat) (acc : List LN) (f p i : Nat) (ls : List LN) (j : Nat), s.size - i ≤ m → i ≤ s.size → linesS P s acc f p i = some (ls, j) → i ≤ j ∧ wL ls ≤ wL acc + f + p + 1 + 8 * (j - i)
  | m, acc, f, p, i, ls, j, hm, hi, h => by
    rw [linesS] at h
    split at h
    · cases h
    · next ps j0 hp =>
      have h1 := parts_sz hP hS s.size [] i ps j0 (by omega) hi hp
      have h2 := parts_wt hP s.size [] i (by omega) hi ps j0 hp
      have h0 : j0 ≤ s.size := by
        have := (parts_pos (P := P) s.size [] i (by omega) hi ps j0 hp).2
        exact this
      rw [sizeEs] at h1
      split at h
      · cases h
        rw [wL_snoc]
        dsimp only
        omega
      · next f' p' k hnx =>
        split at h
        · next hl =>
          have h3 := next_wt h0 hnx
          have h4 := nl_shape (s := s) s.size 0 j0 j0 (by omega) h0 (Or.inl rfl)
          have h5 : 0 < f' := by
            unfold nextS at hnx
            obtain ⟨r, hr⟩ : ∃ r, nlS s 0 j0 j0 = r := ⟨_, rfl⟩
            rw [hr] at hnx h4
            split at hnx
            · cases hnx
            · next hc =>
              cases hnx
              rw [not_or, not_or] at hc
              rcases h4.2.2 with h6 | h6
              · exact absurd h6 hc.1
              · exact h6.2.2
          cases m with
          | zero => omega
          | succ m =>
            have h6 := lines_sz hP hS m _ f' p' k ls j (by omega) hl.2 h
            rw [wL_snoc] at h6
            dsimp only at h6
            omega
        · cases h
def mJ (b : JS) : Nat := sizeEs b.1 + b.2.length + (if b.2 = [] then 0 else 1)
theorem end_sz (b : JS) : sizeEs (endS b) = mJ b := by
  unfold endS mJ
  split
  · next h => rw [h]; simp
  · rw [es_app, es_one, sizeO, ← size_data, mkB_dl]
    omega
theorem part_sz (b : JS) : ∀ x : EL, mJ (partJ b x) ≤ mJ b + sizeEs [x]
  | .mk t none => by
    show sizeEs b.1 + (b.2 ++ t.data.toList).length + (if b.2 ++ t.data.toList = [] then 0 else 1) ≤ _
    rw [es_one, sizeO, List.length_append, size_data]
    unfold mJ
    split
    · next h =>
      obtain ⟨h1, h2⟩ := List.append_eq_nil_iff.1 h
      rw [if_pos h1]
      omega
    · split <;> omega
  | .mk t (some e) => by
    show sizeEs (endS b ++ [.mk t (some e)]) + ([] : List UInt8).length + (if ([] : List UInt8) = [] then 0 else 1) ≤ _
    rw [es_app, end_sz, if_pos rfl, List.length_nil]
    omega
theorem parts_fold_sz : ∀ (l : List EL) (b : JS), mJ (l.foldl partJ b) ≤ mJ b + sizeEs l
  | [], b => by rw [sizeEs]; exact Nat.le_refl _
  | x :: r, b => by
    have h1 := parts_fold_sz r (partJ b x)
    have h2 := part_sz b x
    have h3 : sizeEs (x :: r) = sizeEs [x] + sizeEs r := es_app [x] r
    rw [List.foldl_cons, h3]
    omega
theorem line_sz (least : Nat) (b : JS) (x : LN) : mJ (lineJ least b x) ≤ mJ b + (sizeEs x.parts + x.feeds + x.spaces + 1) := by
  have h1 := parts_fold_sz x.parts (headJ least b x)
  have h2 : mJ (headJ least b x) ≤ mJ b + (x.feeds + x.spaces + 1) := by
    unfold headJ
    split
    · omega
    · unfold mJ
      dsimp only
      rw [List.length_append, List.length_append, List.length_replicate, List.length_replicate]
      split <;> split <;> omega
  unfold lineJ
  omega
theorem fold_sz (least : Nat) : ∀ (ls : List LN) (b : JS), mJ (ls.foldl (lineJ least) b) ≤ mJ b + wL ls
  | [], b => by unfold wL; exact Nat.le_refl _
  | x :: r, b => by
    have h1 := fold_sz least r (lineJ least b x)
    have h2 := line_sz least b x
    have h3 : wL (x :: r) = (sizeEs x.parts + x.feeds + x.spaces + 1) + wL r := by
      unfold wL
      rw [List.map_cons, List.sum_cons]
    rw [List.foldl_cons, h3]
    omega
theorem trim_le (l : List UInt8) : (trimR l).length ≤ l.length := by
  obtain ⟨z, _, e⟩ := trim_eq l
  have := congrArg List.length e
  rw [List.length_append] at this
  omega
theorem join_sz (ls : List LN) : sizeEs (joinS ls) ≤ wL ls := by
  unfold joinS
  obtain ⟨b, hb⟩ : ∃ b, ls.foldl (lineJ (leastS ls.tail)) ([], []) = b := ⟨_, rfl⟩
  have h1 := fold_sz (leastS ls.tail) ls ([], [])
  rw [hb] at h1 ⊢
  have h0 : mJ (([], []) : JS) = 0 := by unfold mJ; rw [sizeEs]; rfl
  have h2 := trim_le b.2
  dsimp only
  rw [end_sz]
  have h3 : mJ (b.1, trimR b.2) ≤ mJ b := by
    unfold mJ
    dsimp only
    split
    · omega
    · next hn =>
      rw [if_neg (fun e => hn (by rw [e]; rfl))]
      omega
  omega
theorem pat_sz (hP : PosOk s P) (hS : SzP P) (hi : i ≤ s.size) {l : List EL} (h : patS P s i = some (l, j)) : i ≤ j ∧ sizeEs l ≤ 1 + 8 * (j - i) := by
  unfold patS at h
  split at h
  · cases h
  · next ls j' hl =>
    cases h
    have h1 := sp_ok s i hi
    have h2 := lines_sz hP hS s.size [] 0 0 _ ls _ (by omega) h1.2 hl
    have h3 := join_sz ls
    have h4 : wL [] = 0 := rfl
    omega
theorem vari_sz (hP : PosOk s P) (hS : SzP P) (hi : i ≤ s.size) {v : VA} (h : variS P s i = some (v, j)) : i ≤ j ∧ sizeVs [v] + 1 ≤ 8 * (j - i) := by
  unfold variS at h
  obtain ⟨q, hq⟩ : ∃ q, (if isAt s i 42 = true then i + 1 else i) = q := ⟨_, rfl⟩
  have hqi : i ≤ q := by rw [← hq]; split <;> omega
  rw [hq] at h
  split at h
  · next hc =>
    have hqs := isAt_lt hc
    have hb := bl_ok s (q + 1) (by omega)
    split at h
    · cases h
    · next hk =>
      split at h
      · next h93 =>
        have h9 := isAt_lt h93
        have hke : bl s (q + 1) ≤ keyE s (bl s (q + 1)) := by
          unfold keyE
          split
          · exact (nu_ok s _ hb.2).1
          · exact (nm_ok s _ hb.2).1
        have hbk := bl_ge s (keyE s (bl s (q + 1)))
        split at h
        · cases h
        · next l j' hp =>
          split at h
          · cases h
            have h1 := pat_sz hP hS (i := bl s (keyE s (bl s (q + 1))) + 1) h9 hp
            have h2 := ext_le9 s (bl s (q + 1)) (keyE s (bl s (q + 1)))
            rw [sizeVs, sizeVs]
            omega
          · cases h
      · cases h
  · cases h
theorem vs_app (v : VA) : ∀ a : List VA, sizeVs (a ++ [v]) = sizeVs a + sizeVs [v]
  | [] => by rw [List.nil_append, sizeVs]; omega
  | .mk k b l :: r => by
    rw [List.cons_append, sizeVs, sizeVs, vs_app v r]
    omega
theorem vars_sz (hP : PosOk s P) (hS : SzP P) : ∀ (m : Nat) (acc : List VA) (i : Nat) (vs : List VA) (j : Nat), s.size - i ≤ m → i ≤ s.size → varsS P s acc i = some (vs, j) → i ≤ j ∧ sizeVs vs ≤ sizeVs acc + 8 * (j - i)
  | m, acc, i, vs, j, hm, hi, h => by
    rw [varsS] at h
    split at h
    · split at h
      · cases h; omega
      · cases h
    · split at h
      · cases h
      · next v j' hv =>
        have h1 := vari_sz hP hS hi hv
        have h0 := bl_ge s j'
        split at h
        · next hl =>
          cases m with
          | zero => omega
          | succ m =>
            have h2 := vars_sz hP hS m _ _ vs j (by omega) hl.2 h
            rw [vs_app] at h2
            omega
        · cases h
end
theorem place_sz (s : ByteArray) : ∀ r, SzP (placeS s r)
  | 0, i, e, j, h => by rw [placeS] at h; cases h
  | r + 1, i, e, j, h => by
    have hP := place_pos s r
    have hS := place_sz s r
    rw [placeS] at h
    split at h
    · next hc =>
      have hi := isAt_lt hc
      have hb := bl_ok s (i + 1) (by omega)
      split at h
      · cases h
      · next e0 j0 hin =>
        have h1 := inl_sz hP hS hb.2 hin
        have h2 := inl_pos hP hb.2 hin
        have h3 := bl_ge s j0
        split at h
        · split at h
          · cases h
          · cases h
            omega
        · split at h
          · next hm =>
            rw [Bool.and_eq_true, Bool.and_eq_true] at hm
            have h62 := isAt_lt hm.1.2
            split at h
            · cases h
            · next vs m hv =>
              cases h
              unfold selS at hv
              split at hv
              · next h10 =>
                have h11 := isAt_lt h10
                have h12 := sp_ge s (bl s j0 + 2)
                have h13 := bl_ok s (sp s (bl s j0 + 2) + 1) h11
                have h4 := vars_sz hP hS s.size [] _ vs _ (by omega) h13.2 hv
                rw [EX.size, sizeAs, sizeO, E0_size]
                rw [sizeVs] at h4
                omega
              · cases hv
          · cases h
    · cases h
end Go.Proofs.YtpgiboblonlddaaGreatDoor
