/-
  Several texts put together (part 6): what the law and the program call, walked; their contracts.
-/
import Derived.Maps.Own
import Derived.Maps.OwnOps
import Derived.Maps.OwnSet
import Derived.Maps.Views
import Derived.WideMake
import Derived.Deep.RegionLaw
import Derived.Deep.RegionHeld3
import Derived.StillTailTactics
import Derived.BigRegion
import Derived.Lib.OwnKind
import Derived.Test.YtnogdojdjehakaaGreatDoorM5
/-
  Package expr: join.
-/
namespace Go.Proofs.YtnogdojdjehakaaGreatDoor
open Go.RowKit
set_option linter.unusedVariables false
set_option linter.unusedSimpArgs false

theorem EsF.nth {W : World} {F : Nat → Prop} : ∀ (l : List EL) (b o j : Nat) (t : ByteArray) (p : Option EX), EsF W F l b o → l[j]? = some (.mk t p) → F b ∧ W.cell? ⟨b, o + j * 2, none⟩ = some (.string t) ∧ ∃ u, W.cell? ⟨b, o + j * 2 + 1, none⟩ = some u ∧ OF W F p u
  | [], b, o, j, t, p, h, hj => by simp at hj
  | .mk t' p' :: r, b, o, 0, t, p, h, hj => by
    rw [EsF] at h
    obtain ⟨h0, h1, ⟨u, h2, h3⟩, h4⟩ := h
    simp at hj
    obtain ⟨rfl, rfl⟩ := hj
    exact ⟨h0, h1, u, h2, h3⟩
  | .mk t' p' :: r, b, o, j + 1, t, p, h, hj => by
    rw [EsF] at h
    obtain ⟨h0, h1, ⟨u, h2, h3⟩, h4⟩ := h
    have := EsF.nth r b (o + 2) j t p h4 (by simpa using hj)
    rw [show o + (j + 1) * 2 = o + 2 + j * 2 by omega]
    exact this
section
variable {w : World} {F : Nat → Prop} {B lb tb : Nat} {bx : List (Nat × Obj)} {acc : List EL} {bs : List UInt8} {W : World}
theorem JAt.box (h : JAt w F B lb tb bx acc bs W) : ∃ A c xs, BoxAt W lb #[.slice A acc.length c] 42 ∧ W.ownsRow B 54 2 (.slice A acc.length c) acc.length xs ∧ EZip w F acc xs ∧ ∀ q ∈ bx, W.heap[q.1]? = some q.2 ∧ (Value.slice A acc.length c).ownBlock ≠ some q.1 := by
  obtain ⟨_, ⟨v, h2, ⟨xs, h3, h4⟩, hx⟩, _, _, _, _⟩ := h
  rcases h3.2 with ⟨rfl, h0⟩ | ⟨g, cap, cur, rfl, _⟩
  · exact ⟨none, 0, xs, by rw [h0]; exact h2, by rw [h0] at h3 ⊢; exact h3, h4, fun q hq => ⟨(hx q hq).1, by simp [Value.ownBlock]⟩⟩
  · exact ⟨_, _, xs, h2, h3, h4, hx⟩
end
theorem jAt_new (w : World) (F : Nat → Prop) : JAt w F w.heap.size w.heap.size (w.heap.size + 1) [] [] [] ((w.alloc (.cells #[.slice none 0 0] 42)).alloc (.cells #[.pointer none, .slice none 0 0] 135)) := by
  have h1 := BoxAt.new w #[.slice none 0 0] 42
  have h2 := BoxAt.new (w.alloc (.cells #[.slice none 0 0] 42)) #[.pointer none, .slice none 0 0] 135
  rw [World.size_alloc] at h2
  exact ⟨((Below.refl _ w).alloc (Nat.le_refl _) _).alloc (by simp) _, ⟨.slice none 0 0, h1.alloc _, ⟨[], World.ownsRow_nil _ _ _ _, rfl⟩, fun q hq => by cases hq⟩, .inl ⟨by omega, .slice none 0 0, h2, World.ownsRowF_nil _ _ _ _, by simp [Value.ownBlock]⟩, Nat.le_refl _, by omega, by simp; omega, fun q hq => by cases hq⟩
def foldL (m : Nat) (ls : List LN) (k : Nat) : JS := (ls.take k).foldl (lineJ m) ([], [])
def foldP (l : List EL) (b : JS) (j : Nat) : JS := (l.take j).foldl partJ b
theorem foldL_step (m : Nat) (ls : List LN) (k : Nat) (x : LN) (h : ls[k]? = some x) : foldL m ls (k + 1) = lineJ m (foldL m ls k) x := by
  unfold foldL
  rw [List.take_add_one, h, List.foldl_append]
  rfl
theorem foldP_step (l : List EL) (b : JS) (j : Nat) (x : EL) (h : l[j]? = some x) : foldP l b (j + 1) = partJ (foldP l b j) x := by
  unfold foldP
  rw [List.take_add_one, h, List.foldl_append]
  rfl
theorem wt_take {α : Type} (f : α → Nat) (ls : List α) (k : Nat) : ((ls.take k).map f).sum ≤ (ls.map f).sum := by
  conv => rhs; rw [← List.take_append_drop k ls]
  rw [List.map_append, List.sum_append]
  omega
theorem foldL_len (m : Nat) (ls : List LN) (k : Nat) : (foldL m ls k).1.length + (foldL m ls k).2.length ≤ wtLs ls := by
  have h1 := linesJ_len m (ls.take k) ([], [])
  have h2 := wt_take wtL ls k
  unfold foldL wtLs at *
  simp only [List.length_nil] at h1
  omega
theorem wtP_len (l : List EL) : l.length ≤ wtP l := by
  induction l with
  | nil => simp [wtP]
  | cons e r ih =>
    unfold wtP at *
    rw [List.map_cons, List.sum_cons, List.length_cons]
    obtain ⟨t, p⟩ := e
    show r.length + 1 ≤ 1 + t.size + _
    omega
theorem wtL_mem (ls : List LN) (y : LN) (h : y ∈ ls) : wtL y ≤ wtLs ls := by
  induction ls with
  | nil => cases h
  | cons x r ih =>
    unfold wtLs at *
    rw [List.map_cons, List.sum_cons]
    rcases List.mem_cons.1 h with rfl | h
    · omega
    · have := ih h; omega
theorem wtP_mem (l : List EL) (y : EL) (h : y ∈ l) : elW y ≤ wtP l := by
  induction l with
  | nil => cases h
  | cons x r ih =>
    unfold wtP at *
    rw [List.map_cons, List.sum_cons]
    rcases List.mem_cons.1 h with rfl | h
    · omega
    · have := ih h; omega
theorem foldP_len (l : List EL) (b : JS) (j : Nat) : (foldP l b j).1.length + (foldP l b j).2.length ≤ b.1.length + b.2.length + wtP l := by
  have h1 := partsJ_len (l.take j) b
  have h2 := wt_take elW l j
  unfold foldP wtP at *
  omega
theorem rowJ_pat {w W : World} {F : Nat → Prop} {B : Nat} {acc : List EL} {v : Value} {xs : List Value} (h1 : W.ownsRow B 54 2 v acc.length xs) (h2 : EZip w F acc xs) (hB : Below w.heap.size w W) (hF : ∀ b, F b → b < w.heap.size) : PatF W (fun b => F b ∨ Since B W b) acc v := by
  rcases h1.2 with ⟨rfl, h0⟩ | ⟨g, cap, cur, rfl, hb, hg, hc1, hc2, hcs, htk⟩
  · have : acc = [] := List.eq_nil_of_length_eq_zero h0
    subst this
    exact ⟨none, 0, rfl, Nat.le_refl _, Nat.zero_le _, fun h => absurd h (by simp)⟩
  · refine ⟨_, _, rfl, hc1, hc2, fun _ => ⟨g, 0, rfl, EZip.es (.inr ⟨hb, (Array.getElem?_eq_some_iff.1 hg).1⟩) acc xs 0 (fun j x hx => ?_) (EZip.carry (fun b hb => ⟨.inl hb, hB.block b (hF b hb)⟩) _ _ h2)⟩⟩
    have := h1.cells (g := g) rfl j x hx
    rw [Addr.add_mid] at this
    exact this
set_option maxHeartbeats 8000000 in
set_option maxRecDepth 100000 in
theorem join_any (ls : List LN) (F : Nat → Prop) (g c : Nat) (w : World) (hn : 0 < ls.length) (hn2 : ls.length ≤ c) (hn4 : ls.length ≤ 4000000) (hw : wtLs ls ≤ 4000000) (hc : LsAt w F g 0 ls) (hg : g < w.heap.size) (hF : ∀ b, F b → b < w.heap.size) :
    Calls Tryz.prog 70 #[.slice (some ⟨g, 0, none⟩) ls.length c] w fun e w' => Below w.heap.size w w' ∧ ∃ A n c', e = .returned (.slice A n c') ∧ (joinS ls).length = n ∧ n ≤ 4000000 ∧ PatF w' (fun b => F b ∨ Since w.heap.size w' b) (joinS ls) (.slice A n c') := by
  obtain ⟨x, r, rfl⟩ : ∃ x r, ls = x :: r := by cases ls with | nil => exact absurd hn (by simp) | cons x r => exact ⟨x, r, rfl⟩
  have hwt := Lib.hid hw
  obtain ⟨m, hm⟩ : ∃ m, leastS r = m := ⟨_, rfl⟩
  have hL : ∀ (A : Option Addr) (c' : Nat) (W : World), Below w.heap.size w W → (0 < r.length → A = some ⟨g, 0 + 3, none⟩) → Calls Tryz.prog 93 #[.slice A r.length c'] W fun e w' => e = .returned (.int .i64 m) ∧ Below W.heap.size W w' := by
    intro A c' W hB hA
    rw [← hm]
    refine leastSpaces_any r F A g (0 + 3) c' W (by simp at hn4; omega) (fun y hy => ?_) hA (LsAt.carry hc.tail (hB.block g hg) (fun b hb => ⟨hb, hB.block b (hF b hb)⟩)) (.inr (Nat.lt_of_lt_of_le hg hB.size))
    have := wtL_mem (x :: r) y (List.mem_cons_of_mem _ hy)
    unfold wtL at this
    omega
  have HL := Lib.hid hL
  have HC := Lib.hid hc
  have Hm := Lib.hid hm
  have Hsz := Lib.hid (foldL_len m (x :: r))
  clear hL hc hm hw
  have hjs : joinS (x :: r) = endS ((foldL m (x :: r) (x :: r).length).1, trimR (foldL m (x :: r) (x :: r).length).2) := by
    unfold joinS foldL
    rw [List.take_length, ← Hm.out]
    rfl
  have Hjs := Lib.hid hjs
  have hrl : r.length = (x :: r).length - 1 := by simp
  have htl : (x :: r).tail = r := rfl
  clear hjs
  generalize x :: r = ls at *
  rw [hrl] at HL
  have Htl := Lib.hid htl
  clear hrl htl
  have Hj0 := Lib.hid (jAt_new w F)
  have hls0 : (ls.length : Int) ≤ (c : Int) := by omega
  have hls1 : (1 : Int) ≤ (ls.length : Int) := by omega
  go_enter Tryz.func70, Tryz.ntmps70
  go_upto_region 4 with fail
  go_cut [0, 6] (fun v0 v wx => v0 = .slice (some ⟨g, 0, none⟩) ls.length c ∧ v = .int .i64 m ∧ Hid (JAt w F w.heap.size w.heap.size (w.heap.size + 1) [] [] [] wx))
  case first =>
    go_wp2_with (first | (go_at_call 93; refine (HL.out _ _ _ (Hj0.out.below) (by intro h; first | rfl | omega)).mono ?_; rintro e w1 ⟨rfl, hb1⟩))
    all_goals
      go_meet
      exact ⟨by first | rfl | (congr 1; omega), rfl, Hj0.out.more hb1⟩
  obtain ⟨rfl, rfl, HJ1⟩ := hcut
  clear HL Hj0
  go_wp2
  go_loopw [18] (fun t18 wr => ∃ k : Nat, t18 = .int .i64 k ∧ k ≤ ls.length ∧ Hid (JAt w F w.heap.size w.heap.size (w.heap.size + 1) [] (foldL m ls k).1 (foldL m ls k).2 wr)) (fun t18 _ => ls.length - (intOf t18).toNat)
  case atStart => exact ⟨0, rfl, Nat.zero_le _, HJ1⟩
  case round =>
    obtain ⟨k, rfl, hk, HJ⟩ := hrel
    by_cases hlt : k < ls.length
    · obtain ⟨y, hy⟩ : ∃ y, ls[k]? = some y := ⟨_, List.getElem?_eq_getElem hlt⟩
      have hmem := List.mem_of_getElem? hy
      have hstep := foldL_step m ls k y hy
      obtain ⟨h1, h2, A3, c3, h3, h4⟩ := HC.out k y hy
      rw [Nat.zero_add] at h1 h2 h3
      have hwy := wtL_mem ls y hmem
      have hw4 := hwt.out
      have hsz := Hsz.out k
      have e0 := HJ.out.below.block g hg
      have d0 := (cell_same e0 (k * 3)).trans h1
      have d1 := (cell_same e0 (k * 3 + 1)).trans h2
      have d2 := (cell_same e0 (k * 3 + 2)).trans h3
      have hgw : g < wr.heap.size := Nat.lt_of_lt_of_le hg HJ.out.below.size
      have hlt' : decide ((k : Int) < (ls.length : Int)) = true := decide_eq_true (by omega)
      have hlt3 : (k : Int) < (ls.length : Int) := by omega
      have hpl := wtP_len y.parts
      have hms : k ≠ 0 → m ≤ y.spaces := fun h0 => by
        have := Htl.out
        rw [← Hm.out, ← this]
        refine leastS_mem _ y (List.mem_of_getElem? (i := k - 1) ?_)
        rw [List.getElem?_tail, show k - 1 + 1 = k by omega]
        exact hy
      have hk00 : k = 0 → foldL m ls k = ([], []) := fun h => by subst h; rfl
      obtain ⟨b, hb⟩ : ∃ b, foldL m ls k = b := ⟨_, rfl⟩
      rw [hb] at hstep hsz HJ hk00
      obtain ⟨acc, bs⟩ := b
      unfold wtL at hwy
      dsimp only at hsz HJ
      have Hpat := Lib.hid h4
      obtain ⟨fd, hfd⟩ : ∃ q, y.feeds = q := ⟨_, rfl⟩
      obtain ⟨sp1, hsp1⟩ : ∃ q, y.spaces = q := ⟨_, rfl⟩
      obtain ⟨n3, hn3⟩ : ∃ q, y.parts.length = q := ⟨_, rfl⟩
      obtain ⟨hd, hhd⟩ : ∃ q, headJ m (acc, bs) y = q := ⟨_, rfl⟩
      have hlj : lineJ m (acc, bs) y = foldP y.parts hd n3 := by unfold lineJ foldP; rw [← hn3, List.take_length, hhd]
      have hhl := headJ_len m (acc, bs) y
      rw [hhd] at hhl
      have hhd2 := hhd
      unfold headJ at hhd2
      rw [hfd, hsp1] at hhd2
      rw [hfd] at d0 hwy hhl
      rw [hsp1] at d1 hwy hhl hms
      rw [hn3] at d2 hpl
      dsimp only at hhl hhd2
      have hf0 : (fd : Int) ≤ 4000000 := by omega
      have hs0 : (sp1 : Int) ≤ 4000000 := by omega
      have hn30 : (n3 : Int) ≤ 4000000 := by omega
      have hk0 : (k : Int) ≤ 4000000 := by omega
      have hm0 : 0 ≤ (m : Int) := by omega
      have Hhd := Lib.hid hhd2
      have Hlj := Lib.hid hlj
      have Hstep := Lib.hid hstep
      have Hms := Lib.hid hms
      have Hk00 := Lib.hid hk00
      have Hn3 := Lib.hid hn3
      clear h1 h2 h3 h4 e0 hfd hsp1 hhd hhd2 hlj hstep hms hk00 hn3 hb hy hmem
      obtain ⟨isF, hisF⟩ : ∃ q, decide (acc = [] ∧ bs = []) = q := ⟨_, rfl⟩
      have HisF := Lib.hid hisF
      clear hisF
      obtain ⟨A4, c4, xs4, hb4, _⟩ := HJ.out.box
      have q0 := hb4.cell 0
      have hl4 := hb4.lt
      simp at q0
      have HP := Lib.hid (HJ.out.put (.cells #[.int .i64 fd, .int .i64 sp1, .slice A3 n3 c3] 108) (by intro c fz h; simp at h))
      clear hb4
      go_upto_region 8 with fail
      go_cut [9] (fun v wx => v = .bool isF ∧ wx = wr.alloc (.cells #[.int .i64 fd, .int .i64 sp1, .slice A3 n3 c3] 108))
      case first =>
        by_cases e1 : acc = []
        · have z1 : acc.length = 0 := by rw [e1]; rfl
          have z2 : ((acc.length : Int) == 0) = true := beq_iff_eq.2 (by omega)
          have z3 : decide (bs.length = 0) = isF := by
            rw [← HisF.out]
            rw [decide_eq_decide]
            exact ⟨fun h => ⟨e1, List.eq_nil_of_length_eq_zero h⟩, fun h => by rw [h.2]; rfl⟩
          have z4 : ((bs.length : Int) == 0) = isF := by
            rw [← z3, Bool.eq_iff_iff, beq_iff_eq, decide_eq_true_iff]
            omega
          have Hz := Lib.hid z3
          clear e1 z3
          go_wp2_with fail
          go_at_call 94
          refine (HP.out.len _).mono ?_
          rintro e w2 ⟨rfl, rfl⟩
          go_wp2_with fail
          go_meet
          exact ⟨rfl, rfl⟩
        · have z1 : acc.length ≠ 0 := fun h => e1 (List.eq_nil_of_length_eq_zero h)
          have z2 : ((acc.length : Int) == 0) = false := beq_eq_false_iff_ne.2 (by omega)
          have z3 : isF = false := by
            rw [← HisF.out]
            exact decide_eq_false (fun h => e1 h.1)
          have Hz := Lib.hid z3
          clear e1 z3
          go_wp2_with fail
          go_meet
          exact ⟨by rw [Hz.out], rfl⟩
      obtain ⟨rfl, rfl⟩ := hcut
      go_upto_if 30 with fail
      go_cut [9] (fun v wx => v = .bool isF ∧ Hid (JAt w F w.heap.size w.heap.size (w.heap.size + 1) [(wr.heap.size, .cells #[.int .i64 fd, .int .i64 sp1, .slice A3 n3 c3] 108)] hd.1 hd.2 wx))
      case first =>
        have hhd := Hhd.out
        have hif := HisF.out
        cases isF
        case true =>
          rw [if_pos (of_decide_eq_true hif)] at hhd
          subst hhd
          clear hif
          go_wp2_with fail
          go_meet
          exact ⟨rfl, HP.out⟩
        case false =>
          have hno := of_decide_eq_false hif
          rw [if_neg hno] at hhd
          have hk1 : k ≠ 0 := fun h => by
            have := Hk00.out h
            cases this
            exact hno ⟨rfl, rfl⟩
          have hms := Hms.out hk1
          have hsub : (sp1 : Int) - (m : Int) = ((sp1 - m : Nat) : Int) := by omega
          have Hhd2 := Lib.hid hhd
          have hl1 := hl4
          have hmle : (m : Int) ≤ (sp1 : Int) := by omega
          have hrep := fun U => rep_any 32 (sp1 - m) U (by omega)
          rw [← hsub] at hrep
          have Hrep := Lib.hid hrep
          have Hrep1 := Lib.hid (fun U => rep_any 10 fd U (by omega))
          have hpb := BoxAt.new wr #[.int .i64 fd, .int .i64 sp1, .slice A3 n3 c3] 108
          have p0 := hpb.cell 0
          have hpl1 := hpb.lt
          simp at p0
          clear hif hno hk1 hms hhd hsub hrep hpb
          go_wp2_with fail
          go_at_call 96
          refine (Hrep1.out _).mono ?_
          rintro e w2 ⟨rfl, hb2⟩
          have HP2 := Lib.hid (HP.out.more hb2)
          clear hb2
          go_wp2_with fail
          go_at_call 95
          refine (HP2.out.writeStr _ _ (by rw [mkB_size, List.length_replicate]; omega)).mono ?_
          rintro e w3 ⟨rfl, h3⟩
          have HP3 := Lib.hid (show JAt w F w.heap.size w.heap.size (w.heap.size + 1) [(wr.heap.size, .cells #[.int .i64 fd, .int .i64 sp1, .slice A3 n3 c3] 108)] acc (bs ++ List.replicate fd 10) w3 from h3)
          have hbx : BoxAt w3 wr.heap.size #[.int .i64 fd, .int .i64 sp1, .slice A3 n3 c3] 108 := h3.at_ (List.mem_cons_self ..)
          have r1 := hbx.cell 1
          have hlx := hbx.lt
          simp at r1
          clear h3 hbx p0
          go_wp2_with fail
          go_at_call 96
          refine (Hrep.out _).mono ?_
          rintro e w4 ⟨rfl, hb4⟩
          have HP4 := Lib.hid (HP3.out.more hb4)
          clear hb4
          go_wp2_with fail
          go_at_call 95
          refine (HP4.out.writeStr _ _ (by rw [mkB_size, List.length_append, List.length_replicate, List.length_replicate]; omega)).mono ?_
          rintro e w5 ⟨rfl, h5⟩
          have HP5 := Lib.hid (show JAt w F w.heap.size w.heap.size (w.heap.size + 1) [(wr.heap.size, .cells #[.int .i64 fd, .int .i64 sp1, .slice A3 n3 c3] 108)] acc (bs ++ List.replicate fd 10 ++ List.replicate (sp1 - m) 32) w5 from h5)
          clear h5
          go_wp2_with fail
          go_meet
          refine ⟨rfl, ?_⟩
          rw [← Hhd2.out]
          exact HP5
      obtain ⟨rfl, HJ2⟩ := hcut
      have hbx : BoxAt wc wr.heap.size #[.int .i64 fd, .int .i64 sp1, .slice A3 n3 c3] 108 := HJ2.out.at_ (List.mem_cons_self ..)
      have r2 := hbx.cell 2
      have hlx := hbx.lt
      simp at r2
      have HJ3 := Lib.hid (HJ2.out.drop (bx' := []) (fun q hq => by cases hq))
      clear hbx HP HJ2 HJ Hhd HisF Hms Hk00 d0 d1 d2 q0
      go_wp2
      go_loopw [44] (fun t44 wx => ∃ j : Nat, t44 = .int .i64 j ∧ j ≤ n3 ∧ Hid (JAt w F w.heap.size w.heap.size (w.heap.size + 1) [] (foldP y.parts hd j).1 (foldP y.parts hd j).2 wx)) (fun t44 _ => n3 - (intOf t44).toNat)
      case atStart => exact ⟨0, rfl, Nat.zero_le _, HJ3⟩
      case round =>
        obtain ⟨j, rfl, hj, HJ⟩ := hrel
        by_cases hjlt : j < n3
        · obtain ⟨e, he⟩ : ∃ e, y.parts[j]? = some e := ⟨_, List.getElem?_eq_getElem (by rw [Hn3.out]; exact hjlt)⟩
          have hst := foldP_step y.parts hd j e he
          obtain ⟨t, p⟩ := e
          obtain ⟨A5, c5, e5, _, _, h5⟩ := Hpat.out
          obtain ⟨b3, o3, e6, h6⟩ := h5 (by rw [Hn3.out]; omega)
          have hA3 : A3 = some ⟨b3, o3, none⟩ := by injection e5 with e7 _ _; exact e7.trans e6
          subst hA3
          obtain ⟨hF3, s0, u, s1, hOF⟩ := EsF.nth y.parts b3 o3 j t p h6 he
          have e0 := HJ.out.below.block b3 (hF b3 hF3)
          have x0 := (cell_same e0 (o3 + j * 2)).trans s0
          have x1 := (cell_same e0 (o3 + j * 2 + 1)).trans s1
          have hb3 : b3 < wr.heap.size := Nat.lt_of_lt_of_le (hF b3 hF3) HJ.out.below.size
          have hfl := foldP_len y.parts hd j
          have hets : elW (.mk t p) ≤ wtP y.parts := by
            exact wtP_mem _ _ (List.mem_of_getElem? he)
          obtain ⟨fb, hfb⟩ : ∃ q, foldP y.parts hd j = q := ⟨_, rfl⟩
          rw [hfb] at hst HJ hfl
          obtain ⟨acc1, bs1⟩ := fb
          dsimp only at HJ hfl
          have hts : 1 + t.size ≤ wtP y.parts := hets
          obtain ⟨A6, c6, xs6, hb6, _⟩ := HJ.out.box
          have hl6 := hb6.lt
          have Hst := Lib.hid hst
          have hlt' : decide ((j : Int) < (n3 : Int)) = true := decide_eq_true (by omega)
          have hlt3 : (j : Int) < (n3 : Int) := by omega
          have hj0 : (j : Int) ≤ 4000000 := by omega
          clear hst he e5 e6 h5 h6 e0 s0 s1 hfb hets hb6
          cases p with
          | none =>
            simp only [OF] at hOF
            subst hOF
            have HP := Lib.hid (HJ.out.put (.cells #[.string t, .pointer none] 54) (by intro c fz h; simp at h))
            go_wp2_with fail
            go_at_call 95
            refine (HP.out.writeStr _ _ (by omega)).mono ?_
            rintro e w2 ⟨rfl, h2⟩
            have HJ2 := Lib.hid (h2.drop (bx' := []) (fun q hq => by cases hq))
            clear h2
            go_wp2
            go_roundw
            case rel =>
              refine ⟨j + 1, ?_, by omega, ?_⟩
              · show Value.int .i64 _ = _
                rw [show ((j + 1 : Nat) : Int) = (j : Int) + 1 by omega]
              · rw [Hst.out]
                exact HJ2
            case measure =>
              show n3 - ((j : Int) + 1).toNat < n3 - ((j : Int)).toNat
              omega
          | some ex =>
            obtain ⟨i0, hi0, hz0, hz1, hz2⟩ := info_parts infoL
            have HOF := Lib.hid hOF
            simp only [OF] at hOF
            obtain ⟨b7, o7, c7, rfl, hF7, hc7, hx7⟩ := hOF
            have HP := Lib.hid (HJ.out.put (.cells #[.string t, .pointer (some ⟨b7, o7, none⟩)] 54) (by intro c fz h; simp at h))
            clear hc7 hx7
            go_wp2_with fail
            go_at_call 97
            refine (HP.out.str _).mono ?_
            rintro e w2 ⟨rfl, h2⟩
            have HJ2 := Lib.hid h2
            clear h2
            have hal1 : acc1.length ≤ 40000000 := by omega
            go_wp2_with fail
            go_at_call 91
            refine (joinEnd_any _ _ HJ2.out hal1).mono ?_
            rintro e w3 ⟨rfl, h3⟩
            have hL : (addX acc1 (mkB bs1)).length ≤ acc1.length + bs1.length := by
              rw [addX_endS]
              exact endS_len (acc1, bs1)
            have hLe := addX_endS acc1 bs1
            obtain ⟨L, hLL⟩ : ∃ l, addX acc1 (mkB bs1) = l := ⟨_, rfl⟩
            rw [hLL] at h3 hL hLe
            have HLe := Lib.hid hLe
            have HJ3 := Lib.hid h3
            have hpb : BoxAt w3 wr.heap.size #[.string t, .pointer (some ⟨b7, o7, none⟩)] 54 := h3.at_ (List.mem_cons_self ..)
            obtain ⟨A8, c8, xs8, hb8, ho8, hz8, hx8⟩ := h3.box
            have y0 := hb8.cell 0
            have y1 := Lib.frozen_of_heap hb8 0
            have z0 := hpb.cell 0
            have z1 := hpb.cell 1
            have hl8 := hb8.lt
            have hlp := hpb.lt
            simp at y0 z0 z1
            have hL0 : (L.length : Int) ≤ 40000000 := by omega
            have hown1 := ho8.alloc (.cells #[.string t, .pointer (some ⟨b7, o7, none⟩)] 54)
            have HB8 := Lib.hid hb8
            have HZ8 := Lib.hid hz8
            have HX8 := Lib.hid hx8
            have hBW := h3.BW
            clear h3 hLL hLe hpb hb8 ho8 hz8 hx8
            go_wp2_with (at_builtin; refine wpList_append_where _ rfl _ _ 42 rfl w.heap.size 54 i0 (.agg #[.string ⟨#[]⟩, .pointer none]) 2 24 Tryz.underlying42 hi0 hz0 hz1 hz2 rfl (by decide) _ _ _ rfl hown1 ⟨w3.heap.size, 0, none⟩ 1 1 [.string t, .pointer (some ⟨b7, o7, none⟩)] rfl rfl ?c1 ?c2 ?c3 ?c4 ?c5 ?c6 ?_)
            case c1 =>
              intro j u hj
              match j, hj with
              | 0, hj => simp at hj; subst hj; simp [Addr.add]
              | 1, hj => simp at hj; subst hj; simp [Addr.add]
            case c2 => intro u hu; simp at hu; rcases hu with rfl | rfl <;> rfl
            case c3 => unfold maxLen; omega
            case c4 => omega
            case c5 => simp; omega
            case c6 => decide
            intro v' W8 hown' hgrow hwh
            have hbel : Below w3.heap.size w3 (w3.alloc (.cells #[.string t, .pointer (some ⟨b7, o7, none⟩)] 54)) := (Below.refl _ w3).alloc (Nat.le_refl _) _
            have HJ8 := Lib.hid (((HJ3.out.more hbel).push (p := some ex) (HB8.out.later hbel) hown1 HZ8.out (fun q hq => ⟨(hbel.block q.1 (Array.getElem?_eq_some_iff.1 (HX8.out q hq).1).1).trans (HX8.out q hq).1, (HX8.out q hq).2⟩) hgrow (by simpa using hwh) hown' HOF.out).drop (bx' := []) (fun q hq => by cases hq))
            have hne := row_kind hown1 (HB8.out.later hbel) (by decide)
            have hlb : BoxAt W8 w.heap.size #[.slice A8 L.length c8] 42 := (hgrow.block w.heap.size (HB8.out.later hbel).lt (fun e => hne e.symm)).trans (HB8.out.later hbel)
            have d0 := hlb.cell 0
            have g0 := Lib.frozen_of_heap hlb 0
            have hlt8 := hlb.lt
            simp at d0
            obtain ⟨A9, c9, rfl⟩ := own_slice hown' (by omega)
            clear hown' hgrow hwh hbel hne hlb hown1 y0 y1 z0 z1
            go_wp2
            go_roundw
            case rel =>
              refine ⟨j + 1, ?_, by omega, ?_⟩
              · show Value.int .i64 _ = _
                rw [show ((j + 1 : Nat) : Int) = (j : Int) + 1 by omega]
              · rw [Hst.out]
                show Hid (JAt _ _ _ _ _ [] (endS (acc1, bs1) ++ [EL.mk t (some ex)]) [] _)
                rw [← HLe.out]
                exact HJ8
            case measure =>
              show n3 - ((j : Int) + 1).toNat < n3 - ((j : Int)).toNat
              omega
        · have hlt' : decide ((j : Int) < (n3 : Int)) = false := decide_eq_false (by omega)
          have hlt3 : ¬ (j : Int) < (n3 : Int) := by omega
          have hje : j = n3 := by omega
          subst hje
          have hst : foldL m ls (k + 1) = foldP y.parts hd j := by rw [Hstep.out, Hlj.out]
          have Hst := Lib.hid hst
          clear hst
          go_wp2
          go_roundw
          case rel =>
            refine ⟨k + 1, ?_, by omega, ?_⟩
            · show Value.int .i64 _ = _
              rw [show ((k + 1 : Nat) : Int) = (k : Int) + 1 by omega]
            · rw [Hst.out]
              exact HJ
          case measure =>
            show ls.length - ((k : Int) + 1).toNat < ls.length - ((k : Int)).toNat
            omega
    · have hlt' : decide ((k : Int) < (ls.length : Int)) = false := decide_eq_false (by omega)
      have hlt3 : ¬ (k : Int) < (ls.length : Int) := by omega
      have hke : k = ls.length := by omega
      subst hke
      obtain ⟨acc, hacc⟩ : ∃ l, (foldL m ls ls.length).1 = l := ⟨_, rfl⟩
      obtain ⟨bs, hbs⟩ : ∃ l, (foldL m ls ls.length).2 = l := ⟨_, rfl⟩
      have hjs := Hjs.out
      have hsz := Hsz.out ls.length
      have hw4 := hwt.out
      rw [hacc, hbs] at HJ hjs hsz
      have Hjs2 := Lib.hid hjs
      have hal : acc.length ≤ 4000000 := by omega
      have hbl : bs.length ≤ 4000000 := by omega
      clear hjs hacc hbs Hjs
      have HS := Lib.hid (fun (U : World) (h : JAt w F w.heap.size w.heap.size (w.heap.size + 1) [] acc bs U) => h.str U)
      have HE := Lib.hid (fun (U : World) (h : JAt w F w.heap.size w.heap.size (w.heap.size + 1) [] acc bs U) => joinEnd_any (mkB (trimR bs)) U h (by omega))
      have HT := Lib.hid (fun U => trim_any bs U (by omega))
      go_wp2_with fail
      go_at_call 97
      refine (HS.out _ HJ.out).mono ?_
      rintro e w2 ⟨rfl, h2⟩
      have HJ2 := Lib.hid h2
      clear h2
      go_wp2_with fail
      go_at_call 98
      refine (HT.out _).mono ?_
      rintro e w3 ⟨rfl, rfl⟩
      go_wp2_with fail
      go_at_call 91
      refine (HE.out _ HJ2.out).mono ?_
      rintro e w4 ⟨rfl, h4⟩
      have hbel := h4.below
      obtain ⟨A4, c4, xs4, hb4, ho4, hz4, _⟩ := h4.box
      have c0 := hb4.cell 0
      have hl4 := hb4.lt
      simp at c0
      have HB4 := Lib.hid hbel
      have HO4 := Lib.hid ho4
      have HZ4 := Lib.hid hz4
      have hjs := Hjs2.out
      rw [← addX_endS] at hjs
      have Hjs3 := Lib.hid hjs
      clear h4 hbel hb4 ho4 hz4 hjs
      go_wp2
      go_ret
      refine ⟨HB4.out, A4, (joinS ls).length, c4, by rw [Hjs3.out]; rfl, rfl, ?_, ?_⟩
      · rw [Hjs3.out, addX_endS]
        have h1 := endS_len (acc, trimR bs)
        have h2 : (trimR bs).length ≤ bs.length := by
          unfold trimR
          rw [List.length_reverse]
          have := (List.dropWhile_suffix (l := bs.reverse) (· == 32)).length_le
          rw [List.length_reverse] at this
          exact this
        have h3 : (acc, trimR bs).1.length + (acc, trimR bs).2.length = acc.length + (trimR bs).length := rfl
        omega
      · rw [Hjs3.out]
        exact rowJ_pat HO4.out HZ4.out HB4.out hF
end Go.Proofs.YtnogdojdjehakaaGreatDoor

/-
  Package expr: pattern: rows of lines, and how much they weigh.
-/
namespace Go.Proofs.YtnogdojdjehakaaGreatDoor
open Go.RowKit
set_option linter.unusedVariables false
set_option linter.unusedSimpArgs false

theorem wtP_append (a b : List EL) : wtP (a ++ b) = wtP a + wtP b := by
  unfold wtP
  rw [List.map_append, List.sum_append]
theorem wtLs_append (a b : List LN) : wtLs (a ++ b) = wtLs a + wtLs b := by
  unfold wtLs
  rw [List.map_append, List.sum_append]
theorem wtP_one (t : ByteArray) (p : Option EX) : wtP [.mk t p] = 1 + t.size := by
  unfold wtP
  show (1 + t.size) + 0 = _
  omega
theorem addT_wt (s : ByteArray) (acc : List EL) (i t : Nat) (h1 : i ≤ t) (h2 : t ≤ s.size) : wtP (addT s acc i t) ≤ wtP acc + 2 * (t - i) := by
  unfold addT
  split
  · rw [wtP_append, wtP_one, ByteArray.size_extract]
    omega
  · omega
theorem parts_wt {s : ByteArray} {P : Nat → Res} (hPos : PosOk s P) : ∀ (m : Nat) (acc : List EL) (i : Nat), s.size - i ≤ m → i ≤ s.size → ∀ ps j, partsS P s acc i = some (ps, j) → wtP ps ≤ wtP acc + 2 * (j - i) ∧ i ≤ j := by
  intro m
  induction m with
  | zero =>
    intro acc i hm hi ps j h
    have ht := tx_ok s i hi
    rw [partsS] at h
    split at h
    · next hc => have := isAt_lt hc; omega
    · cases h
      exact ⟨addT_wt s acc i _ ht.1 ht.2, ht.1⟩
  | succ m ih =>
    intro acc i hm hi ps j h
    have ht := tx_ok s i hi
    have ha := addT_wt s acc i _ ht.1 ht.2
    rw [partsS] at h
    split at h
    · split at h
      · cases h
      · next e j' hp =>
        split at h
        · next hg =>
          have h3 := hPos _ _ _ hp
          have h4 := ih _ _ (by omega) hg.2 ps j h
          rw [wtP_append, wtP_one] at h4
          have : (E0 : ByteArray).size = 0 := rfl
          omega
        · cases h
    · cases h
      exact ⟨ha, ht.1⟩
theorem nl_wt {s : ByteArray} (i0 : Nat) : ∀ (m f fr q : Nat), s.size - q ≤ m → q ≤ s.size → fr ≤ q → f + (q - fr) + i0 ≤ q → (nlS s f fr q).2.1 ≤ (nlS s f fr q).2.2 ∧ (nlS s f fr q).1 + ((nlS s f fr q).2.2 - (nlS s f fr q).2.1) + i0 ≤ (nlS s f fr q).2.2 := by
  intro m
  induction m with
  | zero =>
    intro f fr q hm hq h1 h2
    rw [nlS]
    split
    · next hc => have := isAt_lt hc; omega
    · exact ⟨h1, h2⟩
  | succ m ih =>
    intro f fr q hm hq h1 h2
    rw [nlS]
    split
    · next hc =>
      have := isAt_lt hc
      have h3 := sp_ok s (q + 1) this
      exact ih _ _ _ (by omega) h3.2 h3.1 (by omega)
    · exact ⟨h1, h2⟩
theorem next_wt {s : ByteArray} {i : Nat} (hi : i ≤ s.size) {f p k : Nat} (h : nextS s i = some (f, p, k)) : f + p + i ≤ k := by
  have := nl_wt i (s.size - i) 0 i i (Nat.le_refl _) hi (Nat.le_refl _) (by omega)
  unfold nextS at h
  split at h
  · cases h
  · cases h
    exact this.2
theorem lines_wt {s : ByteArray} {P : Nat → Res} (hPos : PosOk s P) : ∀ (m : Nat) (acc : List LN) (f p i : Nat), s.size - i ≤ m → i ≤ s.size → ∀ ls j, linesS P s acc f p i = some (ls, j) → wtLs ls ≤ wtLs acc + 1 + f + p + 3 * (j - i) ∧ i ≤ j := by
  intro m
  induction m with
  | zero =>
    intro acc f p i hm hi ls j h
    rw [linesS] at h
    split at h
    · cases h
    · next ps j0 hp =>
      have h1 := parts_wt hPos _ _ _ (Nat.le_refl _) hi _ _ hp
      split at h
      · cases h
        rw [wtLs_append]
        refine ⟨?_, h1.2⟩
        have h2 : wtP ([] : List EL) = 0 := rfl
        show wtLs acc + ((1 + f + p + wtP ps) + 0) ≤ _
        omega
      · split at h
        · next hg => omega
        · cases h
  | succ m ih =>
    intro acc f p i hm hi ls j h
    rw [linesS] at h
    split at h
    · cases h
    · next ps j0 hp =>
      have h1 := parts_wt hPos _ _ _ (Nat.le_refl _) hi _ _ hp
      have hj0 := (parts_pos _ _ _ (Nat.le_refl _) hi _ _ hp).2
      have h2 : wtP ([] : List EL) = 0 := rfl
      split at h
      · cases h
        rw [wtLs_append]
        refine ⟨?_, h1.2⟩
        show wtLs acc + ((1 + f + p + wtP ps) + 0) ≤ _
        omega
      · next f' p' k hn =>
        split at h
        · next hg =>
          have h3 := next_wt hj0 hn
          have h4 := ih _ _ _ _ (by omega) hg.2 ls j h
          rw [wtLs_append] at h4
          have h5 : wtLs [(⟨f, p, ps⟩ : LN)] = 1 + f + p + wtP ps := by show (1 + f + p + wtP ps) + 0 = _; omega
          omega
        · cases h
theorem infoLine : (Tryz.prog.info? 108).map (fun i => (i.zero, i.size, i.bytes)) = some (some (.agg #[.int .i64 0, .int .i64 0, .slice none 0 0]), 3, 40) := by kernel_rfl
/-- The values of a row of lines. -/
def LZip (W : World) (F : Nat → Prop) : List LN → List Value → Prop
  | [], xs => xs = []
  | x :: r, xs => ∃ A c ys, xs = .int .i64 x.feeds :: .int .i64 x.spaces :: .slice A x.parts.length c :: ys ∧ PatF W F x.parts (.slice A x.parts.length c) ∧ LZip W F r ys
theorem LZip.snoc {W : World} {F : Nat → Prop} {f p : Nat} {l : List EL} {A : Option Addr} {c : Nat} (hp : PatF W F l (.slice A l.length c)) : ∀ (acc : List LN) (xs : List Value), LZip W F acc xs → LZip W F (acc ++ [⟨f, p, l⟩]) (xs ++ [.int .i64 f, .int .i64 p, .slice A l.length c])
  | [], xs, h => by
    rw [LZip] at h
    subst h
    exact ⟨A, c, [], rfl, hp, rfl⟩
  | x :: r, xs, h => by
    rw [LZip] at h
    obtain ⟨A', c', ys, rfl, h2, h3⟩ := h
    exact ⟨A', c', _, rfl, h2, LZip.snoc hp r ys h3⟩
theorem LZip.carry {W W' : World} {F F' : Nat → Prop} (g : ∀ b, F b → F' b ∧ W'.heap[b]? = W.heap[b]?) : ∀ (acc : List LN) (xs : List Value), LZip W F acc xs → LZip W' F' acc xs
  | [], xs, h => by rw [LZip] at h ⊢; exact h
  | x :: r, xs, h => by
    rw [LZip] at h
    obtain ⟨A', c', ys, rfl, h2, h3⟩ := h
    exact ⟨A', c', ys, rfl, h2.carry g, LZip.carry g r ys h3⟩
theorem LZip.at_ {W : World} {F : Nat → Prop} {g : Nat} : ∀ (acc : List LN) (xs : List Value) (o : Nat), (∀ j x, xs[j]? = some x → W.cell? ⟨g, o + j, none⟩ = some x) → LZip W F acc xs → LsAt W F g o acc
  | [], xs, o, hc, h => fun k x hx => by simp at hx
  | y :: r, xs, o, hc, h => by
    rw [LZip] at h
    obtain ⟨A', c', ys, rfl, h2, h3⟩ := h
    intro k x hx
    cases k with
    | zero =>
      simp at hx
      subst hx
      exact ⟨hc 0 _ rfl, hc 1 _ rfl, A', c', hc 2 _ rfl, h2⟩
    | succ k =>
      have := LZip.at_ r ys (o + 3) (fun j x hx => by
        have := hc (j + 3) x (by simpa using hx)
        rw [show o + 3 + j = o + (j + 3) by omega]
        exact this) h3 k x (by simpa using hx)
      rw [show o + (k + 1) * 3 = o + 3 + k * 3 by omega]
      exact this
/-- A row of lines of the call's own. -/
def OwnL (B : Nat) (W : World) (v : Value) (acc : List LN) : Prop := ∃ xs, W.ownsRow B 108 3 v acc.length xs ∧ LZip W (OwnSet B W v) acc xs
theorem OwnL.nil (B : Nat) (W : World) : OwnL B W (.slice none 0 0) [] := ⟨[], World.ownsRow_nil _ _ _ _, rfl⟩
theorem OwnL.kp {rb B : Nat} {W W' : World} {v : Value} {acc : List LN} (h : OwnL B W v acc) (g : Kp rb W W') (hrb : rb < B) : OwnL B W' v acc := by
  obtain ⟨xs, h1, h2⟩ := h
  refine ⟨xs, h1.kept g.grownBy (.inr (fun e => by have := (h1.lt rb e).1; omega)), LZip.carry (fun b hb => ?_) _ _ h2⟩
  obtain ⟨⟨hb1, hb2⟩, hb3⟩ := hb
  exact ⟨⟨⟨hb1, Nat.lt_of_lt_of_le hb2 g.size⟩, hb3⟩, g.others b hb2 (by omega)⟩
theorem ownL_push {rb B : Nat} {w1 W2 W3 : World} {v v' : Value} {acc : List LN} {xs : List Value} {f p : Nat} {l : List EL} {A : Option Addr} {c : Nat} (hrb : rb < B) (K : Kp rb w1 W2) (hz : LZip w1 (OwnSet B w1 v) acc xs) (hp : PatF W2 (OwnSet B W2 v) l (.slice A l.length c))
    (ho : W3.ownsRow B 108 3 v' (acc.length + 1) (xs ++ [.int .i64 f, .int .i64 p, .slice A l.length c])) (hg : W2.grownBy W3 v.ownBlock) (hw : v'.ownBlock = v.ownBlock ∨ v'.ownBlock = some W2.heap.size) : OwnL B W3 v' (acc ++ [⟨f, p, l⟩]) := by
  refine ⟨_, by rw [List.length_append]; exact ho, ?_⟩
  have g : ∀ b, OwnSet B W2 v b → OwnSet B W3 v' b ∧ W3.heap[b]? = W2.heap[b]? := fun b hb => by
    obtain ⟨⟨hb1, hb2⟩, hb3⟩ := hb
    refine ⟨⟨⟨hb1, Nat.lt_of_lt_of_le hb2 hg.size⟩, ?_⟩, hg.block b hb2 hb3⟩
    rcases hw with e | e
    · rw [e]; exact hb3
    · rw [e]; intro e2; have := Option.some.inj e2; omega
  refine LZip.carry g _ _ (LZip.snoc hp acc xs (LZip.carry (fun b hb => ?_) _ _ hz))
  obtain ⟨⟨hb1, hb2⟩, hb3⟩ := hb
  exact ⟨⟨⟨hb1, Nat.lt_of_lt_of_le hb2 K.size⟩, hb3⟩, K.others b hb2 (by omega)⟩
end Go.Proofs.YtnogdojdjehakaaGreatDoor

/-
  Package expr: pattern, given place one deeper.
-/
namespace Go.Proofs.YtnogdojdjehakaaGreatDoor
open Go.RowKit
set_option linter.unusedVariables false
set_option linter.unusedSimpArgs false

theorem next_pos {s : ByteArray} {i : Nat} (hi : i ≤ s.size) {f p k : Nat} (h : nextS s i = some (f, p, k)) : i < k := by
  have h0 := nl_wt i (s.size - i) 0 i i (Nat.le_refl _) hi (Nat.le_refl _) (by omega)
  unfold nextS at h
  split at h
  · cases h
  · next hn =>
    cases h
    have h1 : ¬ (nlS s 0 i i).2.2 = (nlS s 0 i i).2.1 := fun e => hn (Or.inl e)
    omega
theorem OwnL.set {B : Nat} {W : World} {v : Value} {acc : List LN} (h : OwnL B W v acc) {nb : Nat} (hb : nb < B) (o : Nat) (x : Value) : OwnL B (W.setCell ⟨nb, o, none⟩ x) v acc := by
  obtain ⟨xs, h1, h2⟩ := h
  refine ⟨xs, h1.kept (row := some nb) ⟨rfl, rfl, rfl, by simp, fun k _ hk => Below.heap_setCell _ _ _ _ (fun e => hk (by simp [e]))⟩ (.inr (fun e => by have := (h1.lt nb e).1; omega)), LZip.carry (fun b hb' => ?_) _ _ h2⟩
  obtain ⟨⟨hb1, hb2⟩, hb3⟩ := hb'
  exact ⟨⟨⟨hb1, by simpa using hb2⟩, hb3⟩, Below.heap_setCell _ ⟨nb, o, none⟩ _ b (by show b ≠ nb; omega)⟩
theorem box_third {w : World} {k : Nat} {a b c : Value} {t : TypeId} (h : BoxAt w k #[a, b, c] t) (v : Value) : BoxAt (w.setCell ⟨k, 2, none⟩ v) k #[a, b, v] t := by
  unfold BoxAt at h ⊢
  simp [World.setCell, Array.getElem?_modify, h]
def patQ : Option (List LN × Nat) → Option (List EL × Nat)
  | none => none
  | some (ls, j) => some (joinS ls, j)
theorem patS_q (P : Nat → Res) (s : ByteArray) (i : Nat) : patS P s i = patQ (linesS P s [] 0 0 (sp s i)) := by
  unfold patS
  cases linesS P s [] 0 0 (sp s i) with
  | none => rfl
  | some v => obtain ⟨ls, j⟩ := v; rfl
set_option maxHeartbeats 4000000 in
set_option maxRecDepth 100000 in
theorem pattern_any {rb : Nat} {s : ByteArray} {d : Nat} {P : Nat → Res} (hs : s.size ≤ 1000000) (hd : d ≤ 3000) (hP : WayTo rb s 25 #[pt rb, .int .i64 ((d + 1 : Nat) : Int)] P) (hPos : PosOk s P) : PatTo rb s d (patS P s) := by
  intro i w hr hi
  obtain ⟨i0, hi0, hz0, hz1, hz2⟩ := info_parts infoLine
  have HR := Lib.hid hr
  have hlt := hr.lt
  have hS := sp_ok s i hi
  have hP1 := fun W (h : Rd rb s i W) => pass_any endSpaces W h (by omega) hi
  obtain ⟨R, hRR⟩ : ∃ R, linesS P s [] 0 0 (sp s i) = R := ⟨_, rfl⟩
  have hwt := fun ls j h => lines_wt hPos _ _ _ _ _ (Nat.le_refl _) hS.2 ls j (hRR.trans h)
  rw [patS_q, hRR]
  obtain ⟨p0, hp0⟩ : ∃ p, sp s i = p := ⟨_, rfl⟩
  rw [hp0] at hS hP1 hRR hwt
  have hPt := fun j W (h : Rd rb s j W) hj => parts_any hs (show d + 1 ≤ 4000 by omega) hP hPos j W h hj
  have hNx := fun j W (h : Rd rb s j W) hj => nextLine_any hs j W h hj
  obtain ⟨Q, hQ⟩ : ∃ Q, patQ R = Q := ⟨_, rfl⟩
  rw [show ((d + 1 : Nat) : Int) = (d : Int) + 1 by omega] at hPt
  rw [hQ]
  have HP1 := Lib.hid hP1
  have HPt := Lib.hid hPt
  have HNx := Lib.hid hNx
  have HQ := Lib.hid hQ
  have HRR := Lib.hid hRR
  have Hwt := Lib.hid hwt
  have hd0 : (d : Int) ≤ 3000 := by omega
  clear hr hP1 hp0 hP hPos hPt hNx hQ hRR hwt
  unfold pt at HP1 HPt HNx ⊢
  go_enter Tryz.func46, Tryz.ntmps46
  go_wp2_with fail
  go_at_call 49
  refine (HP1.out _ HR.out).mono ?_
  rintro e w1 ⟨rfl, g1, g2⟩
  have G1 := Lib.hid g1
  have HK := Lib.hid g2
  clear g1 g2
  go_wp2
  go_loopw [6, 8] (fun t6 t8 wr => ∃ (acc : List LN) (j f p : Nat) (gb : Bool) (A : Option Addr) (c : Nat), t6 = .slice A acc.length c ∧ t8 = .bool gb ∧ j ≤ s.size ∧ f ≤ s.size ∧ p ≤ s.size ∧ acc.length ≤ j + 1 ∧ (gb = true → acc.length ≤ j) ∧ Hid (gb = true → linesS P s acc f p j = R) ∧ Hid (gb = false → some (acc, j) = R ∧ 0 < acc.length) ∧ Hid (Rd rb s j wr) ∧ Hid (Kp rb w wr) ∧ Hid (BoxAt wr w1.heap.size #[.int .i64 f, .int .i64 p, .slice none 0 0] 108) ∧ Hid (OwnL (w1.heap.size + 1) wr (.slice A acc.length c) acc)) (fun _ t8 wr => match t8 with | .bool true => s.size - posOf rb wr + 1 | _ => 0)
  case atStart => exact ⟨[], p0, 0, 0, true, none, 0, rfl, rfl, hS.2, Nat.zero_le _, Nat.zero_le _, Nat.zero_le _, fun _ => Nat.zero_le _, fun _ => HRR.out, (fun h => by cases h), G1.out.alloc _, HK.out.alloc (by have := HK.out.size; omega) _, BoxAt.new _ _ _, OwnL.nil _ _⟩
  case round =>
    obtain ⟨acc, j, f, p, gb, A, c, rfl, rfl, hj, hf, hp, hal, hal2, Hl, He, HRd, HKr, HB, HO⟩ := hrel
    have Hpos := Lib.hid HRd.out.pos
    have hs1 := HK.out.size
    have hsr := HKr.out.size
    have hbl := HB.out.lt
    cases gb
    case false =>
      obtain ⟨hRe, h0⟩ := He.out rfl
      obtain ⟨xs, ho, hz⟩ := HO.out
      rcases ho.2 with ⟨_, hn⟩ | ⟨g, cap, cur, hv, hb, hg, hc1, hc2, hcs, htk⟩
      · omega
      cases hv
      have hw := (Hwt.out acc j hRe.symm).1
      have hw0 : wtLs ([] : List LN) = 0 := rfl
      have hJ := join_any acc (OwnSet (w1.heap.size + 1) wr (.slice (some ⟨g, 0, none⟩) acc.length c)) g c wr h0 hc1 (by omega) (by omega) (LZip.at_ acc xs 0 (fun j x hx => by
        have := ho.cells (g := g) rfl j x hx
        rw [Addr.add_mid] at this
        exact this) hz) (Array.getElem?_eq_some_iff.1 hg).1 (fun b hb => hb.1.2)
      have HJ := Lib.hid hJ
      have HRe := Lib.hid hRe
      clear hJ hRe hw hw0 ho hz hg hcs htk hc1 hc2
      go_wp2_with fail
      go_at_call 70
      refine (HJ.out).mono ?_
      rintro e w2 ⟨hb2, A2, n2, c2, rfl, hn, hn4, hpat⟩
      have HB2 := Lib.hid hb2
      have HPt2 := Lib.hid hpat
      clear hb2 hpat
      go_wp2
      go_ret2
      have hQe : Q = some (joinS acc, j) := by rw [← HQ.out, ← HRe.out]; rfl
      subst hQe
      have hb2 := HB2.out.size
      refine ⟨HKr.out.trans (Kp.of_below HB2.out (by omega)), A2, n2, c2, j, rfl, HRd.out.later HB2.out, hj, hn4, fun l m h => ?_⟩
      cases h
      refine ⟨rfl, hn, PatF.carry (fun b hb => ?_) HPt2.out⟩
      rcases hb with ⟨⟨b1, b2⟩, _⟩ | ⟨b1, b2⟩
      · exact ⟨⟨by omega, by omega⟩, rfl⟩
      · exact ⟨⟨by omega, b2⟩, rfl⟩
    case true =>
      have hans := Hl.out rfl
      have hal3 := hal2 rfl
      rw [linesS] at hans
      have hPt := fun W h => HPt.out j W h hj
      obtain ⟨r, hrr⟩ : ∃ r, partsS P s [] j = r := ⟨_, rfl⟩
      have hjp := fun ps j' (h : r = some (ps, j')) => parts_pos _ _ _ (Nat.le_refl _) hj ps j' (hrr.trans h)
      rw [hrr] at hPt hans
      have HPr := Lib.hid hPt
      have Hans := Lib.hid hans
      have Hjp := Lib.hid hjp
      have hacc : (acc.length : Int) ≤ 1000000 := by omega
      have hrb1 : rb ≠ w1.heap.size := by omega
      clear hPt hans hrr hjp
      go_wp2_with fail
      go_at_call 69
      refine (HPr.out _ HRd.out).mono ?_
      rintro e w2 ⟨h1, A2, n2, c2, j2, rfl, h2, hj2, h3⟩
      have HK2 := Lib.hid (HKr.out.trans h1)
      have HB2 := Lib.hid (BoxAt.kp HB.out h1 (fun e => hrb1 e.symm))
      have HO2 := Lib.hid (HO.out.kp h1 (by omega))
      have H2 := Lib.hid h2
      have H3 := Lib.hid h3
      have hs2 := h1.size
      clear h1 h2 h3
      cases r with
      | none =>
        have hR := Hans.out
        dsimp only at hR
        have HRn := Lib.hid hR
        clear hR
        go_wp2
        go_ret2
        have hQe : Q = none := by rw [← HQ.out, ← HRn.out]; rfl
        subst hQe
        exact ⟨HK2.out, none, 0, 0, j2, rfl, H2.out, hj2, Nat.zero_le _, fun l m h => by cases h⟩
      | some pj =>
        obtain ⟨ps, j2'⟩ := pj
        obtain ⟨rfl, hpl, hpn, hpt⟩ := H3.out ps j2' rfl
        subst hpl
        have hR := Hans.out
        dsimp only at hR
        have hjj := Hjp.out _ _ rfl
        have hNx := fun W h => HNx.out j2' W h hj2
        have hnp := fun f' p' k (h : nextS s j2' = some (f', p', k)) => next_pos hj2 h
        obtain ⟨rn, hrn⟩ : ∃ r, nextS s j2' = r := ⟨_, rfl⟩
        rw [hrn] at hR hNx hnp
        have HRn := Lib.hid hR
        have HN := Lib.hid hNx
        have Hnp := Lib.hid hnp
        have HPF := Lib.hid hpt
        obtain ⟨q0, q1, q2, p0', p1, p2⟩ := cells3 HB2.out
        have hl2 := HB2.out.lt
        obtain ⟨xs6, ho6, hz6⟩ := (HO2.out.set (nb := w1.heap.size) (by omega) 2 (.slice A2 ps.length c2))
        have hown1 := ho6.alloc (.cells #[.int .i64 f, .int .i64 p, .slice A2 ps.length c2] 108)
        have hnew : BoxAt ((w2.setCell ⟨w1.heap.size, 2, none⟩ (.slice A2 ps.length c2)).alloc (.cells #[.int .i64 f, .int .i64 p, .slice A2 ps.length c2] 108)) w2.heap.size #[.int .i64 f, .int .i64 p, .slice A2 ps.length c2] 108 := BoxAt.new' _ _ _ _ (by simp)
        have hmid : BoxAt ((w2.setCell ⟨w1.heap.size, 2, none⟩ (.slice A2 ps.length c2)).alloc (.cells #[.int .i64 f, .int .i64 p, .slice A2 ps.length c2] 108)) w1.heap.size #[.int .i64 f, .int .i64 p, .slice A2 ps.length c2] 108 := (box_third HB2.out (.slice A2 ps.length c2)).alloc _
        have Hmid := Lib.hid hmid
        clear hmid
        obtain ⟨_, ho5, _⟩ := HO.out
        have Hv5 := Lib.hid (fun k e => ho5.lt k e)
        clear hR hNx hnp hrn hpt ho6 ho5
        go_wp2_with (at_builtin; refine wpList_append_where _ rfl _ _ 106 rfl (w1.heap.size + 1) 108 i0 (.agg #[.int .i64 0, .int .i64 0, .slice none 0 0]) 3 40 Tryz.underlying106 hi0 hz0 hz1 hz2 rfl (by decide) _ _ _ rfl hown1 ⟨w2.heap.size, 0, none⟩ 1 1 [.int .i64 f, .int .i64 p, .slice A2 ps.length c2] rfl rfl ?c1 ?c2 ?c3 ?c4 ?c5 ?c6 ?_)
        case c1 =>
          intro j u hj
          match j, hj with
          | 0, hj => simp at hj; subst hj; exact hnew.cell 0
          | 1, hj => simp at hj; subst hj; exact hnew.cell 1
          | 2, hj => simp at hj; subst hj; exact hnew.cell 2
        case c2 => intro u hu; simp at hu; rcases hu with rfl | rfl | rfl <;> rfl
        case c3 => unfold maxLen; omega
        case c4 => omega
        case c5 => simp; omega
        case c6 => decide
        intro v' w8 hown' hgrow hwh
        have K2 : Kp rb (w2.setCell ⟨w1.heap.size, 2, none⟩ (.slice A2 ps.length c2)) ((w2.setCell ⟨w1.heap.size, 2, none⟩ (.slice A2 ps.length c2)).alloc (.cells #[.int .i64 f, .int .i64 p, .slice A2 ps.length c2] 108)) := (Kp.refl rb _).alloc (by simp; omega) _
        have hcar : ∀ b, Since wr.heap.size w2 b → OwnSet (w1.heap.size + 1) ((w2.setCell ⟨w1.heap.size, 2, none⟩ (.slice A2 ps.length c2)).alloc (.cells #[.int .i64 f, .int .i64 p, .slice A2 ps.length c2] 108)) (.slice A acc.length c) b ∧ ((w2.setCell ⟨w1.heap.size, 2, none⟩ (.slice A2 ps.length c2)).alloc (.cells #[.int .i64 f, .int .i64 p, .slice A2 ps.length c2] 108)).heap[b]? = w2.heap[b]? := fun b hb => by
          obtain ⟨b1, b2⟩ := hb
          refine ⟨⟨⟨by omega, by simp; omega⟩, fun e => by have := Hv5.out b e.symm; omega⟩, ?_⟩
          exact (Lib.alloc_old _ _ b (by simpa using b2)).trans (Below.heap_setCell _ ⟨w1.heap.size, 2, none⟩ _ b (by show b ≠ w1.heap.size; omega))
        have HO8 := Lib.hid (ownL_push (rb := rb) (f := f) (p := p) (l := ps) (by omega) K2 hz6 (PatF.carry hcar HPF.out) hown' hgrow (by simpa using hwh))
        have G8 := Lib.hid (((H2.out.setOther hrb1 2 _).alloc _).grown hgrow (fun k e => by have := Hv5.out k e; omega))
        have HK8 := Lib.hid (Kp.grown ((HK2.out.setNew (b := w1.heap.size) hs1 hlt 2 _).alloc (by simp; omega) _) hgrow (fun k e => by have := (Hv5.out k e).1; omega) hlt)
        have HB8 := Lib.hid (show BoxAt w8 w1.heap.size #[.int .i64 f, .int .i64 p, .slice A2 ps.length c2] 108 from (hgrow.block w1.heap.size Hmid.out.lt (fun e => by have := (Hv5.out _ e.symm).1; omega)).trans Hmid.out)
        obtain ⟨A9, c9, rfl⟩ := own_slice hown' (by omega)
        clear hown' hgrow hwh K2 hcar hnew q0 q1 q2 p0' p1 p2 hown1 hz6
        go_wp2_with fail
        go_at_call 68
        refine (HN.out _ G8.out).mono ?_
        rintro e w9 ⟨h4, f', p', j3, rfl, h5, hj3, hf', hp', hnone, hsome⟩
        have HK9 := Lib.hid (HK8.out.trans h4)
        have HB9 := Lib.hid (BoxAt.kp HB8.out h4 (fun e => hrb1 e.symm))
        have HO9 := Lib.hid (HO8.out.kp h4 (by omega))
        have H9 := Lib.hid h5
        have hl9 := HB9.out.lt
        obtain ⟨q0, q1, q2, p0', p1, p2⟩ := cells3 HB9.out
        have Hnone := Lib.hid hnone
        have Hsome := Lib.hid hsome
        clear h4 h5 hnone hsome
        go_wp2
        go_roundw
        case rel =>
          refine ⟨acc ++ [⟨f, p, ps⟩], j3, f', p', rn.isSome, A9, c9, ?_, rfl, hj3, hf', hp', ?_, ?_, ?_, ?_, H9.out.set3 hrb1 _ _ _, HK9.out.set3 hs1 hlt _ _ _, box_set3 HB9.out _ _ _, ?_⟩
          · show Value.slice A9 _ c9 = _
            simp
          · rw [List.length_append, List.length_singleton]
            cases rn with
            | none => have := Hnone.out rfl; omega
            | some v => obtain ⟨f2, p2, k2⟩ := v; have := Hnp.out _ _ _ rfl; obtain ⟨_, _, e⟩ := Hsome.out _ _ _ rfl; omega
          · intro hg
            rw [List.length_append, List.length_singleton]
            cases rn with
            | none => cases hg
            | some v => obtain ⟨f2, p2, k2⟩ := v; have := Hnp.out _ _ _ rfl; obtain ⟨_, _, e⟩ := Hsome.out _ _ _ rfl; omega
          · intro hg
            cases rn with
            | none => cases hg
            | some v =>
              obtain ⟨f2, p2, k2⟩ := v
              have := Hnp.out _ _ _ rfl
              obtain ⟨rfl, rfl, rfl⟩ := Hsome.out _ _ _ rfl
              have hR := HRn.out
              dsimp only at hR
              rw [dif_pos (show j < k2 ∧ k2 ≤ s.size from ⟨by omega, hj3⟩)] at hR
              exact hR
          · intro hg
            cases rn with
            | some v => cases hg
            | none =>
              have e := Hnone.out rfl
              subst e
              have hR := HRn.out
              dsimp only at hR
              exact ⟨hR, by simp⟩
          · rw [List.length_append, List.length_singleton]
            exact ((HO9.out.set (nb := w1.heap.size) (by omega) 0 _).set (nb := w1.heap.size) (by omega) 1 _).set (nb := w1.heap.size) (by omega) 2 _
        case measure =>
          have e3 := (H9.out.set3 hrb1 (.int .i64 f') (.int .i64 p') (.slice none 0 0)).pos
          cases rn with
          | none => show 0 < s.size - posOf rb wr + 1; omega
          | some v =>
            obtain ⟨f2, p2, k2⟩ := v
            have := Hnp.out _ _ _ rfl
            obtain ⟨_, _, e⟩ := Hsome.out _ _ _ rfl
            have e4 := Hpos.out
            show s.size - posOf rb (set3 w9 w1.heap.size (.int .i64 f') (.int .i64 p') (.slice none 0 0)) + 1 < s.size - posOf rb wr + 1
            rw [e3, e4]
            omega
end Go.Proofs.YtnogdojdjehakaaGreatDoor

/-
  Package expr: what is read moves on.
-/
namespace Go.Proofs.YtnogdojdjehakaaGreatDoor
open Go.RowKit
set_option linter.unusedVariables false
set_option linter.unusedSimpArgs false

theorem or_some {α : Type} {a b : Option α} {v : α} (h : a.or b = some v) : a = some v ∨ b = some v := by
  cases a with
  | none => exact .inr (by simpa using h)
  | some x => exact .inl (by simpa using h)
section
variable {s : ByteArray} {P : Nat → Res} {i j : Nat} {e : EX}
theorem quo_pos (hi : i ≤ s.size) (h : quoS s i = some (e, j)) : i < j ∧ j ≤ s.size := by
  obtain ⟨T, n, b, _, hn, _, h4⟩ := quo_val s i hi
  obtain ⟨rfl, _, h0⟩ := h4 _ _ h
  omega
theorem var_pos (hi : i ≤ s.size) (h : varS s i = some (e, j)) : i < j ∧ j ≤ s.size := by
  unfold varS at h
  split at h
  · next hc =>
    rw [Bool.and_eq_true, decide_eq_true_iff] at hc
    have h1 := isAt_lt hc.1
    have h2 := nm_ok s (i + 1) h1
    cases h
    omega
  · cases h
theorem nest_pos (hP : PosOk s P) (h : nestS P i = some (e, j)) : i < j ∧ j ≤ s.size := by
  unfold nestS at h
  split at h
  · next hp => cases h; exact hP _ _ _ hp
  · cases h
theorem ref_pos {k : Int} (hi : i ≤ s.size) (h : refS k s i = some (e, j)) : i < j ∧ j ≤ s.size := by
  unfold refS at h
  have h1 := nm_ok s i hi
  split at h
  · cases h
  · split at h
    · next hd =>
      have h2 := isAt_lt hd
      have h3 := nm_ok s (nm s i + 1) h2
      split at h
      · cases h
      · cases h; omega
    · cases h; omega
theorem ter_pos (hi : i ≤ s.size) (h : terS s i = some (e, j)) : i < j ∧ j ≤ s.size := by
  unfold terS at h
  split at h
  · next hc =>
    have h1 := isAt_lt hc
    have := ref_pos (by omega) h
    omega
  · cases h
theorem nub_pos (hi : i ≤ s.size) (h : nubS s i = some (e, j)) : i < j ∧ j ≤ s.size := by
  unfold nubS at h
  have h1 := nu_ok s i hi
  split at h
  · cases h
  · cases h; omega
theorem head_pos (hP : PosOk s P) (hi : i ≤ s.size) (h : headS P s i = some (e, j)) : i < j ∧ j ≤ s.size := by
  unfold headS at h
  rcases or_some h with h | h
  · exact quo_pos hi h
  rcases or_some h with h | h
  · exact var_pos hi h
  rcases or_some h with h | h
  · exact nest_pos hP h
  rcases or_some h with h | h
  · exact ter_pos hi h
  rcases or_some h with h | h
  · exact ref_pos hi h
  · exact nub_pos hi h
theorem opn_pos (e : EX) (hj : j ≤ s.size) : j ≤ (opnS s e j).2 ∧ (opnS s e j).2 ≤ s.size := by
  unfold opnS
  have h1 := bl_ok s j hj
  split
  · split
    · next hc => have h2 := isAt_lt hc; exact ⟨by show j ≤ bl s j + 1; omega, h2⟩
    · exact h1
  · exact ⟨Nat.le_refl _, hj⟩
theorem nam_pos {n : ByteArray} (hi : i ≤ s.size) (h : namS s i = some (n, e, j)) : i < j ∧ j ≤ s.size := by
  unfold namS at h
  have h1 := nm_ok s i hi
  have h2 := bl_ok s (nm s i) h1.2
  split at h
  · cases h
  · split at h
    · next hc =>
      have h3 := isAt_lt hc
      have h4 := bl_ok s (bl s (nm s i) + 1) h3
      split at h
      · next e' q ho =>
        cases h
        have : bl s (bl s (nm s i) + 1) < j ∧ j ≤ s.size := by
          rcases or_some ho with ho | ho
          · exact quo_pos h4.2 ho
          · exact nub_pos h4.2 ho
        omega
      · cases h
    · cases h
theorem arg_pos {n : ByteArray} (hP : PosOk s P) (hi : i ≤ s.size) (h : argS P s i = some (n, e, j)) : i < j ∧ j ≤ s.size := by
  unfold argS at h
  split at h
  · next hn => cases h; exact nam_pos hi hn
  · split at h
    · next hh => cases h; exact head_pos hP hi hh
    · cases h
theorem args_pos (hP : PosOk s P) : ∀ (m : Nat) (xs : List AR) (want : Bool) (i : Nat), s.size - i ≤ m → i ≤ s.size → ∀ l j, argsS P s xs want i = some (l, j) → i < j ∧ j ≤ s.size := by
  intro m
  induction m with
  | zero =>
    intro xs want i hm hi l j h
    have h1 := bl_ok s i hi
    rw [argsS] at h
    split at h
    · next hc => have := isAt_lt hc; omega
    · split at h
      · split at h
        · next hc => have := isAt_lt hc; omega
        · cases h
      · split at h
        · cases h
        · next hh => have := arg_pos hP h1.2 hh; omega
  | succ m ih =>
    intro xs want i hm hi l j h
    have h1 := bl_ok s i hi
    rw [argsS] at h
    split at h
    · next hc => have := isAt_lt hc; cases h; omega
    · split at h
      · split at h
        · next hc =>
          have h2 := isAt_lt hc
          have := ih _ _ _ (by omega) h2 l j h
          omega
        · cases h
      · split at h
        · cases h
        · next n e' j' hh =>
          have h2 := arg_pos hP h1.2 hh
          split at h
          · split at h
            · next hg =>
              split at h
              · cases h
              · next hh2 =>
                have h3 := ih _ _ _ (by omega) hg.2 _ _ hh2
                split at h
                · next hg2 =>
                  split at h
                  · have := ih _ _ _ (by omega) hg2.2 l j h
                    omega
                  · cases h
                · cases h
            · cases h
          · generalize (if emp n = true then (opnS s e' j').2 else j') = q at h
            split at h
            · next hg =>
              split at h
              · have := ih _ _ _ (by omega) hg.2 l j h
                omega
              · cases h
            · cases h
theorem inl_pos (hP : PosOk s P) (hi : i ≤ s.size) (h : inlS P s i = some (e, j)) : i < j ∧ j ≤ s.size := by
  unfold inlS at h
  split at h
  · cases h
  · next e' j' hh =>
    have h1 := head_pos hP hi hh
    have h2 := opn_pos e' h1.2
    split at h
    · split at h
      · cases h
      · next ha =>
        cases h
        have := args_pos hP _ _ _ _ (Nat.le_refl _) h2.2 _ _ ha
        omega
    · cases h; omega
theorem vars_pos : ∀ (m : Nat) (acc : List VA) (i : Nat), s.size - i ≤ m → i ≤ s.size → ∀ l j, varsS P s acc i = some (l, j) → i < j ∧ j ≤ s.size := by
  intro m
  induction m with
  | zero =>
    intro acc i hm hi l j h
    rw [varsS] at h
    split at h
    · next hc => have := isAt_lt hc; omega
    · split at h
      · cases h
      · split at h
        · next hg => omega
        · cases h
  | succ m ih =>
    intro acc i hm hi l j h
    rw [varsS] at h
    split at h
    · next hc =>
      have := isAt_lt hc
      split at h
      · cases h; omega
      · cases h
    · split at h
      · cases h
      · split at h
        · next hg => have := ih _ _ (by omega) hg.2 l j h; omega
        · cases h
theorem sel_pos {l : List VA} (hi : i ≤ s.size) (h : selS P s i = some (l, j)) : i < j ∧ j ≤ s.size := by
  unfold selS at h
  have h1 := sp_ok s i hi
  split at h
  · next hc =>
    have h2 := isAt_lt hc
    have h3 := bl_ok s (sp s i + 1) h2
    have := vars_pos _ _ _ (Nat.le_refl _) h3.2 _ _ h
    omega
  · cases h
theorem pl_pos (hP : PosOk s P) : PosOk s (plS P s) := by
  intro i e j h
  unfold plS at h
  split at h
  · next hc =>
    have h1 := isAt_lt hc
    have h2 := bl_ok s (i + 1) h1
    split at h
    · cases h
    · next e' j' hin =>
      have h3 := inl_pos hP h2.2 hin
      have h4 := bl_ok s j' h3.2
      split at h
      · next hb =>
        have h5 := isAt_lt hb
        split at h
        · cases h
        · cases h; omega
      · split at h
        · next hb =>
          rw [Bool.and_eq_true, Bool.and_eq_true] at hb
          have h5 := isAt_lt hb.1.2
          split at h
          · cases h
          · next hsl =>
            cases h
            have := sel_pos (by omega) hsl
            omega
        · cases h
  · cases h
end
theorem place_pos (s : ByteArray) : ∀ r, PosOk s (placeS s r)
  | 0 => by
    intro i e j h
    rw [placeS] at h
    cases h
  | r + 1 => by
    rw [placeS_succ]
    exact pl_pos (place_pos s r)
/-- Inline at a depth, whatever place is one deeper. -/
def InKnot (rb : Nat) (s : ByteArray) : Prop := ∀ (d : Nat) (P : Nat → Res), d ≤ 20 → WayTo rb s 25 #[pt rb, .int .i64 ((d + 1 : Nat) : Int)] P → PosOk s P → WayTo rb s 51 #[pt rb, .int .i64 d] (inlS P s)
theorem place_knot {rb : Nat} {s : ByteArray} (hs : s.size ≤ 1000000) (hIn : InKnot rb s) : ∀ (r d : Nat), d + r = 21 → WayTo rb s 25 #[pt rb, .int .i64 (d : Nat)] (placeS s r)
  | 0, d, h => by
    have := place_deep (rb := rb) (s := s) (d := d) (by omega) (by omega)
    have e : placeS s 0 = fun _ => none := by funext i; rw [placeS]
    rw [e]
    exact this
  | r + 1, d, h => by
    rw [placeS_succ]
    have hP := place_knot hs hIn r (d + 1) (by omega)
    have hPos := place_pos s r
    refine place_any hs (by omega) (hIn d _ (by omega) hP hPos) ?_
    intro i w hr hi
    exact variants_any hs (by omega) (pattern_any hs (by omega) hP hPos) i w hr hi
end Go.Proofs.YtnogdojdjehakaaGreatDoor

/-
  Names in a map.
-/
namespace Go.Proofs.YtnogdojdjehakaaGreatDoor
open Go.RowKit Go.Maps
set_option linter.unusedVariables false
set_option linter.unusedSimpArgs false

theorem keyLaw : Keyed Tryz.prog 9 := string_keyed Tryz.underlying9
theorem zeroUnit (w : World) : (zeroValue 151).run Tryz.prog w = .ok (.agg #[]) w := by kernel_rfl
/-- The map holds just these names. -/
def NamesAt (W : World) (b n : Nat) (seen : List ByteArray) : Prop :=
  ∃ D : DataW Unit, W.ownsMap Tryz.prog 9 (unitElem (H := Unit)) b n D ∧ (∀ p : ByteArray, Maps.has D (.string p.data.toList) = memB p seen) ∧ Maps.size D = seen.length
theorem NamesAt.later {W W1 : World} {b n : Nat} {seen : List ByteArray} (h : NamesAt W b n seen) (hb : Below W.heap.size W W1) : NamesAt W1 b n seen := by
  obtain ⟨D, ⟨es, clock, h1, h2⟩, h3⟩ := h
  exact ⟨D, ⟨es, clock, (hb.block b (Array.getElem?_eq_some_iff.1 h1).1).trans h1, h2⟩, h3⟩
theorem NamesAt.made (w : World) : NamesAt (w.alloc (.map #[] 0)) w.heap.size 0 [] :=
  ⟨.map [], World.ownsMap_made w _ _ _, fun p => by simp [Maps.has, memB], rfl⟩
theorem NamesAt.mono {W : World} {b n m : Nat} {seen : List ByteArray} (h : NamesAt W b n seen) (hm : n ≤ m) : NamesAt W b m seen := by
  obtain ⟨D, h1, h3⟩ := h
  exact ⟨D, h1.mono hm, h3⟩
theorem names_put {D : DataW Unit} (hm : Tidy D) {seen : List ByteArray} (h : ∀ p : ByteArray, Maps.has D (.string p.data.toList) = memB p seen) (hz : Maps.size D = seen.length) (q : ByteArray) (hq : memB q seen = false) (u : DataW Unit) :
    (∀ p : ByteArray, Maps.has (D.put (.string q.data.toList) u) (.string p.data.toList) = memB p (q :: seen)) ∧ Maps.size (D.put (.string q.data.toList) u) = (q :: seen).length := by
  constructor
  · intro p
    by_cases e : p = q
    · subst e
      rw [has_put_same hm.isMap (by simp [WideAt.IsKeyLit])]
      simp [memB]
    · rw [has_put_other (by intro e2; exact e (bytes_eq (by injection e2))), h p]
      simp [memB, e]
  · rw [size_put hm, h q, hq, hz]
    simp
/-- A map's store keeps all blocks of cells. -/
theorem grown_cells {w w' : World} {b : Nat} (hg : w.grownBy w' (some b)) (hm : ∃ es c, w.heap[b]? = some (.map es c)) {k : Nat} {cs : Array Value} {t : TypeId} {fz : Nat × Nat} (h : w.heap[k]? = some (.cells cs t fz)) : w'.heap[k]? = some (.cells cs t fz) := by
  rw [hg.block k (Array.getElem?_eq_some_iff.1 h).1 ?_]
  · exact h
  · intro e
    obtain ⟨es, c, hm⟩ := hm
    have := Option.some.inj e
    subst this
    rw [h] at hm
    cases hm
theorem owns_map {w : World} {b n : Nat} {D : DataW Unit} (h : w.ownsMap Tryz.prog 9 (unitElem (H := Unit)) b n D) : ∃ es c, w.heap[b]? = some (.map es c) := by
  obtain ⟨es, clock, h1, _⟩ := h
  exact ⟨es, clock, h1⟩
theorem key_str (t : ByteArray) (ht : t.size ≤ 4000000) : keyOf Tryz.prog 9 (.string t) = some (.string t.data.toList) := by
  rw [Go.WideMaps.keyOf_string_mk Tryz.underlying9 (by unfold maxLen; omega)]
end Go.Proofs.YtnogdojdjehakaaGreatDoor

/-
  Package expr: calls within calls, as a stack: what is left to be read.
-/
namespace Go.Proofs.YtnogdojdjehakaaGreatDoor
open Go.RowKit
set_option linter.unusedVariables false
set_option linter.unusedSimpArgs false

/-- A call whose arguments are being read. -/
structure Fr where
  e : EX
  xs : List AR
  want : Bool
/-- What comes of an expression that is read, given to the calls around it, the nearest first. -/
def upS (P : Nat → Res) (s : ByteArray) : List Fr → EX → Nat → Res
  | [], e, m => some (e, m)
  | f :: r, e, m => if addOk f.xs E0 e = true then (match argsS P s (f.xs ++ [.mk E0 e]) true m with
      | none => none
      | some (xs, q) => upS P s r (withArgs f.e xs) q) else none
def runS (P : Nat → Res) (s : ByteArray) (f : Fr) (r : List Fr) (i : Nat) : Res := match argsS P s f.xs f.want i with
  | none => none
  | some (xs, q) => upS P s r (withArgs f.e xs) q
section
variable {P : Nat → Res} {s : ByteArray} {f g : Fr} {r : List Fr} {i j : Nat} {n : ByteArray} {e : EX}
theorem upS_cons : upS P s (g :: r) e i = if addOk g.xs E0 e = true then runS P s ⟨g.e, g.xs ++ [.mk E0 e], true⟩ r i else none := by
  rw [upS]
  rfl
theorem runS_close (hc : isAt s (bl s i) 41 = true) : runS P s f r i = upS P s r (withArgs f.e f.xs) (bl s i + 1) := by
  unfold runS
  rw [argsS, if_pos hc]
theorem runS_comma (hc : isAt s (bl s i) 41 = false) (hw : f.want = true) : runS P s f r i = if isAt s (bl s i) 44 = true then runS P s ⟨f.e, f.xs, false⟩ r (bl s i + 1) else none := by
  unfold runS
  rw [argsS, hc, hw]
  by_cases h : isAt s (bl s i) 44 = true
  · simp [h]
  · simp [h]
theorem runS_none (hc : isAt s (bl s i) 41 = false) (hw : f.want = false) (ha : argS P s (bl s i) = none) : runS P s f r i = none := by
  unfold runS
  rw [argsS, hc, hw, ha]
  simp
theorem runS_open (hP : PosOk s P) (hi : i ≤ s.size) (hc : isAt s (bl s i) 41 = false) (hw : f.want = false) (ha : argS P s (bl s i) = some (n, e, j)) (ho : (emp n && (opnS s e j).1) = true) :
    runS P s f r i = runS P s ⟨opnE e, [], false⟩ (f :: r) (opnS s e j).2 := by
  have h1 := bl_ok s i hi
  have h2 := arg_pos hP h1.2 ha
  have h3 := opn_pos e h2.2
  rw [runS, argsS, hc, hw, ha]
  dsimp only
  rw [if_neg (by simp), if_neg (by simp), if_pos ho, dif_pos ⟨by omega, h3.2⟩]
  unfold runS
  dsimp only
  cases hh : argsS P s [] false (opnS s e j).2 with
  | none => rfl
  | some p =>
    obtain ⟨xs', m⟩ := p
    have h4 := args_pos hP _ _ _ _ (Nat.le_refl _) h3.2 _ _ hh
    dsimp only
    rw [dif_pos ⟨by omega, h4.2⟩, upS]
    by_cases hk : addOk f.xs E0 (withArgs (opnE e) xs') = true
    · rw [if_pos hk, if_pos hk]
    · rw [if_neg hk, if_neg hk]
theorem runS_add (hP : PosOk s P) (hi : i ≤ s.size) (hc : isAt s (bl s i) 41 = false) (hw : f.want = false) (ha : argS P s (bl s i) = some (n, e, j)) (ho : (emp n && (opnS s e j).1) = false) :
    runS P s f r i = if addOk f.xs n e = true then runS P s ⟨f.e, f.xs ++ [.mk n e], true⟩ r (if emp n = true then (opnS s e j).2 else j) else none := by
  have h1 := bl_ok s i hi
  have h2 := arg_pos hP h1.2 ha
  have h3 := opn_pos e h2.2
  have h4 : i < (if emp n = true then (opnS s e j).2 else j) ∧ (if emp n = true then (opnS s e j).2 else j) ≤ s.size := by
    split <;> omega
  rw [runS, argsS, hc, hw, ha]
  dsimp only
  rw [if_neg (by simp), if_neg (by simp), if_neg (by rw [ho]; simp), dif_pos h4]
  by_cases hk : addOk f.xs n e = true
  · rw [if_pos hk, if_pos hk]; rfl
  · rw [if_neg hk, if_neg hk]
theorem inl_run {e : EX} (hh : headS P s i = some (e, j)) : inlS P s i = if (opnS s e j).1 = true then runS P s ⟨opnE e, [], false⟩ [] (opnS s e j).2 else some (e, (opnS s e j).2) := by
  unfold inlS
  rw [hh]
  dsimp only
  split
  · unfold runS
    dsimp only
    cases argsS P s [] false (opnS s e j).2 with
    | none => rfl
    | some p => rfl
  · rfl
theorem inl_none (hh : headS P s i = none) : inlS P s i = none := by
  unfold inlS
  rw [hh]
end
/-- The names of arguments that have one, the last first. -/
def seenOf (xs : List AR) : List ByteArray := ((xs.filter fun x => !emp (arName x)).map arName).reverse
theorem seenOf_snoc (xs : List AR) (n : ByteArray) (e : EX) : seenOf (xs ++ [.mk n e]) = if emp n = true then seenOf xs else n :: seenOf xs := by
  unfold seenOf
  rw [List.filter_append]
  by_cases h : emp n = true
  · simp [arName, h]
  · simp [arName, h]
theorem seenOf_empty (xs : List AR) : (xs.all fun x => emp (arName x)) = decide ((seenOf xs).length = 0) := by
  unfold seenOf
  rw [List.length_reverse, List.length_map, Bool.eq_iff_iff, List.all_eq_true, decide_eq_true_iff, List.length_eq_zero_iff, List.filter_eq_nil_iff]
  simp
theorem seenOf_mem (xs : List AR) (n : ByteArray) (hn : emp n = false) : (xs.any fun x => decide (arName x = n)) = memB n (seenOf xs) := by
  unfold seenOf memB
  rw [List.any_reverse, List.any_map, List.any_filter]
  congr 1
  funext x
  by_cases h : arName x = n
  · subst h
    simp [hn]
  · have h' : ¬ n = arName x := fun e => h e.symm
    simp [h, h']
/-- The values of a row of arguments. -/
def AZip (W : World) (F : Nat → Prop) : List AR → List Value → Prop
  | [], xs => xs = []
  | .mk n e :: r, xs => ∃ c ys, xs = .string n :: c.k :: c.t :: c.n :: c.a :: c.al :: c.i :: c.vs :: ys ∧ ExF W F e c ∧ AZip W F r ys
theorem AZip.snoc {W : World} {F : Nat → Prop} {n : ByteArray} {e : EX} {c : C7} (he : ExF W F e c) : ∀ (acc : List AR) (xs : List Value), AZip W F acc xs → AZip W F (acc ++ [.mk n e]) (xs ++ [.string n, c.k, c.t, c.n, c.a, c.al, c.i, c.vs])
  | [], xs, h => by
    rw [AZip] at h
    subst h
    exact ⟨c, [], rfl, he, rfl⟩
  | .mk n' e' :: r, xs, h => by
    rw [AZip] at h
    obtain ⟨c', ys, rfl, h2, h3⟩ := h
    exact ⟨c', _, rfl, h2, AZip.snoc he r ys h3⟩
theorem AZip.carry {W W' : World} {F F' : Nat → Prop} (g : ∀ b, F b → F' b ∧ W'.heap[b]? = W.heap[b]?) : ∀ (acc : List AR) (xs : List Value), AZip W F acc xs → AZip W' F' acc xs
  | [], xs, h => by rw [AZip] at h ⊢; exact h
  | .mk t' p' :: r, xs, h => by
    rw [AZip] at h
    obtain ⟨c', ys, rfl, h2, h3⟩ := h
    exact ⟨c', ys, rfl, h2.carry g, AZip.carry g r ys h3⟩
theorem AZip.as {W : World} {F : Nat → Prop} {g : Nat} (hg : F g) : ∀ (acc : List AR) (xs : List Value) (o : Nat), (∀ j x, xs[j]? = some x → W.cell? ⟨g, o + j, none⟩ = some x) → AZip W F acc xs → AsF W F acc g o
  | [], xs, o, hc, h => by rw [AsF]; trivial
  | .mk n e :: r, xs, o, hc, h => by
    rw [AZip] at h
    obtain ⟨c, ys, rfl, h2, h3⟩ := h
    rw [AsF]
    refine ⟨hg, hc 0 _ rfl, ⟨c, ⟨?_, ?_, ?_, ?_, ?_, ?_, ?_⟩, h2⟩, AZip.as hg r ys (o + 8) (fun j x hx => ?_) h3⟩
    · exact hc 1 _ rfl
    · have := hc 2 _ rfl; rwa [show o + 1 + 1 = o + 2 by omega]
    · have := hc 3 _ rfl; rwa [show o + 1 + 2 = o + 3 by omega]
    · have := hc 4 _ rfl; rwa [show o + 1 + 3 = o + 4 by omega]
    · have := hc 5 _ rfl; rwa [show o + 1 + 4 = o + 5 by omega]
    · have := hc 6 _ rfl; rwa [show o + 1 + 5 = o + 6 by omega]
    · have := hc 7 _ rfl; rwa [show o + 1 + 6 = o + 7 by omega]
    · have := hc (j + 8) x (by simpa using hx)
      rw [show o + 8 + j = o + (j + 8) by omega]
      exact this
/-- A row of arguments of the call's own, whose trees lie in such blocks. -/
def OwnA (B : Nat) (W : World) (F : Nat → Prop) (v : Value) (acc : List AR) : Prop := ∃ xs, W.ownsRow B 58 8 v acc.length xs ∧ AZip W F acc xs
theorem OwnA.nil (B : Nat) (W : World) (F : Nat → Prop) : OwnA B W F (.slice none 0 0) [] := ⟨[], World.ownsRow_nil _ _ _ _, rfl⟩
/-- The names that a call has: no map, or one of its own. -/
def NmOk (B : Nat) (W : World) (v : Value) (seen : List ByteArray) (n : Nat) : Prop := (v = .map none ∧ seen = []) ∨ ∃ b, v = .map (some b) ∧ B ≤ b ∧ 0 < seen.length ∧ NamesAt W b n seen
def mapBlockOf : Value → Option Nat
  | .map b => b
  | _ => none
end Go.Proofs.YtnogdojdjehakaaGreatDoor

/-
  Package expr: add: what it does to memory.
-/
namespace Go.Proofs.YtnogdojdjehakaaGreatDoor
open Go.RowKit Go.Maps
set_option linter.unusedVariables false
set_option linter.unusedSimpArgs false

theorem infoA : (Tryz.prog.info? 58).map (fun i => (i.zero, i.size, i.bytes)) = some (some (.agg #[.string ⟨#[]⟩, .int .i64 0, .string ⟨#[]⟩, .string ⟨#[]⟩, .string ⟨#[]⟩, .slice none 0 0, .pointer none, .slice none 0 0]), 8, 128) := by kernel_rfl
theorem infoC : (Tryz.prog.info? 116).map (fun i => (i.zero, i.size, i.bytes)) = some (some (.agg #[.int .i64 0, .string ⟨#[]⟩, .string ⟨#[]⟩, .string ⟨#[]⟩, .slice none 0 0, .pointer none, .slice none 0 0, .map none, .bool false]), 9, 128) := by kernel_rfl
/-- append onto a row of the call's own, as one step of a region that draws its order; where the new row lies. -/
theorem step_append_own {P : Program} {ops : Array Oper} {o : Oper} {a : Act} {w : World} {K : Act → World → Prop} {Q : Exit → Act → World → Prop} {E : Prop}
    (hg : o.guard = none) (s x : Operand) (t : TypeId) (hop : o.op = Op.call { callee := Callee.builtin Builtin.append, args := #[s, x], argTypes := #[t, t] })
    (base : Nat) (e : TypeId) (i : TypeInfo) (z : Value) (size bytes : Nat) (h1 : P.underlying t = some (.slice e)) (h2 : P.info? e = some i) (h3 : i.zero = some z) (h4 : i.size = size) (h5 : i.bytes = bytes) (h6 : z.cells.size = size) (h7 : 0 < size)
    (v : Value) (n : Nat) (olds : List Value) (hs : a.eval s = v) (hown : w.ownsRow base e size v n olds)
    (ad : Addr) (m c : Nat) (news : List Value) (hx : a.eval x = .slice (some ad) m c) (hn : news.length = m * size) (hc : ∀ j u, news[j]? = some u → w.cell? (ad.add j) = some u) (h1c : ∀ u ∈ news, u.oneCell' = true)
    (b1 : n + m ≤ maxLen) (b2 : (n + m) * bytes ≤ 140737488355328) (hB : base ≤ w.heap.size) (hm0 : 0 < m)
    (hK : ∀ v' w', w'.ownsRow base e size v' (n + m) (olds ++ news) → w.grownBy w' v.ownBlock → (v'.ownBlock = v.ownBlock ∨ v'.ownBlock = some w.heap.size) → K (a.put o.dst v') w') :
    if Region.wanted o (yielded ops a.tmps) = true then Oper.wp P o a w K Q else E := by
  have hw : Region.wanted o (yielded ops a.tmps) = true := by simp [Region.wanted, hg]
  rw [if_pos hw]
  obtain ⟨v', w', hrun, r1, r2, r3⟩ := run_append_where (P := P) w base t o.type e i z size bytes h1 h2 h3 h4 h5 h6 h7 v n olds hown ad m c news hn hc h1c b1 b2 hB hm0
  unfold Oper.wp
  simp [execOp, hop, resolve, invoke, builtin, hs, hx, hrun, Result.andThen]
  exact hK v' w' r1 r2 r3
theorem own_form {w : World} {B : Nat} {e : TypeId} {size : Nat} {v : Value} {n : Nat} {xs : List Value} (h : w.ownsRow B e size v n xs) : ∃ A c, v = .slice A n c := by
  rcases h.2 with ⟨rfl, h0⟩ | ⟨g, cap, cur, rfl, _⟩
  · exact ⟨none, 0, by rw [h0]⟩
  · exact ⟨_, _, rfl⟩
theorem new8 (w : World) (t : TypeId) {x0 x1 x2 x3 x4 x5 x6 x7 : Value} : ∀ j u, ([x0, x1, x2, x3, x4, x5, x6, x7] : List Value)[j]? = some u → (w.alloc (.cells #[x0, x1, x2, x3, x4, x5, x6, x7] t)).cell? ((⟨w.heap.size, 0, none⟩ : Addr).add j) = some u := by
  intro j u hj
  rw [Addr.add_mid, Nat.zero_add]
  have := BoxAt.cell (BoxAt.new w #[x0, x1, x2, x3, x4, x5, x6, x7] t) j
  rw [this]
  simpa using hj
theorem row_at {w : World} {B : Nat} {e : TypeId} {g n cap : Nat} {ys new : List Value} (h : w.ownsRow B e 8 (.slice (some ⟨g, 0, none⟩) (n + 1) cap) (n + 1) (ys ++ new)) (hl : ys.length = n * 8) (j : Nat) (x : Value) (hj : new[j]? = some x) : w.cell? ⟨g, n * 8 + j, none⟩ = some x := by
  have hlt : j < new.length := by
    by_cases h : j < new.length
    · exact h
    · rw [List.getElem?_eq_none (by omega)] at hj; cases hj
  have h1 := h.1
  rw [List.length_append, hl] at h1
  rw [h.cellAt (n * 8 + j) (by omega), List.getElem?_append_right (by omega), hl, Nat.add_sub_cancel_left]
  exact hj
theorem own_some {w : World} {B : Nat} {e : TypeId} {size : Nat} {v : Value} {n : Nat} {xs : List Value} (h : w.ownsRow B e size v (n + 1) xs) : ∃ g cap, v = .slice (some ⟨g, 0, none⟩) (n + 1) cap := by
  rcases h.2 with ⟨rfl, h0⟩ | ⟨g, cap, cur, rfl, _⟩
  · omega
  · exact ⟨_, _, rfl⟩
theorem row_at0 {w : World} {B : Nat} {e : TypeId} {g n cap : Nat} {ys new : List Value} (h : w.ownsRow B e 8 (.slice (some ⟨g, 0, none⟩) (n + 1) cap) (n + 1) (ys ++ new)) (hl : ys.length = n * 8) (x : Value) (hj : new[0]? = some x) : w.cell? ⟨g, n * 8, none⟩ = some x := row_at h hl 0 x hj
theorem own_ne {v : Value} {g gA n c sz : Nat} (h : (Value.slice (some ⟨gA, 0, none⟩) n c).ownBlock = v.ownBlock ∨ (Value.slice (some ⟨gA, 0, none⟩) n c).ownBlock = some sz) (hne : some g ≠ v.ownBlock) (hg : g < sz) : ¬ g = gA := by
  intro e
  subst e
  rcases h with h | h
  · exact hne h
  · have := Option.some.inj h
    simp at this
    omega
theorem own_ne' {v : Value} {g gA n c sz : Nat} (h : (Value.slice (some ⟨gA, 0, none⟩) n c).ownBlock = v.ownBlock ∨ (Value.slice (some ⟨gA, 0, none⟩) n c).ownBlock = some sz) (hne : some g ≠ v.ownBlock) (hg : g < sz) : ¬ gA = g := fun e => own_ne h hne hg e.symm
/-- What add does, if it adds: the call's own cells, row and names change, and nothing else that was there. -/
structure Added (B g o : Nat) (cs : Array Value) (al nv : Value) (n : Nat) (ys : List Value) (seen' : List ByteArray) (new : List Value) (w w' : World) : Prop where
  below : Below B w w'
  ex : ∃ al' nv', w'.heap[g]? = some (.cells (((cs.setIfInBounds (o + 7) nv').setIfInBounds (o + 4) al').setIfInBounds (o + 8) (.bool true)) 116 (0, 0)) ∧ w'.ownsRow B 58 8 al' (n + 1) (ys ++ new) ∧ NmOk B w' nv' seen' (n + 1) ∧
    (al'.ownBlock = al.ownBlock ∨ ∃ b, al'.ownBlock = some b ∧ w.heap.size ≤ b) ∧ (nv' = nv ∨ ∃ b, nv' = .map (some b) ∧ w.heap.size ≤ b)
  kept : ∀ k, k < w.heap.size → k ≠ g → al.ownBlock ≠ some k → nv ≠ .map (some k) → w'.heap[k]? = w.heap[k]?
abbrev set8o (w : World) (b o : Nat) (x0 x1 x2 x3 x4 x5 x6 x7 : Value) : World :=
  (((((((w.setCell ⟨b, o, none⟩ x0).setCell ⟨b, o + 1, none⟩ x1).setCell ⟨b, o + 2, none⟩ x2).setCell ⟨b, o + 3, none⟩ x3).setCell ⟨b, o + 4, none⟩ x4).setCell ⟨b, o + 5, none⟩ x5).setCell ⟨b, o + 6, none⟩ x6).setCell ⟨b, o + 7, none⟩ x7
theorem set8o_heap (w : World) (b o : Nat) (x0 x1 x2 x3 x4 x5 x6 x7 : Value) (k : Nat) (hk : k ≠ b) : (set8o w b o x0 x1 x2 x3 x4 x5 x6 x7).heap[k]? = w.heap[k]? := by
  unfold set8o
  iterate 8 rw [Below.heap_setCell _ _ _ k hk]
theorem set8o_size (w : World) (b o : Nat) (x0 x1 x2 x3 x4 x5 x6 x7 : Value) : (set8o w b o x0 x1 x2 x3 x4 x5 x6 x7).heap.size = w.heap.size := by
  unfold set8o; simp
theorem below_set8o {B : Nat} {a w : World} (h : Below B a w) {b : Nat} (hb : B ≤ b) (o : Nat) (x0 x1 x2 x3 x4 x5 x6 x7 : Value) : Below B a (set8o w b o x0 x1 x2 x3 x4 x5 x6 x7) :=
  (((((((h.setCell (p := ⟨b, o, none⟩) hb x0).setCell (p := ⟨b, o + 1, none⟩) hb x1).setCell (p := ⟨b, o + 2, none⟩) hb x2).setCell (p := ⟨b, o + 3, none⟩) hb x3).setCell (p := ⟨b, o + 4, none⟩) hb x4).setCell (p := ⟨b, o + 5, none⟩) hb x5).setCell (p := ⟨b, o + 6, none⟩) hb x6).setCell (p := ⟨b, o + 7, none⟩) hb x7
theorem row_set8 {w : World} {B : Nat} {e : TypeId} {g n cap : Nat} {ys : List Value} {z0 z1 z2 z3 z4 z5 z6 z7 : Value} (h : w.ownsRow B e 8 (.slice (some ⟨g, 0, none⟩) (n + 1) cap) (n + 1) (ys ++ [z0, z1, z2, z3, z4, z5, z6, z7])) (hl : ys.length = n * 8) (x0 x1 x2 x3 x4 x5 x6 x7 : Value) :
    (set8o w g (n * 8) x0 x1 x2 x3 x4 x5 x6 x7).ownsRow B e 8 (.slice (some ⟨g, 0, none⟩) (n + 1) cap) (n + 1) (ys ++ [x0, x1, x2, x3, x4, x5, x6, x7]) := by
  have e : ∀ (zs : List Value) (j : Nat) (u : Value), (ys ++ zs).set (n * 8 + j) u = ys ++ zs.set j u := fun zs j u => by
    rw [List.set_append_right _ _ (by omega), hl, Nat.add_sub_cancel_left]
  have e0 : ∀ (zs : List Value) (u : Value), (ys ++ zs).set (n * 8) u = ys ++ zs.set 0 u := fun zs u => e zs 0 u
  have h0 := (h.stored (n * 8) x0).1
  rw [e0] at h0
  have h1 := (h0.stored (n * 8 + 1) x1).1
  rw [e] at h1
  have h2 := (h1.stored (n * 8 + 2) x2).1
  rw [e] at h2
  have h3 := (h2.stored (n * 8 + 3) x3).1
  rw [e] at h3
  have h4 := (h3.stored (n * 8 + 4) x4).1
  rw [e] at h4
  have h5 := (h4.stored (n * 8 + 5) x5).1
  rw [e] at h5
  have h6 := (h5.stored (n * 8 + 6) x6).1
  rw [e] at h6
  have h7 := (h6.stored (n * 8 + 7) x7).1
  rw [e] at h7
  exact h7
/-- What the append in add does. -/
structure AddMid (B g o : Nat) (cs : Array Value) (al : Value) (n : Nat) (ys : List Value) (new : List Value) (w w' : World) : Prop where
  below : Below B w w'
  ex : ∃ al', w'.heap[g]? = some (.cells (cs.setIfInBounds (o + 4) al') 116 (0, 0)) ∧ w'.ownsRow B 58 8 al' (n + 1) (ys ++ new) ∧ (al'.ownBlock = al.ownBlock ∨ ∃ b, al'.ownBlock = some b ∧ w.heap.size ≤ b)
  kept : ∀ k, k < w.heap.size → k ≠ g → al.ownBlock ≠ some k → w'.heap[k]? = w.heap[k]?
section
variable {B g o n gA cA : Nat} {cs : Array Value} {Al : Option Addr} {cl : Nat} {ys : List Value} {w1 X w' : World} {z0 z1 z2 z3 z4 z5 z6 z7 x0 x1 x2 x3 x4 x5 x6 x7 : Value}
theorem mid_pre (hB : B ≤ w1.heap.size) (hX : Below w1.heap.size w1 X) (hg : w1.heap[g]? = some (.cells cs 116 (0, 0))) (hal : w1.ownsRow B 58 8 (.slice Al n cl) n ys) (hne : some g ≠ (Value.slice Al n cl).ownBlock)
    (hgrow : X.grownBy w' (Value.slice Al n cl).ownBlock) : Below B w1 w' ∧ w'.heap[g]? = some (.cells cs 116 (0, 0)) ∧ ∀ k, k < w1.heap.size → (Value.slice Al n cl).ownBlock ≠ some k → w'.heap[k]? = w1.heap[k]? := by
  have hk : ∀ k, k < w1.heap.size → (Value.slice Al n cl).ownBlock ≠ some k → w'.heap[k]? = w1.heap[k]? := fun k hk hn => (hgrow.block k (Nat.lt_of_lt_of_le hk hX.size) (fun e => hn e.symm)).trans (hX.block k hk)
  have hgl := (Array.getElem?_eq_some_iff.1 hg).1
  refine ⟨(hX.mono hB).grown hgrow (Nat.le_trans hB hX.size) (fun k e => (hal.lt k e).1), ?_, hk⟩
  rw [hk g hgl (fun e => hne e.symm)]
  exact hg
theorem mid_a (hB : B ≤ w1.heap.size) (hX : Below w1.heap.size w1 X) (hXs : X.heap.size = w1.heap.size + 1) (hg : w1.heap[g]? = some (.cells cs 116 (0, 0))) (hBg : B ≤ g) (hal : w1.ownsRow B 58 8 (.slice Al n cl) n ys) (hne : some g ≠ (Value.slice Al n cl).ownBlock)
    (hgrow : X.grownBy w' (Value.slice Al n cl).ownBlock) (hown : w'.ownsRow B 58 8 (.slice (some ⟨gA, 0, none⟩) (n + 1) cA) (n + 1) (ys ++ [z0, z1, z2, z3, z4, z5, z6, z7]))
    (hwh : (Value.slice (some ⟨gA, 0, none⟩) (n + 1) cA).ownBlock = (Value.slice Al n cl).ownBlock ∨ (Value.slice (some ⟨gA, 0, none⟩) (n + 1) cA).ownBlock = some X.heap.size) (hga : ¬ g = gA) :
    AddMid B g o cs (.slice Al n cl) n ys [x0, x1, x2, x3, x4, x5, x6, x7] w1 ((set8o w' gA (n * 8) x0 x1 x2 x3 x4 x5 x6 x7).setCell ⟨g, o + 4, none⟩ (.slice (some ⟨gA, 0, none⟩) (n + 1) cA)) := by
  obtain ⟨h1, h2, h3⟩ := mid_pre hB hX hg hal hne hgrow
  have hgB : B ≤ gA := (hown.lt gA rfl).1
  refine ⟨(below_set8o h1 hgB _ _ _ _ _ _ _ _ _).setCell (p := ⟨g, o + 4, none⟩) hBg _, ⟨.slice (some ⟨gA, 0, none⟩) (n + 1) cA, ?_, ?_, hwh.imp id (fun h => ⟨_, h, hX.size⟩)⟩, fun k hk hkg hka => ?_⟩
  · refine heap_setCell_same _ g (o + 4) cs _ _ ?_
    rw [set8o_heap _ _ _ _ _ _ _ _ _ _ _ g hga, h2]
  · refine ownsRow_setCell_other (row_set8 hown hal.1 _ _ _ _ _ _ _ _) (a := ⟨g, o + 4, none⟩) (fun e => hga (by simpa [Value.ownBlock] using e.symm)) _
  · rw [Below.heap_setCell _ _ _ k hkg, set8o_heap _ _ _ _ _ _ _ _ _ _ _ k ?_]
    · exact h3 k hk hka
    · rintro rfl
      rcases hwh with h | h
      · exact hka h.symm
      · have := Option.some.inj h; simp at this; omega
theorem mid_b (hB : B ≤ w1.heap.size) (hX : Below w1.heap.size w1 X) (hXs : X.heap.size = w1.heap.size + 1) (hg : w1.heap[g]? = some (.cells cs 116 (0, 0))) (hBg : B ≤ g) (hal : w1.ownsRow B 58 8 (.slice Al n cl) n ys) (hne : some g ≠ (Value.slice Al n cl).ownBlock)
    (hgrow : X.grownBy w' (Value.slice Al n cl).ownBlock) (hown : w'.ownsRow B 58 8 (.slice (some ⟨gA, 0, none⟩) (n + 1) cA) (n + 1) (ys ++ [z0, z1, z2, z3, z4, z5, z6, z7]))
    (hwh : (Value.slice (some ⟨gA, 0, none⟩) (n + 1) cA).ownBlock = (Value.slice Al n cl).ownBlock ∨ (Value.slice (some ⟨gA, 0, none⟩) (n + 1) cA).ownBlock = some X.heap.size) (hga : ¬ g = gA) :
    AddMid B g o cs (.slice Al n cl) n ys [x0, x1, x2, x3, x4, x5, x6, x7] w1 (set8o (w'.setCell ⟨g, o + 4, none⟩ (.slice (some ⟨gA, 0, none⟩) (n + 1) cA)) gA (n * 8) x0 x1 x2 x3 x4 x5 x6 x7) := by
  obtain ⟨h1, h2, h3⟩ := mid_pre hB hX hg hal hne hgrow
  have hgB : B ≤ gA := (hown.lt gA rfl).1
  refine ⟨below_set8o (h1.setCell (p := ⟨g, o + 4, none⟩) hBg _) hgB _ _ _ _ _ _ _ _ _, ⟨.slice (some ⟨gA, 0, none⟩) (n + 1) cA, ?_, ?_, hwh.imp id (fun h => ⟨_, h, hX.size⟩)⟩, fun k hk hkg hka => ?_⟩
  · rw [set8o_heap _ _ _ _ _ _ _ _ _ _ _ g hga]
    exact heap_setCell_same _ g (o + 4) cs _ _ h2
  · exact row_set8 (ownsRow_setCell_other hown (a := ⟨g, o + 4, none⟩) (fun e => hga (by simpa [Value.ownBlock] using e.symm)) _) hal.1 _ _ _ _ _ _ _ _
  · rw [set8o_heap _ _ _ _ _ _ _ _ _ _ _ k ?_, Below.heap_setCell _ _ _ k hkg]
    · exact h3 k hk hka
    · rintro rfl
      rcases hwh with h | h
      · exact hka h.symm
      · have := Option.some.inj h; simp at this; omega
end
theorem NmOk.kept {B n : Nat} {W W' : World} {v : Value} {seen : List ByteArray} (h : NmOk B W v seen n) (g : ∀ b, v = .map (some b) → W'.heap[b]? = W.heap[b]?) : NmOk B W' v seen n := by
  rcases h with h | ⟨b, rfl, hb, h0, D, ⟨es, clock, h1, h2⟩, h3⟩
  · exact .inl h
  · exact .inr ⟨b, rfl, hb, h0, D, ⟨es, clock, (g b rfl).trans h1, h2⟩, h3⟩
theorem NmOk.map {B n : Nat} {W : World} {b : Nat} {seen : List ByteArray} (h : NmOk B W (.map (some b)) seen n) : ∃ es c, W.heap[b]? = some (.map es c) := by
  rcases h with ⟨h, _⟩ | ⟨b', h, hb, h0, D, ⟨es, clock, h1, h2⟩, h3⟩
  · cases h
  · cases h; exact ⟨es, clock, h1⟩
theorem NmOk.mono {B n m : Nat} {W : World} {v : Value} {seen : List ByteArray} (h : NmOk B W v seen n) (hm : n ≤ m) : NmOk B W v seen m := by
  rcases h with h | ⟨b, rfl, hb, h0, hN⟩
  · exact .inl h
  · exact .inr ⟨b, rfl, hb, h0, hN.mono hm⟩
theorem set_same {cs : Array Value} {i : Nat} {v : Value} (h : cs[i]? = some v) : cs.setIfInBounds i v = cs := by
  apply Array.ext_getElem?
  intro j
  rw [Array.getElem?_setIfInBounds]
  split
  · next e => subst e; rw [h]; simp [(Array.getElem?_eq_some_iff.1 h).1]
  · rfl
theorem own_cells {w : World} {B : Nat} {e : TypeId} {size : Nat} {v : Value} {n : Nat} {xs : List Value} (h : w.ownsRow B e size v n xs) {b : Nat} (hb : v.ownBlock = some b) : ∃ cs t fz, w.heap[b]? = some (.cells cs t fz) := by
  obtain ⟨c, fz, hh⟩ := Lib.ownsRow_kind h b hb
  exact ⟨_, _, _, hh⟩
theorem row_blocks {w w' : World} {B : Nat} {e : TypeId} {size : Nat} {v : Value} {n : Nat} {xs : List Value} (h : w.ownsRow B e size v n xs) (g : ∀ b, v.ownBlock = some b → w'.heap[b]? = w.heap[b]?) : w'.ownsRow B e size v n xs := by
  refine ⟨h.1, ?_⟩
  rcases h.2 with h0 | ⟨gb, cap, cur, rfl, hb, hg, r⟩
  · exact .inl h0
  · exact .inr ⟨gb, cap, cur, rfl, hb, (g gb rfl).trans hg, r⟩
theorem BoxAt.kept_cell {w : World} {k : Nat} {cs : Array Value} {t : TypeId} (h : BoxAt w k cs t) {b : Nat} (hb : k ≠ b) (o : Nat) (v : Value) : BoxAt (w.setCell ⟨b, o, none⟩ v) k cs t := (Below.heap_setCell _ _ _ k hb).trans h
theorem added_end {B g o n : Nat} {cs : Array Value} {al nv nv' : Value} {ys new : List Value} {seen : List ByteArray} {w w1 wc : World} (h1 : Below B w w1) (hk : ∀ k, k < w.heap.size → k ≠ g → nv ≠ .map (some k) → w1.heap[k]? = w.heap[k]?)
    (hg : w1.heap[g]? = some (.cells (cs.setIfInBounds (o + 7) nv') 116 (0, 0))) (hBg : B ≤ g) (hal : w1.ownsRow B 58 8 al n ys) (hnm : NmOk B w1 nv' seen (n + 1)) (hnv : nv' = nv ∨ ∃ b, nv' = .map (some b) ∧ w.heap.size ≤ b)
    (hm : AddMid B g o (cs.setIfInBounds (o + 7) nv') al n ys new w1 wc) : Below B w (wc.setCell ⟨g, o + 8, none⟩ (.bool true)) ∧ Added B g o cs al nv n ys seen new w (wc.setCell ⟨g, o + 8, none⟩ (.bool true)) := by
  obtain ⟨hm1, ⟨al', hm2, hm3, hm4⟩, hm5⟩ := hm
  have hgl := (Array.getElem?_eq_some_iff.1 hg).1
  have hb := (h1.trans hm1).setCell (p := ⟨g, o + 8, none⟩) hBg (.bool true)
  have hgB : ∀ b, al'.ownBlock = some b → b ≠ g := fun b hab e => by
    subst e
    obtain ⟨c, fz, hh⟩ := Lib.ownsRow_kind hm3 b hab
    rw [hm2] at hh
    simp at hh
  refine ⟨hb, hb, ⟨al', nv', heap_setCell_same wc g (o + 8) _ _ _ hm2, ownsRow_setCell_other hm3 (a := ⟨g, o + 8, none⟩) (fun e => hgB _ e rfl) _, hnm.kept fun b e => ?_, ?_, hnv⟩, fun k hk1 hk2 hk3 hk4 => ?_⟩
  · subst e
    obtain ⟨es, c, hmap⟩ := hnm.map
    have hne : b ≠ g := by rintro rfl; rw [hmap] at hg; cases hg
    rw [Below.heap_setCell _ _ _ b hne]
    refine hm5 b (Array.getElem?_eq_some_iff.1 hmap).1 hne fun e => ?_
    obtain ⟨c1, t1, fz, hh⟩ := own_cells hal e
    rw [hmap] at hh; cases hh
  · rcases hm4 with h | ⟨b, h, hb⟩
    · exact .inl h
    · exact .inr ⟨b, h, Nat.le_trans h1.size hb⟩
  · rw [Below.heap_setCell _ _ _ k hk2, hm5 k (Nat.lt_of_lt_of_le hk1 h1.size) hk2 hk3, hk k hk1 hk2 hk4]
end Go.Proofs.YtnogdojdjehakaaGreatDoor

/-
  Package expr: the calls whose arguments are being read, in memory.
-/
namespace Go.Proofs.YtnogdojdjehakaaGreatDoor
open Go.RowKit Go.Maps
set_option linter.unusedVariables false
set_option linter.unusedSimpArgs false

def exArgs : EX → List AR | .mk _ _ _ _ al _ _ => al
/-- A call whose arguments are being read: its nine cells, and the blocks that it alone has. -/
def FrAt (B : Nat) (W : World) (F : Nat → Prop) (f : Fr) (c : C7) (nv : Value) (bs : List Nat) : Prop :=
  ExF W F f.e ⟨c.k, c.t, c.n, c.a, .slice none 0 0, c.i, c.vs⟩ ∧ exArgs f.e = [] ∧ (f.xs = [] → c.al = .slice none 0 0) ∧ OwnA B W F c.al f.xs ∧ NmOk B W nv (seenOf f.xs) f.xs.length ∧ bs = c.al.ownBlock.toList ++ (mapBlockOf nv).toList
def FrsZ (B : Nat) (W : World) (F : Nat → Prop) : List Fr → List Value → List Nat → Prop
  | [], xs, bs => xs = [] ∧ bs = []
  | f :: r, xs, bs => ∃ c nv ys b1 bs', xs = c.k :: c.t :: c.n :: c.a :: c.al :: c.i :: c.vs :: nv :: .bool f.want :: ys ∧ bs = b1 ++ bs' ∧ FrAt B W F f c nv b1 ∧ FrsZ B W F r ys bs'
theorem OwnA.carry {B : Nat} {W W' : World} {F F' : Nat → Prop} {v : Value} {acc : List AR} (h : OwnA B W F v acc) (hb : ∀ b, v.ownBlock = some b → W'.heap[b]? = W.heap[b]?) (g : ∀ b, F b → F' b ∧ W'.heap[b]? = W.heap[b]?) : OwnA B W' F' v acc := by
  obtain ⟨xs, h1, h2⟩ := h
  exact ⟨xs, row_blocks h1 hb, h2.carry g⟩
theorem FrAt.carry {B : Nat} {W W' : World} {F F' : Nat → Prop} {f : Fr} {c : C7} {nv : Value} {bs : List Nat} (h : FrAt B W F f c nv bs) (hb : ∀ b ∈ bs, W'.heap[b]? = W.heap[b]?) (g : ∀ b, F b → F' b ∧ W'.heap[b]? = W.heap[b]?) : FrAt B W' F' f c nv bs := by
  obtain ⟨h1, h2, h3, h4, h5, rfl⟩ := h
  refine ⟨ExF.carry g _ _ h1, h2, h3, h4.carry (fun b e => hb b (by simp [e])) g, h5.kept (fun b e => hb b (by subst e; simp [mapBlockOf])), rfl⟩
theorem FrsZ.carry {B : Nat} {W W' : World} {F F' : Nat → Prop} (g : ∀ b, F b → F' b ∧ W'.heap[b]? = W.heap[b]?) : ∀ (fs : List Fr) (xs : List Value) (bs : List Nat), FrsZ B W F fs xs bs → (∀ b ∈ bs, W'.heap[b]? = W.heap[b]?) → FrsZ B W' F' fs xs bs
  | [], xs, bs, h, _ => by rw [FrsZ] at h ⊢; exact h
  | f :: r, xs, bs, h, hb => by
    rw [FrsZ] at h
    obtain ⟨c, nv, ys, b1, bs', rfl, rfl, h1, h2⟩ := h
    rw [FrsZ]
    exact ⟨c, nv, ys, b1, bs', rfl, rfl, h1.carry (fun b e => hb b (List.mem_append_left _ e)) g, FrsZ.carry g r ys bs' h2 (fun b e => hb b (List.mem_append_right _ e))⟩
theorem FrsZ.length {B : Nat} {W : World} {F : Nat → Prop} : ∀ (fs : List Fr) (xs : List Value) (bs : List Nat), FrsZ B W F fs xs bs → xs.length = fs.length * 9
  | [], xs, bs, h => by rw [FrsZ] at h; rw [h.1]; rfl
  | f :: r, xs, bs, h => by
    rw [FrsZ] at h
    obtain ⟨c, nv, ys, b1, bs', rfl, rfl, h1, h2⟩ := h
    have := FrsZ.length r ys bs' h2
    simp only [List.length_cons, this]
    omega
theorem FrsZ.split {B : Nat} {W : World} {F : Nat → Prop} : ∀ (fs gs : List Fr) (xs : List Value) (bs : List Nat), FrsZ B W F (fs ++ gs) xs bs → ∃ x1 x2 b1 b2, xs = x1 ++ x2 ∧ bs = b1 ++ b2 ∧ FrsZ B W F fs x1 b1 ∧ FrsZ B W F gs x2 b2
  | [], gs, xs, bs, h => ⟨[], xs, [], bs, rfl, rfl, ⟨rfl, rfl⟩, h⟩
  | f :: r, gs, xs, bs, h => by
    rw [List.cons_append, FrsZ] at h
    obtain ⟨c, nv, ys, b1, bs', rfl, rfl, h1, h2⟩ := h
    obtain ⟨x1, x2, d1, d2, rfl, rfl, h3, h4⟩ := FrsZ.split r gs ys bs' h2
    refine ⟨c.k :: c.t :: c.n :: c.a :: c.al :: c.i :: c.vs :: nv :: .bool f.want :: x1, x2, b1 ++ d1, d2, by simp, by simp, ?_, h4⟩
    rw [FrsZ]
    exact ⟨c, nv, x1, b1, d1, rfl, rfl, h1, h3⟩
theorem FrsZ.join {B : Nat} {W : World} {F : Nat → Prop} {gs : List Fr} {x2 : List Value} {b2 : List Nat} (h2 : FrsZ B W F gs x2 b2) : ∀ (fs : List Fr) (x1 : List Value) (b1 : List Nat), FrsZ B W F fs x1 b1 → FrsZ B W F (fs ++ gs) (x1 ++ x2) (b1 ++ b2)
  | [], x1, b1, h => by rw [FrsZ] at h; obtain ⟨rfl, rfl⟩ := h; exact h2
  | f :: r, xs, bs, h => by
    rw [FrsZ] at h
    obtain ⟨c, nv, ys, b1, bs', rfl, rfl, h1, h3⟩ := h
    rw [List.cons_append, FrsZ]
    exact ⟨c, nv, ys ++ x2, b1, bs' ++ b2, by simp, by simp, h1, FrsZ.join h2 r ys bs' h3⟩
/-- The blocks in which what is read lies: those that were made since, and that no call may still write. -/
def FS (B : Nat) (W : World) (g : Nat) (b1 b2 : List Nat) : Nat → Prop := fun b => B ≤ b ∧ b < W.heap.size ∧ b ∉ g :: (b1 ++ b2)
/-- The calls whose arguments are being read, the last one the innermost: their row, and what each one has. -/
structure StP (B : Nat) (W : World) (g cap : Nat) (cs : Array Value) (x1 ys : List Value) (c : C7) (nv : Value) (b1 b2 : List Nat) (fs : List Fr) (top : Fr) : Prop where
  hg : W.heap[g]? = some (.cells cs 116 (0, 0))
  hB : B ≤ g
  hc1 : fs.length + 1 ≤ cap
  hc2 : cap ≤ maxLen
  hcs : cs.size = cap * 9
  hx : x1.length = fs.length * 9
  htk : cs.toList.take ((fs.length + 1) * 9) = x1 ++ [c.k, c.t, c.n, c.a, c.al, c.i, c.vs, nv, .bool top.want]
  low : FrsZ B W (FS B W g b1 b2) fs x1 b1
  hd : ExF W (FS B W g b1 b2) top.e ⟨c.k, c.t, c.n, c.a, .slice none 0 0, c.i, c.vs⟩
  ha : exArgs top.e = []
  h0 : top.xs = [] → c.al = .slice none 0 0
  hal : W.ownsRow B 58 8 c.al top.xs.length ys
  hz : AZip W (FS B W g b1 b2) top.xs ys
  hnm : NmOk B W nv (seenOf top.xs) top.xs.length
  hb2 : b2 = c.al.ownBlock.toList ++ (mapBlockOf nv).toList
  nodup : (g :: (b1 ++ b2)).Nodup
  own : ∀ b ∈ b1 ++ b2, B ≤ b ∧ b < W.heap.size
def StAt (B : Nat) (W : World) (v : Value) (fs : List Fr) (top : Fr) : Prop := ∃ g cap cs x1 ys c nv b1 b2, v = .slice (some ⟨g, 0, none⟩) (fs.length + 1) cap ∧ StP B W g cap cs x1 ys c nv b1 b2 fs top
section
variable {B g cap rb : Nat} {W W' : World} {cs : Array Value} {x1 ys : List Value} {c : C7} {nv v : Value} {b1 b2 : List Nat} {fs : List Fr} {top : Fr}
theorem StP.lt (h : StP B W g cap cs x1 ys c nv b1 b2 fs top) : g < W.heap.size := (Array.getElem?_eq_some_iff.1 h.hg).1
theorem StP.al_mem (h : StP B W g cap cs x1 ys c nv b1 b2 fs top) {b : Nat} (e : c.al.ownBlock = some b) : b ∈ b2 := by rw [h.hb2, e]; simp
theorem StP.nm_mem (h : StP B W g cap cs x1 ys c nv b1 b2 fs top) {b : Nat} (e : nv = .map (some b)) : b ∈ b2 := by rw [h.hb2, e]; simp [mapBlockOf]
theorem StP.cell (h : StP B W g cap cs x1 ys c nv b1 b2 fs top) (j : Nat) (u : Value) (hj : [c.k, c.t, c.n, c.a, c.al, c.i, c.vs, nv, .bool top.want][j]? = some u) : cs[fs.length * 9 + j]? = some u := by
  have hlt : j < 9 := by
    by_cases h : j < 9
    · exact h
    · rw [List.getElem?_eq_none (by simp; omega)] at hj; cases hj
  have e : (cs.toList.take ((fs.length + 1) * 9))[fs.length * 9 + j]? = some u := by
    rw [h.htk, List.getElem?_append_right (by rw [h.hx]; omega), h.hx, Nat.add_sub_cancel_left]
    exact hj
  rw [List.getElem?_take, if_pos (by omega)] at e
  simpa using e
theorem StP.kept (h : StP B W g cap cs x1 ys c nv b1 b2 fs top) (hs : W.heap.size ≤ W'.heap.size) (hk : ∀ b, B ≤ b → b < W.heap.size → W'.heap[b]? = W.heap[b]?) : StP B W' g cap cs x1 ys c nv b1 b2 fs top := by
  have g1 : ∀ b, FS B W g b1 b2 b → FS B W' g b1 b2 b ∧ W'.heap[b]? = W.heap[b]? := fun b hb => ⟨⟨hb.1, Nat.lt_of_lt_of_le hb.2.1 hs, hb.2.2⟩, hk b hb.1 hb.2.1⟩
  have g2 : ∀ b ∈ b1 ++ b2, W'.heap[b]? = W.heap[b]? := fun b hb => hk b (h.own b hb).1 (h.own b hb).2
  exact { h with
    hg := (hk g h.hB h.lt).trans h.hg
    low := FrsZ.carry g1 _ _ _ h.low (fun b hb => g2 b (List.mem_append_left _ hb))
    hd := ExF.carry g1 _ _ h.hd
    hal := row_blocks h.hal fun b e => g2 b (List.mem_append_right _ (h.al_mem e))
    hz := h.hz.carry g1
    hnm := h.hnm.kept fun b e => g2 b (List.mem_append_right _ (h.nm_mem e))
    own := fun b hb => ⟨(h.own b hb).1, Nat.lt_of_lt_of_le (h.own b hb).2 hs⟩ }
theorem StAt.kp (h : StAt B W v fs top) (g : Kp rb W W') (hrb : rb < B) : StAt B W' v fs top := by
  obtain ⟨g0, cap, cs, x1, ys, c, nv, b1, b2, e, h⟩ := h
  exact ⟨g0, cap, cs, x1, ys, c, nv, b1, b2, e, h.kept g.size (fun b h1 h2 => g.others b h2 (by omega))⟩
/-- The comma is wanted no more. -/
theorem StP.wantSet (h : StP B W g cap cs x1 ys c nv b1 b2 fs top) (q : Bool) : StP B (W.setCell ⟨g, fs.length * 9 + 8, none⟩ (.bool q)) g cap (cs.setIfInBounds (fs.length * 9 + 8) (.bool q)) x1 ys c nv b1 b2 fs ⟨top.e, top.xs, q⟩ := by
  have hk : ∀ b, b ≠ g → (W.setCell ⟨g, fs.length * 9 + 8, none⟩ (.bool q)).heap[b]? = W.heap[b]? := fun b hb => Below.heap_setCell _ _ _ b hb
  have hs : (W.setCell ⟨g, fs.length * 9 + 8, none⟩ (.bool q)).heap.size = W.heap.size := World.size_setCell _ _ _
  have hng : ∀ b ∈ b1 ++ b2, b ≠ g := fun b hb e => (List.nodup_cons.1 h.nodup).1 (e ▸ hb)
  have g1 : ∀ b, FS B W g b1 b2 b → FS B (W.setCell ⟨g, fs.length * 9 + 8, none⟩ (.bool q)) g b1 b2 b ∧ (W.setCell ⟨g, fs.length * 9 + 8, none⟩ (.bool q)).heap[b]? = W.heap[b]? := fun b hb => ⟨⟨hb.1, by rw [hs]; exact hb.2.1, hb.2.2⟩, hk b (fun e => hb.2.2 (by rw [e]; exact List.mem_cons_self))⟩
  exact { hB := h.hB, hc1 := h.hc1, hc2 := h.hc2, hx := h.hx, ha := h.ha, hb2 := h.hb2, nodup := h.nodup, h0 := h.h0
          hg := heap_setCell_same W g _ cs _ _ h.hg
          hcs := by rw [Array.size_setIfInBounds]; exact h.hcs
          htk := by
            have e : cs.toList.take ((fs.length + 1) * 9) = x1 ++ [c.k, c.t, c.n, c.a, c.al, c.i, c.vs, nv, .bool top.want] := h.htk
            rw [Array.toList_setIfInBounds, List.take_set, e, List.set_append_right _ _ (by rw [h.hx]; omega), h.hx, Nat.add_sub_cancel_left]
            rfl
          low := FrsZ.carry g1 _ _ _ h.low (fun b hb => hk b (hng b (List.mem_append_left _ hb)))
          hd := ExF.carry g1 _ _ h.hd
          hal := row_blocks h.hal fun b e => hk b (hng b (List.mem_append_right _ (h.al_mem e)))
          hz := h.hz.carry g1
          hnm := h.hnm.kept fun b e => hk b (hng b (List.mem_append_right _ (h.nm_mem e)))
          own := fun b hb => by rw [hs]; exact h.own b hb }
/-- The innermost call, read to its end: its expression. -/
theorem StP.whole (h : StP B W g cap cs x1 ys c nv b1 b2 fs top) {F : Nat → Prop} (hF : ∀ b, FS B W g b1 b2 b → F b) (hal : ∀ b, c.al.ownBlock = some b → F b) : ExF W F (withArgs top.e top.xs) c := by
  have hd := ExF.carry (F' := F) (fun b hb => ⟨hF b hb, rfl⟩) _ _ h.hd
  have hz := h.hz.carry (F' := F) (fun b hb => ⟨hF b hb, rfl⟩)
  have ho := h.hal
  obtain ⟨k, t, n, a, al, i, vs⟩ := c
  cases hte : top.e with
  | mk k' t' n' a' al' i' vs' =>
    rw [hte] at hd
    rw [ExF] at hd
    rw [withArgs, ExF]
    obtain ⟨e1, e2, e3, e4, _, e6, e7⟩ := hd
    refine ⟨e1, e2, e3, e4, ?_, e6, e7⟩
    rcases ho.2 with ⟨rfl, h0⟩ | ⟨g', cap', cur, rfl, hb, hg, hc1, hc2, hcs', htk⟩
    · have : top.xs = [] := List.eq_nil_of_length_eq_zero h0
      rw [this]
      exact LieN.nil _
    · refine ⟨⟨some ⟨g', 0, none⟩, cap', rfl, hc1, hc2, fun _ => ⟨g', 0, rfl, AZip.as (hal g' rfl) _ _ 0 (fun j x hx => ?_) hz⟩⟩, fun h0 => ?_⟩
      · have := ho.cells (g := g') rfl j x hx
        rw [Addr.add_mid] at this
        exact this
      · have := h.h0 (List.eq_nil_of_length_eq_zero h0)
        cases this
end
end Go.Proofs.YtnogdojdjehakaaGreatDoor

/-
  Package expr: the calls whose arguments are being read: one more argument, one call ends, one more begins.
-/
namespace Go.Proofs.YtnogdojdjehakaaGreatDoor
open Go.RowKit Go.Maps
set_option linter.unusedVariables false
set_option linter.unusedSimpArgs false

section
variable {B g cap rb : Nat} {W W' : World} {cs : Array Value} {x1 ys : List Value} {c : C7} {nv v : Value} {b1 b2 : List Nat} {fs : List Fr} {top : Fr}
theorem own_sub (al nv : Value) (b : Nat) : b ∈ al.ownBlock.toList ++ (mapBlockOf nv).toList ↔ al.ownBlock = some b ∨ nv = .map (some b) := by
  rw [List.mem_append, Option.mem_toList, Option.mem_toList]
  constructor
  · rintro (h | h)
    · exact .inl h
    · right
      cases nv <;> simp [mapBlockOf] at h
      subst h
      rfl
  · rintro (h | h)
    · exact .inl h
    · right; subst h; rfl
theorem StP.added (h : StP B W g cap cs x1 ys c nv b1 b2 fs top) {X : ByteArray} {y : EX} {cy : C7} (hy : ExF W (FS B W g b1 b2) y cy)
    (A : Added B g (fs.length * 9) cs c.al nv top.xs.length ys (seenOf (top.xs ++ [.mk X y])) [.string X, cy.k, cy.t, cy.n, cy.a, cy.al, cy.i, cy.vs] W W') :
    StAt B W' (.slice (some ⟨g, 0, none⟩) (fs.length + 1) cap) fs ⟨top.e, top.xs ++ [.mk X y], true⟩ := by
  obtain ⟨hb, ⟨al', nv', hg', ho', hn', hal', hnv'⟩, hk⟩ := A
  have hnd := List.nodup_cons.1 h.nodup
  have hnd2 := List.nodup_append.1 hnd.2
  have hs := hb.size
  have hng : ∀ b ∈ b1 ++ b2, b ≠ g := fun b hb e => hnd.1 (e ▸ hb)
  have hal1 : ∀ b, al'.ownBlock = some b → b ∈ b2 ∨ W.heap.size ≤ b := fun b e => by
    rcases hal' with h1 | ⟨b', h1, h2⟩
    · exact .inl (h.al_mem (h1 ▸ e))
    · right; rw [e] at h1; cases h1; exact h2
  have hnv1 : ∀ b, nv' = .map (some b) → b ∈ b2 ∨ W.heap.size ≤ b := fun b e => by
    rcases hnv' with h1 | ⟨b', h1, h2⟩
    · exact .inl (h.nm_mem (h1 ▸ e))
    · right; rw [e] at h1; cases h1; exact h2
  have hnew : ∀ b ∈ al'.ownBlock.toList ++ (mapBlockOf nv').toList, b ∈ b2 ∨ W.heap.size ≤ b := fun b hb => by
    rcases (own_sub _ _ _).1 hb with e | e
    · exact hal1 b e
    · exact hnv1 b e
  have hk1 : ∀ b ∈ b1, W'.heap[b]? = W.heap[b]? := fun b hb => hk b (h.own b (List.mem_append_left _ hb)).2 (hng b (List.mem_append_left _ hb)) (fun e => hnd2.2.2 b hb b (h.al_mem e) rfl) (fun e => hnd2.2.2 b hb b (h.nm_mem e) rfl)
  have g1 : ∀ b, FS B W g b1 b2 b → FS B W' g b1 (al'.ownBlock.toList ++ (mapBlockOf nv').toList) b ∧ W'.heap[b]? = W.heap[b]? := fun b hF => by
    obtain ⟨f1, f2, f3⟩ := hF
    simp only [List.mem_cons, List.mem_append, not_or] at f3
    obtain ⟨f3, f4, f5⟩ := f3
    refine ⟨⟨f1, Nat.lt_of_lt_of_le f2 hs, ?_⟩, hk b f2 f3 (fun e => f5 (h.al_mem e)) (fun e => f5 (h.nm_mem e))⟩
    intro hm
    rcases List.mem_cons.1 hm with e | hm
    · exact f3 e
    · rcases List.mem_append.1 hm with hm | hm
      · exact f4 hm
      · rcases hnew b hm with e | e
        · exact f5 e
        · omega
  have hlt' : ∀ b ∈ al'.ownBlock.toList ++ (mapBlockOf nv').toList, B ≤ b ∧ b < W'.heap.size := fun b hb => by
    rcases (own_sub _ _ _).1 hb with e | e
    · exact ho'.lt b e
    · obtain ⟨es, clock, hm⟩ := (e ▸ hn').map
      rcases hn' with ⟨e1, _⟩ | ⟨b', e1, hB, _⟩
      · rw [e] at e1; cases e1
      · rw [e] at e1; cases e1; exact ⟨hB, (Array.getElem?_eq_some_iff.1 hm).1⟩
  refine ⟨g, cap, (((cs.setIfInBounds (fs.length * 9 + 7) nv').setIfInBounds (fs.length * 9 + 4) al').setIfInBounds (fs.length * 9 + 8) (.bool true)), x1, ys ++ [.string X, cy.k, cy.t, cy.n, cy.a, cy.al, cy.i, cy.vs], ⟨c.k, c.t, c.n, c.a, al', c.i, c.vs⟩, nv', b1, al'.ownBlock.toList ++ (mapBlockOf nv').toList, rfl, ?_⟩
  exact { hB := h.hB, hc1 := h.hc1, hc2 := h.hc2, hx := h.hx, ha := h.ha, hb2 := rfl, hg := hg'
          hcs := by rw [Array.size_setIfInBounds, Array.size_setIfInBounds, Array.size_setIfInBounds]; exact h.hcs
          htk := by
            have e : cs.toList.take ((fs.length + 1) * 9) = x1 ++ [c.k, c.t, c.n, c.a, c.al, c.i, c.vs, nv, .bool top.want] := h.htk
            rw [Array.toList_setIfInBounds, Array.toList_setIfInBounds, Array.toList_setIfInBounds, List.take_set, List.take_set, List.take_set, e]
            rw [List.set_append_right _ _ (by rw [h.hx]; omega), List.set_append_right _ _ (by rw [h.hx]; omega), List.set_append_right _ _ (by rw [h.hx]; omega), h.hx, Nat.add_sub_cancel_left, Nat.add_sub_cancel_left, Nat.add_sub_cancel_left]
            rfl
          low := FrsZ.carry g1 _ _ _ h.low hk1
          hd := ExF.carry g1 _ _ h.hd
          h0 := fun e => absurd e (by simp)
          hal := by rw [List.length_append]; exact ho'
          hz := AZip.snoc (ExF.carry g1 _ _ hy) _ _ (h.hz.carry g1)
          hnm := by rw [List.length_append]; exact hn'
          own := fun b hb => by
            rcases List.mem_append.1 hb with hb | hb
            · exact ⟨(h.own b (List.mem_append_left _ hb)).1, Nat.lt_of_lt_of_le (h.own b (List.mem_append_left _ hb)).2 hs⟩
            · exact hlt' b hb
          nodup := by
            refine List.nodup_cons.2 ⟨fun hm => ?_, List.nodup_append.2 ⟨hnd2.1, ?_, fun b hb1 b' hb2 e => ?_⟩⟩
            · rcases List.mem_append.1 hm with hm | hm
              · exact hnd.1 (List.mem_append_left _ hm)
              · rcases hnew g hm with e | e
                · exact hnd.1 (List.mem_append_right _ e)
                · have := h.lt; omega
            · refine List.nodup_append.2 ⟨by cases al'.ownBlock <;> simp, by cases mapBlockOf nv' <;> simp, fun b hb1 b' hb2 e => ?_⟩
              subst e
              have e1 : al'.ownBlock = some b := by simpa using hb1
              have e2 : nv' = .map (some b) := by
                have : mapBlockOf nv' = some b := by simpa using hb2
                cases nv' <;> simp [mapBlockOf] at this
                rw [this]
              obtain ⟨c1, t1, fz, hh⟩ := own_cells ho' e1
              obtain ⟨es, clock, hm⟩ := (e2 ▸ hn').map
              rw [hm] at hh
              cases hh
            · subst e
              rcases hnew b hb2 with e | e
              · exact hnd2.2.2 b hb1 b e rfl
              · have := (h.own b (List.mem_append_left _ hb1)).2; omega }
/-- The row of the calls. -/
theorem StP.row (h : StP B W g cap cs x1 ys c nv b1 b2 fs top) : W.ownsRow B 116 9 (.slice (some ⟨g, 0, none⟩) (fs.length + 1) cap) (fs.length + 1) (x1 ++ [c.k, c.t, c.n, c.a, c.al, c.i, c.vs, nv, .bool top.want]) :=
  ⟨by rw [List.length_append, h.hx]; simp; omega, .inr ⟨g, cap, cs, rfl, h.hB, h.hg, h.hc1, h.hc2, h.hcs, h.htk⟩⟩
/-- The innermost call ends: what is around it, and its expression. -/
theorem StP.pop {f2 : Fr} (h : StP B W g cap cs x1 ys c nv b1 b2 (fs ++ [f2]) top) : ∃ x1' ys' c' nv' b1' b2', StP B W g cap cs x1' ys' c' nv' b1' b2' fs f2 ∧ ExF W (FS B W g b1' b2') (withArgs top.e top.xs) c := by
  obtain ⟨xa, xb, ba, bb, rfl, rfl, h1, h2⟩ := h.low.split fs [f2]
  rw [FrsZ] at h2
  obtain ⟨c', nv', ys0, b1', bs', rfl, rfl, ⟨hd, ha, h00, ⟨ys', hal, hz⟩, hnm, rfl⟩, h3⟩ := h2
  rw [FrsZ] at h3
  obtain ⟨rfl, rfl⟩ := h3
  rw [List.append_nil] at h
  have hF : ∀ b, FS B W g (ba ++ (c'.al.ownBlock.toList ++ (mapBlockOf nv').toList)) b2 b → FS B W g ba (c'.al.ownBlock.toList ++ (mapBlockOf nv').toList) b := fun b hb => ⟨hb.1, hb.2.1, fun hm => hb.2.2 (by
    rcases List.mem_cons.1 hm with e | hm
    · rw [e]; exact List.mem_cons_self
    · exact List.mem_cons_of_mem _ (List.mem_append_left _ hm))⟩
  have g1 : ∀ b, FS B W g (ba ++ (c'.al.ownBlock.toList ++ (mapBlockOf nv').toList ++ [])) b2 b → FS B W g ba (c'.al.ownBlock.toList ++ (mapBlockOf nv').toList) b ∧ W.heap[b]? = W.heap[b]? := fun b hb => ⟨hF b (by rw [List.append_nil] at hb; exact hb), rfl⟩
  have hnd := List.nodup_cons.1 h.nodup
  have hnd2 := List.nodup_append.1 hnd.2
  have hxl := h1.length
  refine ⟨xa, ys', c', nv', ba, c'.al.ownBlock.toList ++ (mapBlockOf nv').toList, ?_, h.whole hF fun b e => ⟨(h.own b (List.mem_append_right _ (h.al_mem e))).1, (h.own b (List.mem_append_right _ (h.al_mem e))).2, fun hm => ?_⟩⟩
  · exact { hg := h.hg, hB := h.hB, hc2 := h.hc2, hcs := h.hcs, ha := ha, hb2 := rfl, h0 := h00, hal := hal, hnm := hnm
            hc1 := by have := h.hc1; rw [List.length_append, List.length_singleton] at this; omega
            hx := hxl
            htk := by
              have e : cs.toList.take ((fs.length + 1 + 1) * 9) = (xa ++ [c'.k, c'.t, c'.n, c'.a, c'.al, c'.i, c'.vs, nv', .bool f2.want]) ++ [c.k, c.t, c.n, c.a, c.al, c.i, c.vs, nv, .bool top.want] := by
                have := h.htk
                rw [List.length_append, List.length_singleton] at this
                exact this
              have e2 : cs.toList.take ((fs.length + 1) * 9) = (cs.toList.take ((fs.length + 1 + 1) * 9)).take ((fs.length + 1) * 9) := by rw [List.take_take, Nat.min_eq_left (by omega)]
              rw [e2, e, List.take_append_of_le_length (by rw [List.length_append, hxl]; simp; omega), List.take_of_length_le (by rw [List.length_append, hxl]; simp; omega)]
            low := FrsZ.carry g1 _ _ _ h1 (fun _ _ => rfl)
            hd := ExF.carry g1 _ _ hd
            hz := hz.carry g1
            nodup := List.nodup_cons.2 ⟨fun hm => hnd.1 (List.mem_append_left _ hm), hnd2.1⟩
            own := fun b hb => h.own b (List.mem_append_left _ hb) }
  · rcases List.mem_cons.1 hm with e1 | hm
    · subst e1
      exact hnd.1 (List.mem_append_right _ (h.al_mem e))
    · exact hnd2.2.2 b hm b (h.al_mem e) rfl
/-- One more call. -/
theorem StP.push (h : StP B W g cap cs x1 ys c nv b1 b2 fs top) {e : EX} {ce : C7} (he : ExF W (FS B W g b1 b2) e ce) (hea : exArgs e = []) (hn : ce.al = .slice none 0 0)
    (ho : W'.ownsRow B 116 9 v (fs.length + 1 + 1) (x1 ++ [c.k, c.t, c.n, c.a, c.al, c.i, c.vs, nv, .bool top.want] ++ [ce.k, ce.t, ce.n, ce.a, ce.al, ce.i, ce.vs, .map none, .bool false]))
    (hgr : W.grownBy W' (some g)) (hw : v.ownBlock = some g ∨ v.ownBlock = some W.heap.size) : StAt B W' v (fs ++ [top]) ⟨e, [], false⟩ := by
  have hnd := List.nodup_cons.1 h.nodup
  have hs := hgr.size
  have hng : ∀ b ∈ b1 ++ b2, b ≠ g := fun b hb e => hnd.1 (e ▸ hb)
  have hk : ∀ b, b < W.heap.size → b ≠ g → W'.heap[b]? = W.heap[b]? := fun b hb hn => hgr.block b hb (fun e => hn (Option.some.inj e))
  rcases ho.2 with ⟨_, h0⟩ | ⟨g', cap', cur, rfl, hBg, hg', hc1', hc2', hcs', htk'⟩
  · omega
  have hgg : g' = g ∨ g' = W.heap.size := by
    rcases hw with e | e
    · exact .inl (Option.some.inj e)
    · exact .inr (Option.some.inj e)
  have hgn : ∀ b, b < W.heap.size → b ≠ g → b ≠ g' := fun b h1 h2 e => by rcases hgg with e2 | e2 <;> omega
  have g1 : ∀ b, FS B W g b1 b2 b → FS B W' g' (b1 ++ b2) [] b ∧ W'.heap[b]? = W.heap[b]? := fun b hb => by
    obtain ⟨f1, f2, f3⟩ := hb
    have f4 : b ≠ g := fun e => f3 (by rw [e]; exact List.mem_cons_self)
    refine ⟨⟨f1, Nat.lt_of_lt_of_le f2 hs, fun hm => ?_⟩, hk b f2 f4⟩
    rw [List.append_nil] at hm
    rcases List.mem_cons.1 hm with e | hm
    · exact hgn b f2 f4 e
    · exact f3 (List.mem_cons_of_mem _ hm)
  have hkb : ∀ b ∈ b1 ++ b2, W'.heap[b]? = W.heap[b]? := fun b hb => hk b (h.own b hb).2 (hng b hb)
  refine ⟨g', cap', cur, x1 ++ [c.k, c.t, c.n, c.a, c.al, c.i, c.vs, nv, .bool top.want], [], ce, .map none, b1 ++ b2, [], by rw [List.length_append, List.length_singleton], ?_⟩
  exact { hg := hg', hB := hBg, hc2 := hc2', hcs := hcs', ha := hea, h0 := fun _ => hn
          hc1 := by rw [List.length_append, List.length_singleton]; exact hc1'
          hx := by rw [List.length_append, List.length_append, h.hx]; simp; omega
          htk := by rw [List.length_append, List.length_singleton, htk']
          low := by
            refine FrsZ.join (x2 := [c.k, c.t, c.n, c.a, c.al, c.i, c.vs, nv, .bool top.want]) (b2 := b2) ?_ fs x1 b1 (FrsZ.carry g1 _ _ _ h.low (fun b hb => hkb b (List.mem_append_left _ hb)))
            rw [FrsZ]
            refine ⟨c, nv, [], b2, [], rfl, by simp, ⟨ExF.carry g1 _ _ h.hd, h.ha, h.h0, ⟨ys, row_blocks h.hal fun b e => hkb b (List.mem_append_right _ (h.al_mem e)), h.hz.carry g1⟩, h.hnm.kept fun b e => hkb b (List.mem_append_right _ (h.nm_mem e)), h.hb2⟩, ?_⟩
            rw [FrsZ]
            exact ⟨rfl, rfl⟩
          hd := by
            have := ExF.carry g1 _ _ he
            obtain ⟨k, t, n, a, al, i, vs⟩ := ce
            dsimp only at hn
            subst hn
            exact this
          hal := by rw [hn]; exact World.ownsRow_nil _ _ _ _
          hz := by rw [AZip]
          hnm := .inl ⟨rfl, rfl⟩
          hb2 := by rw [hn]; rfl
          nodup := by
            rw [List.append_nil]
            exact List.nodup_cons.2 ⟨fun hm => hgn g' (h.own g' hm).2 (hng g' hm) rfl, hnd.2⟩
          own := fun b hb => by
            rw [List.append_nil] at hb
            exact ⟨(h.own b hb).1, Nat.lt_of_lt_of_le (h.own b hb).2 hs⟩ }
/-- The first call. -/
theorem st_first {e : EX} {ce : C7} {F : Nat → Prop} (he : ExF W F e ce) (hF : ∀ b, F b → B ≤ b ∧ b < W.heap.size) (hBW : B ≤ W.heap.size) (hea : exArgs e = []) (hn : ce.al = .slice none 0 0) :
    StAt B (W.alloc (.cells #[ce.k, ce.t, ce.n, ce.a, ce.al, ce.i, ce.vs, .map none, .bool false] 116)) (.slice (some ⟨W.heap.size, 0, none⟩) 1 1) [] ⟨e, [], false⟩ := by
  have g1 : ∀ b, F b → FS B (W.alloc (.cells #[ce.k, ce.t, ce.n, ce.a, ce.al, ce.i, ce.vs, .map none, .bool false] 116)) W.heap.size [] [] b ∧ (W.alloc (.cells #[ce.k, ce.t, ce.n, ce.a, ce.al, ce.i, ce.vs, .map none, .bool false] 116)).heap[b]? = W.heap[b]? := fun b hb => by
    obtain ⟨h1, h2⟩ := hF b hb
    exact ⟨⟨h1, by rw [World.size_alloc]; omega, fun hm => by simp at hm; omega⟩, Lib.alloc_old _ _ b h2⟩
  refine ⟨W.heap.size, 1, #[ce.k, ce.t, ce.n, ce.a, ce.al, ce.i, ce.vs, .map none, .bool false], [], [], ce, .map none, [], [], rfl, ?_⟩
  exact { hg := heap_alloc_new W _, hB := hBW, hc1 := Nat.le_refl _, hc2 := by decide, hcs := rfl, hx := rfl, htk := rfl, ha := hea, h0 := fun _ => hn
          low := by rw [FrsZ]; exact ⟨rfl, rfl⟩
          hd := by
            have := ExF.carry g1 _ _ he
            obtain ⟨k, t, n, a, al, i, vs⟩ := ce
            dsimp only at hn
            subst hn
            exact this
          hal := by rw [hn]; exact World.ownsRow_nil _ _ _ _
          hz := by rw [AZip]
          hnm := .inl ⟨rfl, rfl⟩
          hb2 := by rw [hn]; rfl
          nodup := by simp
          own := fun b hb => by simp at hb }
end
end Go.Proofs.YtnogdojdjehakaaGreatDoor

/-
  Package expr: add, an argument without a name.
-/
namespace Go.Proofs.YtnogdojdjehakaaGreatDoor
open Go.RowKit Go.Maps
set_option linter.unusedVariables false
set_option linter.unusedSimpArgs false

set_option maxHeartbeats 4000000 in
set_option maxRecDepth 100000 in
theorem add_empty {B g o : Nat} (cs : Array Value) (al nv : Value) (n : Nat) (ys : List Value) (seen : List ByteArray) (X : ByteArray) (k : Int) (t nn a : ByteArray) (A1 : Option Addr) (n1 c1 : Nat) (p : Option Addr) (A2 : Option Addr) (n2 c2 : Nat) (w : World)
    (hg : w.heap[g]? = some (.cells cs 116 (0, 0))) (hBg : B ≤ g) (ho : o + 9 ≤ cs.size) (hc4 : cs[o + 4]? = some al) (hc7 : cs[o + 7]? = some nv) {c8 : Value} (hc8 : cs[o + 8]? = some c8) (hal : w.ownsRow B 58 8 al n ys) (hne : al.ownBlock ≠ some g) (hnm : NmOk B w nv seen n) (hn : n ≤ 1000000) (hX : X.size ≤ 1000000) (ho2 : o ≤ 100000000) (hx : emp X = true) :
    Calls Tryz.prog 77 #[.pointer (some ⟨g, o, none⟩), arV X k t nn a A1 n1 c1 p A2 n2 c2] w fun e w' =>
      e = .returned (.bool (decide (seen.length = 0) && !((k == 4) && !emp a))) ∧ Below B w w' ∧
      ((decide (seen.length = 0) && !((k == 4) && !emp a)) = true → Added B g o cs al nv n ys seen [.string X, .int .i64 k, .string t, .string nn, .string a, .slice A1 n1 c1, .pointer p, .slice A2 n2 c2] w w') := by
  have hgl := (Array.getElem?_eq_some_iff.1 hg).1
  obtain ⟨Al, cl, rfl⟩ : ∃ A c, al = .slice A n c := own_form hal
  obtain ⟨i0, hi0, hz0, hz1, hz2⟩ := info_parts infoA
  have d4 : w.cell? ⟨g, o + 4, none⟩ = some (.slice Al n cl) := (cell_of_row w g (o + 4) cs _ (0, 0) hg).trans hc4
  have d7 : w.cell? ⟨g, o + 7, none⟩ = some nv := (cell_of_row w g (o + 7) cs _ (0, 0) hg).trans hc7
  have hBw : B ≤ w.heap.size := by omega
  have HG := Lib.hid hg
  have HAl := Lib.hid hal
  have HT := Lib.hid (fun W => termsAttr_any k t nn a A1 n1 c1 p A2 n2 c2 W)
  obtain ⟨ta, hta⟩ : ∃ q, ((k == 4) && !emp a) = q := ⟨_, rfl⟩
  rw [hta] at HT ⊢
  unfold exV at HT
  unfold arV
  have hNe := Lib.hid (show some g ≠ (Value.slice Al n cl).ownBlock from fun h => hne h.symm)
  have hset := set_same hc7
  clear hta hg hal hne hc4 hc7
  have hx' : X.toList.isEmpty = true := hx
  clear hx
  rcases hnm with ⟨rfl, rfl⟩ | ⟨b, rfl, hb, h0, hN⟩
  case inr =>
    obtain ⟨D, hD1, hD2, hD3⟩ := hN
    have hlen : decide (seen.length = 0) = false := decide_eq_false (by omega)
    rw [hlen, Bool.false_and]
    obtain ⟨z, hz⟩ : ∃ z, Maps.size D = z := ⟨_, rfl⟩
    have hlen2 : ∀ ob, (Builtin.len_ #[114] 3 #[.map (some b)]).run Tryz.prog (w.alloc ob) = .ok (.int .i64 (z : Nat)) (w.alloc ob) := fun ob => by
      rw [← hz]
      exact (hD1.alloc ob).len Tryz.underlying114 _
    rw [hD3] at hz
    have hs : decide ((0 : Int) < (z : Nat)) = true := decide_eq_true (by omega)
    have hs' : (0 : Int) < (z : Nat) := by omega
    clear hD1 hD2 hlen hz h0
    go_enter Tryz.func77, Tryz.ntmps77
    go_wp2
    go_ret
    exact ⟨rfl, (Below.refl B w).alloc hBw _, fun h => by cases h⟩
  case inl =>
    have Hset := Lib.hid hset
    clear hset
    have hlen2 : ∀ ob, (Builtin.len_ #[114] 3 #[.map none]).run Tryz.prog (w.alloc ob) = .ok (.int .i64 0) (w.alloc ob) := fun ob => Maps.len_nil Tryz.underlying114 _
    have e0 : (decide (([] : List ByteArray).length = 0) && !ta) = !ta := by simp
    rw [e0]
    cases ta
    case true =>
      go_enter Tryz.func77, Tryz.ntmps77
      go_wp2_with fail
      go_at_call 52
      refine (HT.out _).mono ?_
      rintro e w1 ⟨rfl, hb1⟩
      have HB := Lib.hid (((Below.refl w.heap.size w).alloc (Nat.le_refl _) (.cells #[.string X, .int .i64 k, .string t, .string nn, .string a, .slice A1 n1 c1, .pointer p, .slice A2 n2 c2] 58)).trans (hb1.mono (by simp)))
      clear hb1
      go_wp2
      go_ret
      exact ⟨rfl, HB.out.mono hBw, fun h => by cases h⟩
    go_enter Tryz.func77, Tryz.ntmps77
    go_wp2_with fail
    go_at_call 52
    refine (HT.out _).mono ?_
    rintro e w1 ⟨rfl, hb1⟩
    have HB := Lib.hid (((Below.refl w.heap.size w).alloc (Nat.le_refl _) (.cells #[.string X, .int .i64 k, .string t, .string nn, .string a, .slice A1 n1 c1, .pointer p, .slice A2 n2 c2] 58)).trans (hb1.mono (by simp)))
    have hbox := (BoxAt.new w #[.string X, .int .i64 k, .string t, .string nn, .string a, .slice A1 n1 c1, .pointer p, .slice A2 n2 c2] 58).later hb1
    have hsz := HB.out.size
    have HBox := Lib.hid hbox
    have hbl := hbox.lt
    have e4 : w1.cell? ⟨g, o + 4, none⟩ = some (.slice Al n cl) := (HB.out.cell (p := ⟨g, o + 4, none⟩) hgl).trans d4
    have hgr : w1.heap[g]? = some (.cells cs 116 (0, 0)) := (HB.out.block g hgl).trans HG.out
    have HAl1 := Lib.hid (HAl.out.kept (⟨HB.out.os, HB.out.tape, HB.out.output, HB.out.size, fun k hk _ => HB.out.block k hk⟩ : w.grownBy w1 none) (by by_cases h : (Value.slice Al n cl).ownBlock = none; exact .inl h; exact .inr h))
    have HGr := Lib.hid hgr
    obtain ⟨q0, q1, q2, q3, q4, q5, q6, q7, p0, p1, p2, p3, p4, p5, p6, p7⟩ := cells8 hbox
    clear hb1 hbox hgr d4 d7
    have hn0 : (n : Int) ≤ 1000000 := by omega
    have fg : ∀ j, w1.frozen? ⟨g, j, none⟩ = false := fun j => Lib.frozen_of_heap HGr.out j
    have hAL := Lib.hid HAl1.out.1
    have hg1 : g < w1.heap.size := by omega
    have E4 := Lib.hid (fun ob : Obj => (((Below.refl w1.heap.size w1).alloc (Nat.le_refl _) ob).cell (p := ⟨g, o + 4, none⟩) hg1).trans e4)
    have hG2 := Lib.hid (fun ob : Obj => show g < (w1.alloc ob).heap.size by rw [World.size_alloc]; omega)
    have F4 := Lib.hid (fun ob : Obj => (((Below.refl w1.heap.size w1).alloc (Nat.le_refl _) ob).frozen (p := ⟨g, o + 4, none⟩) hg1).trans (fg (o + 4)))
    have x1 : (n : Int) < (n : Int) + 1 := by omega
    have x2 : (n : Int) < ((n + 1 : Nat) : Int) := by omega
    have x3 : (0 : Int) ≤ (n : Int) := by omega
    have B1 := Lib.hid (show n + 1 ≤ maxLen by unfold maxLen; omega)
    have B2 := Lib.hid (show (n + 1) * 128 ≤ 140737488355328 by omega)
    have B3 := Lib.hid (show B ≤ w1.heap.size by omega)
    go_wp2_with fail
    go_cut [] (fun wx => AddMid B g o cs (.slice Al n cl) n ys [.string X, .int .i64 k, .string t, .string nn, .string a, .slice A1 n1 c1, .pointer p, .slice A2 n2 c2] w1 wx)
    case first =>
     go_region_law (refine step_append_own rfl (.tmp 57) (.tmp 60) 25 rfl B 58 i0 (.agg #[.string ⟨#[]⟩, .int .i64 0, .string ⟨#[]⟩, .string ⟨#[]⟩, .string ⟨#[]⟩, .slice none 0 0, .pointer none, .slice none 0 0]) 8 128 Tryz.underlying25 hi0 hz0 hz1 hz2 rfl (by decide) (.slice Al n cl) n ys (by simp [Act.eval, Act.put]) (HAl1.out.drew.alloc _) ⟨w1.heap.size, 0, none⟩ 1 1 [.string ⟨#[]⟩, .int .i64 0, .string ⟨#[]⟩, .string ⟨#[]⟩, .string ⟨#[]⟩, .slice none 0 0, .pointer none, .slice none 0 0] (by simp [Act.eval, Act.put]) rfl (new8 _ _) (by simp [Value.oneCell']) B1.out B2.out (by show B ≤ (w1.alloc _).heap.size; rw [World.size_alloc]; exact Nat.le_succ_of_le B3.out) (by decide) ?_; intro v' w' hown hgrow hwh; obtain ⟨gA, cA, rfl⟩ := own_some hown; have hZ := hown.1; have s0 := row_at0 hown (ys := ys) hAL.out _ rfl; have s1 := row_at hown (ys := ys) hAL.out 1 _ rfl; have s2 := row_at hown (ys := ys) hAL.out 2 _ rfl; have s3 := row_at hown (ys := ys) hAL.out 3 _ rfl; have s4 := row_at hown (ys := ys) hAL.out 4 _ rfl; have s5 := row_at hown (ys := ys) hAL.out 5 _ rfl; have s6 := row_at hown (ys := ys) hAL.out 6 _ rfl; have s7 := row_at hown (ys := ys) hAL.out 7 _ rfl; have sf := fun j => hown.frozenAt j; have s4' := hgrow.cell (a := ⟨g, o + 4, none⟩) (E4.out _) hNe.out; have ng := own_ne hwh hNe.out (hG2.out _); have ng2 := own_ne' hwh hNe.out (hG2.out _); have f4' := (World.frozen?_of_block (a := ⟨g, o + 4, none⟩) (hgrow.block g (hG2.out _) hNe.out)).trans (F4.out _); have hOwn := Lib.hid hown; have hGrow := Lib.hid hgrow; have hWh := Lib.hid hwh; clear hown hgrow hwh)
     all_goals (go_wp2_with fail; go_meet)
     all_goals first | with_reducible exact mid_a B3.out (Below.alloc (Below.refl _ _) (Nat.le_refl _) _).drew (by simp) HGr.out hBg HAl1.out hNe.out hGrow.out hOwn.out hWh.out ng | with_reducible exact mid_b B3.out (Below.alloc (Below.refl _ _) (Nat.le_refl _) _).drew (by simp) HGr.out hBg HAl1.out hNe.out hGrow.out hOwn.out hWh.out ng
    case rest =>
    have Hcut := Lib.hid hcut
    obtain ⟨_, ⟨al', hm2, _, _⟩, _⟩ := hcut
    have k8 : wc.cell? ⟨g, o + 8, none⟩ = some c8 := by
      rw [cell_of_row wc g (o + 8) _ _ (0, 0) hm2]
      simpa using hc8
    have f8 : wc.frozen? ⟨g, o + 8, none⟩ = false := Lib.frozen_of_heap hm2 (o + 8)
    clear hm2
    go_wp2
    go_ret
    have hE := added_end (nv' := .map none) (HB.out.mono hBw) (fun k hk _ _ => HB.out.block k hk) (by rw [Hset.out]; exact HGr.out) hBg HAl1.out (.inl ⟨rfl, rfl⟩) (.inl rfl) (by rw [Hset.out]; exact Hcut.out)
    exact ⟨rfl, hE.1, fun _ => hE.2⟩
end Go.Proofs.YtnogdojdjehakaaGreatDoor
