/-
  Several texts put together (part 21): what the law and the program call, walked; their contracts.
-/
import Derived.Test.YtpgiboblonlddaaGreatDoorQ20
import Derived.Test.YtpgiboblonlddaaGreatDoorQ5
namespace Go.Proofs.YtpgiboblonlddaaGreatDoor
open Go.RowKit
set_option linter.unusedVariables false
set_option linter.unusedSimpArgs false
def VZip (W : World) (F : Nat → Prop) : List VA → List Value → Prop
  | [], xs => xs = []
  | .mk k d l :: r, xs => ∃ A n c ys, xs = .string k :: .bool d :: .slice A n c :: ys ∧ l.length = n ∧ PatF W F l (.slice A n c) ∧ VZip W F r ys
theorem VZip.snoc {W : World} {F : Nat → Prop} {k : ByteArray} {d : Bool} {l : List EL} {A : Option Addr} {n c : Nat} (hl : l.length = n) (hp : PatF W F l (.slice A n c)) : ∀ (acc : List VA) (xs : List Value), VZip W F acc xs → VZip W F (acc ++ [.mk k d l]) (xs ++ [.string k, .bool d, .slice A n c])
  | [], xs, h => by
    rw [VZip] at h
    subst h
    exact ⟨A, n, c, [], rfl, hl, hp, rfl⟩
  | .mk k' d' l' :: r, xs, h => by
    rw [VZip] at h
    obtain ⟨A', n', c', ys, rfl, h1, h2, h3⟩ := h
    exact ⟨A', n', c', _, rfl, h1, h2, VZip.snoc hl hp r ys h3⟩
theorem VZip.carry {W W' : World} {F F' : Nat → Prop} (g : ∀ b, F b → F' b ∧ W'.heap[b]? = W.heap[b]?) : ∀ (acc : List VA) (xs : List Value), VZip W F acc xs → VZip W' F' acc xs
  | [], xs, h => by rw [VZip] at h ⊢; exact h
  | .mk k' d' l' :: r, xs, h => by
    rw [VZip] at h
    obtain ⟨A', n', c', ys, rfl, h1, h2, h3⟩ := h
    exact ⟨A', n', c', ys, rfl, h1, h2.carry g, VZip.carry g r ys h3⟩
theorem VZip.vs {W : World} {F : Nat → Prop} {g : Nat} (hg : F g) : ∀ (acc : List VA) (xs : List Value) (o : Nat), (∀ j x, xs[j]? = some x → W.cell? ⟨g, o + j, none⟩ = some x) → VZip W F acc xs → VsF W F acc g o
  | [], xs, o, hc, h => by rw [VsF]; trivial
  | .mk k' d' l' :: r, xs, o, hc, h => by
    rw [VZip] at h
    obtain ⟨A', n', c', ys, rfl, h1, h2, h3⟩ := h
    rw [VsF]
    refine ⟨hg, hc 0 _ rfl, hc 1 _ rfl, ⟨_, hc 2 _ rfl, h2⟩, VZip.vs hg r ys (o + 3) (fun j x hx => ?_) h3⟩
    have := hc (j + 3) x (by simpa using hx)
    rw [show o + 3 + j = o + (j + 3) by omega]
    exact this
def OwnSet (B : Nat) (W : World) (v : Value) (b : Nat) : Prop := Since B W b ∧ some b ≠ v.ownBlock
theorem Kp.grownBy {rb : Nat} {W W' : World} (h : Kp rb W W') : W.grownBy W' (some rb) := ⟨h.below.os, h.below.tape, h.below.output, h.below.size, fun k hk hn => h.others k hk (fun e => hn (by rw [e]))⟩
theorem Kp.grown {rb : Nat} {a W W' : World} {row : Option Nat} (h : Kp rb a W) (hg : W.grownBy W' row) (hrow : ∀ k, row = some k → a.heap.size ≤ k) (hr : rb < a.heap.size) : Kp rb a W' :=
  ⟨h.below.grown hg (by have := h.size; omega) (fun k e => by have := hrow k e; omega), fun k hk hn => (hg.block k (Nat.lt_of_lt_of_le hk h.size) (fun e => by have := hrow k e.symm; omega)).trans (h.others k hk hn)⟩
theorem Rd.grown {rb : Nat} {s : ByteArray} {i : Nat} {W W' : World} {row : Option Nat} (h : Rd rb s i W) (hg : W.grownBy W' row) (hrow : ∀ k, row = some k → rb < k) : Rd rb s i W' :=
  (hg.block rb h.lt (fun e => by have := hrow rb e.symm; omega)).trans h
def OwnV (B : Nat) (W : World) (v : Value) (acc : List VA) : Prop := ∃ xs, W.ownsRow B 281 3 v acc.length xs ∧ VZip W (OwnSet B W v) acc xs
theorem OwnV.nil (B : Nat) (W : World) : OwnV B W (.slice none 0 0) [] := ⟨[], World.ownsRow_nil _ _ _ _, rfl⟩
theorem OwnV.kp {rb B : Nat} {W W' : World} {v : Value} {acc : List VA} (h : OwnV B W v acc) (g : Kp rb W W') (hrb : rb < B) : OwnV B W' v acc := by
  obtain ⟨xs, h1, h2⟩ := h
  refine ⟨xs, h1.kept g.grownBy (.inr (fun e => by have := (h1.lt rb e).1; omega)), VZip.carry (fun b hb => ?_) _ _ h2⟩
  obtain ⟨⟨hb1, hb2⟩, hb3⟩ := hb
  exact ⟨⟨⟨hb1, Nat.lt_of_lt_of_le hb2 g.size⟩, hb3⟩, g.others b hb2 (by omega)⟩
theorem OwnV.more {B : Nat} {W W' : World} {v v' : Value} {acc : List VA} {xs : List Value} {k : ByteArray} {d : Bool} {l : List EL} {A : Option Addr} {n c : Nat} (h2 : VZip W (OwnSet B W v) acc xs)
    (ho : W'.ownsRow B 281 3 v' (acc.length + 1) (xs ++ [.string k, .bool d, .slice A n c])) (hg : W.grownBy W' v.ownBlock) (hw : v'.ownBlock = v.ownBlock ∨ v'.ownBlock = some W.heap.size) (hl : l.length = n) (hp : PatF W (OwnSet B W v) l (.slice A n c)) :
    OwnV B W' v' (acc ++ [.mk k d l]) := by
  refine ⟨_, by rw [List.length_append]; exact ho, ?_⟩
  have g : ∀ b, OwnSet B W v b → OwnSet B W' v' b ∧ W'.heap[b]? = W.heap[b]? := fun b hb => by
    obtain ⟨⟨hb1, hb2⟩, hb3⟩ := hb
    refine ⟨⟨⟨hb1, Nat.lt_of_lt_of_le hb2 hg.size⟩, ?_⟩, hg.block b hb2 hb3⟩
    rcases hw with e | e
    · rw [e]; exact hb3
    · rw [e]; intro e2; have := Option.some.inj e2; omega
  exact VZip.carry g _ _ (VZip.snoc hl hp acc xs h2)
theorem OwnV.lie {B : Nat} {W : World} {v : Value} {acc : List VA} (h : OwnV B W v acc) : ∃ A c, v = .slice A acc.length c ∧ LieAt (VsF W (Since B W) acc) v acc.length := by
  obtain ⟨xs, h1, h2⟩ := h
  rcases h1.2 with ⟨rfl, h0⟩ | ⟨g, cap, cur, rfl, hb, hg, hc1, hc2, hcs, htk⟩
  · have : acc = [] := List.eq_nil_of_length_eq_zero h0
    subst this
    exact ⟨none, 0, rfl, none, 0, rfl, Nat.le_refl _, Nat.zero_le _, fun h => absurd h (by simp)⟩
  · refine ⟨_, _, rfl, _, _, rfl, hc1, hc2, fun _ => ⟨g, 0, rfl, VZip.vs ⟨hb, (Array.getElem?_eq_some_iff.1 hg).1⟩ acc xs 0 (fun j x hx => ?_) (VZip.carry (fun b hb => ⟨hb.1, rfl⟩) _ _ h2)⟩⟩
    have := h1.cells (g := g) rfl j x hx
    rw [Addr.add_mid] at this
    exact this
def posOf (rb : Nat) (w : World) : Nat := match w.cell? ⟨rb, 1, none⟩ with
  | some (.int _ i) => i.toNat
  | _ => 0
theorem Rd.pos {rb : Nat} {s : ByteArray} {i : Nat} {w : World} (h : Rd rb s i w) : posOf rb w = i := by
  unfold posOf
  rw [h.c1]
  simp
def GotVs (rb : Nat) (s : ByteArray) (w : World) (r : Option (List VA × Nat)) (e : Ending) (w' : World) : Prop :=
  Kp rb w w' ∧ ∃ (A : Option Addr) (n c j : Nat), e = .returned (.tuple #[.slice A n c, .bool r.isSome]) ∧ Rd rb s j w' ∧ j ≤ s.size ∧
    ∀ l m, r = some (l, m) → m = j ∧ l.length = n ∧ LieAt (VsF w' (Since w.heap.size w') l) (.slice A n c) n
theorem parts_pos {s : ByteArray} {P : Nat → Res} : ∀ (m : Nat) (acc : List EL) (i : Nat), s.size - i ≤ m → i ≤ s.size → ∀ ps j, partsS P s acc i = some (ps, j) → i ≤ j ∧ j ≤ s.size := by
  intro m
  induction m with
  | zero =>
    intro acc i hm hi ps j h
    have ht : i ≤ tx s i := behN_ge _ _ _
    have ht2 : tx s i ≤ s.size := by have := behN_le txB s.data.toList i (by rw [size_data]; exact hi); rw [size_data] at this; exact this
    rw [partsS] at h
    split at h
    · next hc => have := isAt_lt hc; omega
    · cases h; omega
  | succ m ih =>
    intro acc i hm hi ps j h
    have ht : i ≤ tx s i := behN_ge _ _ _
    have ht2 : tx s i ≤ s.size := by have := behN_le txB s.data.toList i (by rw [size_data]; exact hi); rw [size_data] at this; exact this
    rw [partsS] at h
    split at h
    · split at h
      · cases h
      · split at h
        · next hg => have := ih _ _ (by omega) hg.2 ps j h; omega
        · cases h
    · cases h; omega
theorem lines_pos {s : ByteArray} {P : Nat → Res} : ∀ (m : Nat) (acc : List LN) (f p i : Nat), s.size - i ≤ m → i ≤ s.size → ∀ ls j, linesS P s acc f p i = some (ls, j) → i ≤ j ∧ j ≤ s.size := by
  intro m
  induction m with
  | zero =>
    intro acc f p i hm hi ls j h
    rw [linesS] at h
    split at h
    · cases h
    · next hp =>
      have h1 := parts_pos _ _ _ (Nat.le_refl _) hi _ _ hp
      split at h
      · cases h; exact h1
      · split at h
        · next hg => omega
        · cases h
  | succ m ih =>
    intro acc f p i hm hi ls j h
    rw [linesS] at h
    split at h
    · cases h
    · next hp =>
      have h1 := parts_pos _ _ _ (Nat.le_refl _) hi _ _ hp
      split at h
      · cases h; exact h1
      · split at h
        · next hg => have := ih _ _ _ _ (by omega) hg.2 ls j h; omega
        · cases h
theorem pat_pos {s : ByteArray} {P : Nat → Res} (i : Nat) (hi : i ≤ s.size) (l : List EL) (j : Nat) (h : patS P s i = some (l, j)) : i ≤ j ∧ j ≤ s.size := by
  unfold patS at h
  split at h
  · cases h
  · next hl =>
    cases h
    have h2 := sp_ok s i hi
    have := lines_pos _ _ _ _ _ (Nat.le_refl _) h2.2 _ _ hl
    omega
theorem vari_pos {s : ByteArray} {P : Nat → Res} (i : Nat) (hi : i ≤ s.size) (v : VA) (j : Nat) (h : variS P s i = some (v, j)) : i < j ∧ j ≤ s.size := by
  unfold variS at h
  have hii : i ≤ (if isAt s i 42 then i + 1 else i) := by split <;> omega
  generalize (if isAt s i 42 then i + 1 else i) = i1 at h hii
  split at h
  · next h1 =>
    have h2 := isAt_lt h1
    have h3 := bl_ok s (i1 + 1) h2
    generalize bl s (i1 + 1) = a at h h3
    split at h
    · cases h
    · have h4 : a ≤ keyE s a ∧ keyE s a ≤ s.size := by
        have := nm_ok s a h3.2
        have := nu_ok s a h3.2
        unfold keyE; split <;> omega
      generalize keyE s a = k at h h4
      have h5 := bl_ok s k h4.2
      generalize bl s k = m at h h5
      split at h
      · next h6 =>
        have h7 := isAt_lt h6
        split at h
        · cases h
        · next hp =>
          have h8 := pat_pos _ h7 _ _ hp
          split at h
          · cases h; omega
          · cases h
      · cases h
  · cases h
end Go.Proofs.YtpgiboblonlddaaGreatDoor

namespace Go.Proofs.YtpgiboblonlddaaGreatDoor
open Go.RowKit
set_option linter.unusedVariables false
set_option linter.unusedSimpArgs false
theorem infoV : (Tryz.prog.info? 281).map (fun i => (i.zero, i.size, i.bytes)) = some (some (.agg #[.string ⟨#[]⟩, .bool false, .slice none 0 0]), 3, 48) := by kernel_rfl
theorem own_slice {w : World} {B : Nat} {e : TypeId} {size : Nat} {v : Value} {n : Nat} {xs : List Value} (h : w.ownsRow B e size v n xs) (hn : 0 < n) : ∃ A c, v = .slice A n c := by
  rcases h.2 with ⟨_, h0⟩ | ⟨g, cap, cur, rfl, _⟩
  · omega
  · exact ⟨_, _, rfl⟩
theorem ownV_push {rb B : Nat} {w5 w6 : World} {v : Value} {acc : List VA} {xs : List Value} {X : ByteArray} {df : Bool} {l : List EL} {A : Option Addr} {n c : Nat} {o1 o2 : Obj} {W3 : World} {v' : Value} (hrb : rb < B) (hB : B ≤ w5.heap.size)
    (hs : w5.heap.size ≤ w6.heap.size) (hv : ∀ k, v.ownBlock = some k → B ≤ k ∧ k < w5.heap.size) (hz : VZip w6 (OwnSet B w6 v) acc xs) (hp : PatF w6 (Since w5.heap.size w6) l (.slice A n c)) (hl : l.length = n)
    (ho : W3.ownsRow B 281 3 v' (acc.length + 1) (xs ++ [.string X, .bool df, .slice A n c])) (hg : ((w6.alloc o1).alloc o2).grownBy W3 v.ownBlock)
    (hw : v'.ownBlock = v.ownBlock ∨ v'.ownBlock = some ((w6.alloc o1).alloc o2).heap.size) : OwnV B W3 v' (acc ++ [.mk X df l]) := by
  have K : Kp rb w6 ((w6.alloc o1).alloc o2) := ((Kp.refl rb w6).alloc (by omega) _).alloc (by simp; omega) _
  refine OwnV.more (VZip.carry (fun b hb => ?_) _ _ hz) ho hg hw hl (PatF.carry (fun b hb => ?_) hp)
  · obtain ⟨⟨hb1, hb2⟩, hb3⟩ := hb
    exact ⟨⟨⟨hb1, Nat.lt_of_lt_of_le hb2 K.size⟩, hb3⟩, K.others b hb2 (by omega)⟩
  · obtain ⟨hb1, hb2⟩ := hb
    exact ⟨⟨⟨by omega, Nat.lt_of_lt_of_le hb2 K.size⟩, fun e => by have := hv b e.symm; omega⟩, K.others b hb2 (by omega)⟩
set_option maxHeartbeats 8000000 in
set_option maxRecDepth 100000 in
theorem variants_any {rb : Nat} {s : ByteArray} {d : Nat} {P : Nat → Res} (hs : s.size ≤ 1000000) (hd : d ≤ 4000) (hPat : PatTo rb s d (patS P s)) (i : Nat) (w : World) (hr : Rd rb s i w) (hi : i ≤ s.size) :
    Calls Tryz.prog 257 #[pt rb, .int .i64 d] w (GotVs rb s w (selS P s i)) := by
  obtain ⟨i0, hi0, hz0, hz1, hz2⟩ := info_parts infoV
  have HR := Lib.hid hr
  have hlt := hr.lt
  obtain ⟨R, hRR⟩ : ∃ R, selS P s i = R := ⟨_, rfl⟩
  rw [hRR]
  unfold selS at hRR
  have hS := sp_ok s i hi
  have hP1 := fun W (h : Rd rb s i W) => pass_any endSpaces W h (by omega) hi
  obtain ⟨p, hp⟩ : ∃ p, sp s i = p := ⟨_, rfl⟩
  rw [hp] at hS hP1 hRR
  have hT1 := fun W (h : Rd rb s p W) => take_any 10 W h (by omega) hS.2
  obtain ⟨b1, hb1⟩ : ∃ b, isAt s p 10 = b := ⟨_, rfl⟩
  have hp1 : b1 = true → p + 1 ≤ s.size := fun h => isAt_lt (hb1.trans h)
  rw [hb1] at hT1 hRR
  have HP1 := Lib.hid hP1
  have HT1 := Lib.hid hT1
  have HV := Lib.hid (fun j W h1 h2 => variant_any (rb := rb) hs hd hPat j W h1 h2)
  clear hr hP1 hp hT1 hb1 hPat
  unfold pt at HP1 HT1 HV ⊢
  cases b1
  case false =>
    rw [if_neg (by simp)] at hRR
    subst hRR
    go_enter Tryz.func257, Tryz.ntmps257
    go_wp2_with fail
    go_at_call 218
    refine (HP1.out _ HR.out).mono ?_
    rintro e w1 ⟨rfl, g1, g2⟩
    have G1 := Lib.hid g1
    have HK := Lib.hid g2
    clear g1 g2
    go_wp2_with fail
    go_at_call 253
    refine (HT1.out _ G1.out).mono ?_
    rintro e w2 ⟨rfl, g3, g4⟩
    have G3 := Lib.hid (show Rd rb s p w2 by simpa using g3)
    have HK2 := Lib.hid (HK.out.trans g4)
    clear g3 g4
    go_wp2
    go_ret2
    exact ⟨HK2.out, none, 0, 0, p, rfl, G3.out, hS.2, fun l m h => by cases h⟩
  have hp2 := hp1 rfl
  rw [if_pos rfl] at hRR
  have hB := bl_ok s (p + 1) hp2
  have hP2 := fun W (h : Rd rb s (p + 1) W) => pass_any endBlank W h (by omega) hp2
  obtain ⟨q, hq⟩ : ∃ q, bl s (p + 1) = q := ⟨_, rfl⟩
  rw [hq] at hB hP2 hRR
  have HP2 := Lib.hid hP2
  have HRR := Lib.hid hRR
  have hd0 : (d : Int) ≤ 4000 := by omega
  unfold pt at HP2
  clear hP2 hq hRR hp1
  go_enter Tryz.func257, Tryz.ntmps257
  go_wp2_with fail
  go_at_call 218
  refine (HP1.out _ HR.out).mono ?_
  rintro e w1 ⟨rfl, g1, g2⟩
  have G1 := Lib.hid g1
  have HK := Lib.hid g2
  clear g1 g2
  go_wp2_with fail
  go_at_call 253
  refine (HT1.out _ G1.out).mono ?_
  rintro e w2 ⟨rfl, g3, g4⟩
  have G3 := Lib.hid (show Rd rb s (p + 1) w2 by simpa using g3)
  have HK2 := Lib.hid (HK.out.trans g4)
  clear g3 g4
  go_wp2_with fail
  go_at_call 218
  refine (HP2.out _ G3.out).mono ?_
  rintro e w3 ⟨rfl, g3, g4⟩
  have G4 := Lib.hid g3
  have HK3 := Lib.hid (HK2.out.trans g4)
  clear g3 g4
  go_wp2
  go_loopw [6, 7] (fun t6 t7 wr => ∃ (acc : List VA) (j : Nat) (A : Option Addr) (c : Nat), t6 = .slice A acc.length c ∧ t7 = .int .i64 (acc.countP vaDflt : Nat) ∧ j ≤ s.size ∧ acc.length ≤ j ∧ Hid (varsS P s acc j = R) ∧ Hid (Rd rb s j wr) ∧ Hid (Kp rb w wr) ∧ Hid (OwnV w.heap.size wr (.slice A acc.length c) acc)) (fun _ _ wr => s.size - posOf rb wr)
  case atStart => exact ⟨[], q, none, 0, rfl, rfl, hB.2, Nat.zero_le _, HRR.out, G4.out, HK3.out, OwnV.nil _ _⟩
  case round =>
    obtain ⟨acc, j, A, c, rfl, rfl, hj, hal, Hans, HRd, HK, HO⟩ := hrel
    have hT := fun W (h : Rd rb s j W) => take_any 125 W h (by omega) hj
    obtain ⟨b, hb⟩ : ∃ b, isAt s j 125 = b := ⟨_, rfl⟩
    have hj1 : b = true → j + 1 ≤ s.size := fun h => isAt_lt (hb.trans h)
    have hans := Hans.out
    rw [varsS] at hans
    rw [hb] at hT hans
    have HT := Lib.hid hT
    have hcnt : acc.countP vaDflt ≤ acc.length := List.countP_le_length
    obtain ⟨cn, hcn⟩ : ∃ cn, acc.countP vaDflt = cn := ⟨_, rfl⟩
    rw [hcn] at hcnt hans ⊢
    have Hcn := Lib.hid hcn
    have hcn0 : (cn : Int) ≤ 1000000 := by omega
    have Hpos := Lib.hid HRd.out.pos
    unfold pt at HT
    clear hT hb hcn
    cases b
    case true =>
      rw [if_pos rfl] at hans
      have HRn := Lib.hid hans
      have Hj1 := Lib.hid (hj1 rfl)
      clear hans hj1
      go_wp2_with fail
      go_at_call 253
      refine (HT.out _ HRd.out).mono ?_
      rintro e w5 ⟨rfl, g1, g2⟩
      have G5 := Lib.hid (show Rd rb s (j + 1) w5 by simpa using g1)
      have HK5 := Lib.hid (HK.out.trans g2)
      have HO5 := Lib.hid (HO.out.kp g2 hlt)
      clear g1 g2
      by_cases h1 : cn = 1
      · have h11 : ((cn : Int) == 1) = true := beq_iff_eq.2 (by omega)
        have hR := HRn.out
        rw [if_pos h1] at hR
        subst hR
        clear h1
        go_wp2
        go_ret2
        obtain ⟨A', c', e1, hl⟩ := HO5.out.lie
        exact ⟨HK5.out, A, acc.length, c, j + 1, rfl, G5.out, Hj1.out, fun l m h => by cases h; exact ⟨rfl, rfl, hl⟩⟩
      · have h11 : ((cn : Int) == 1) = false := beq_eq_false_iff_ne.2 (by omega)
        have hR := HRn.out
        rw [if_neg h1] at hR
        subst hR
        clear h1
        go_wp2
        go_ret2
        exact ⟨HK5.out, A, acc.length, c, j + 1, rfl, G5.out, Hj1.out, fun l m h => by cases h⟩
    rw [if_neg (by simp)] at hans
    have hv := vari_pos (P := P) j hj
    obtain ⟨r, hr⟩ : ∃ r, variS P s j = r := ⟨_, rfl⟩
    rw [hr] at hans hv
    have hVj := fun W h => HV.out j W h hj
    rw [hr] at hVj
    have HVj := Lib.hid hVj
    have Hv := Lib.hid hv
    have HRn := Lib.hid hans
    clear hans hv hr hVj hj1
    go_wp2_with fail
    go_at_call 253
    refine (HT.out _ HRd.out).mono ?_
    rintro e w5 ⟨rfl, g1, g2⟩
    have G5 := Lib.hid (show Rd rb s j w5 by simpa using g1)
    have HK5 := Lib.hid (HK.out.trans g2)
    have HO5 := Lib.hid (HO.out.kp g2 hlt)
    clear g1 g2
    go_wp2_with fail
    go_at_call 266
    refine (HVj.out _ G5.out).mono ?_
    rintro e w6 ⟨h1, X, df, A', n, c', m, rfl, h2, hm, hn, h3⟩
    have HK6 := Lib.hid (HK5.out.trans h1)
    have HO6 := Lib.hid (HO5.out.kp h1 hlt)
    have H2 := Lib.hid h2
    have H3 := Lib.hid h3
    have hl6 := h2.lt
    have hs5 := h1.size
    clear h1 h2 h3
    cases r with
    | none =>
      have hR := HRn.out
      dsimp only at hR
      subst hR
      go_wp2
      go_ret2
      exact ⟨HK6.out.alloc (Nat.le_of_lt hl6) _, none, 0, 0, m, rfl, H2.out.alloc _, hm, fun l m h => by cases h⟩
    | some vm =>
      obtain ⟨v, m'⟩ := vm
      obtain ⟨rfl, l, rfl, hln, hpt⟩ := H3.out v m' rfl
      have hv2 := Hv.out _ _ rfl
      have HL := Lib.hid hln
      have HPF := Lib.hid hpt
      have hB7 := bl_ok s m' hm
      have hP7 := fun W (h : Rd rb s m' W) => pass_any endBlank W h (by omega) hm
      have hR := HRn.out
      dsimp only at hR
      obtain ⟨q7, hq7⟩ : ∃ q, bl s m' = q := ⟨_, rfl⟩
      rw [hq7] at hB7 hP7 hR
      rw [dif_pos (show j < q7 ∧ q7 ≤ s.size from ⟨by omega, hB7.2⟩)] at hR
      have HR7 := Lib.hid hR
      have HP7 := Lib.hid hP7
      unfold pt at HP7
      clear hR hln hpt hP7 hq7
      have hn0 : (n : Int) ≤ 4000000 := by omega
      have hacc : (acc.length : Int) ≤ 1000000 := by omega
      obtain ⟨xs6, ho6, hz6⟩ := HO6.out
      have hown1 := (ho6.alloc (.cells #[.string X, .bool df, .slice A' n c'] 281)).alloc (.cells #[.string X, .bool df, .slice A' n c'] 281)
      obtain ⟨xs5, ho5, hz5⟩ := HO5.out
      have Hv5 := Lib.hid (fun k e => ho5.lt k e)
      have hs0 := HK5.out.size
      clear ho6 ho5 hz5
      cases df
      case false =>
        go_wp2_with (at_builtin; refine wpList_append_where _ rfl _ _ 255 rfl w.heap.size 281 i0 (.agg zV) 3 48 Tryz.underlying255 hi0 hz0 hz1 hz2 rfl (by decide) _ _ _ rfl hown1 ⟨w6.heap.size + 1, 0, none⟩ 1 1 [.string X, .bool false, .slice A' n c'] rfl rfl ?c1 ?c2 ?c3 ?c4 ?c5 ?c6 ?_)
        case c1 =>
          intro j u hj
          match j, hj with
          | 0, hj => simp at hj; subst hj; simp [Addr.add]
          | 1, hj => simp at hj; subst hj; simp [Addr.add]
          | 2, hj => simp at hj; subst hj; simp [Addr.add]
        case c2 => intro u hu; simp at hu; rcases hu with rfl | rfl | rfl <;> rfl
        case c3 => unfold maxLen; omega
        case c4 => omega
        case c5 => simp; omega
        case c6 => decide
        intro v' w8 hown' hgrow hwh
        have HO8 := Lib.hid (ownV_push hlt (by omega) hs5 Hv5.out hz6 HPF.out HL.out hown' hgrow (by simpa using hwh))
        have G8 := Lib.hid (((H2.out.alloc _).alloc _).grown hgrow (fun k e => by have := Hv5.out k e; omega))
        have HK8 := Lib.hid (Kp.grown ((HK6.out.alloc (Nat.le_of_lt hl6) _).alloc (by simp; omega) _) hgrow (fun k e => (Hv5.out k e).1) hlt)
        obtain ⟨A2, c2, rfl⟩ := own_slice hown' (by omega)
        clear hown' hgrow hwh
        go_wp2_with fail
        go_at_call 218
        refine (HP7.out _ G8.out).mono ?_
        rintro e w9 ⟨rfl, g1, g2⟩
        have G9 := Lib.hid g1
        have HK9 := Lib.hid (HK8.out.trans g2)
        have HO9 := Lib.hid (HO8.out.kp g2 hlt)
        clear g1 g2
        go_wp2
        go_roundw
        case rel =>
          refine ⟨acc ++ [.mk X false l], q7, A2, c2, ?_, ?_, hB7.2, ?_, HR7, G9, HK9, ?_⟩
          · show Value.slice A2 _ c2 = _
            simp
          · show Value.int .i64 _ = _
            rw [List.countP_append, Hcn.out]
            simp [vaDflt]
          · rw [List.length_append, List.length_singleton]; omega
          · show Hid (OwnV w.heap.size _ (.slice A2 (acc ++ [VA.mk X false l]).length c2) _)
            rw [List.length_append, List.length_singleton]
            exact HO9
        case measure =>
          show s.size - posOf rb _ < s.size - posOf rb wr
          rw [G9.out.pos, Hpos.out]
          omega
      case true =>
        go_wp2_with (at_builtin; refine wpList_append_where _ rfl _ _ 255 rfl w.heap.size 281 i0 (.agg zV) 3 48 Tryz.underlying255 hi0 hz0 hz1 hz2 rfl (by decide) _ _ _ rfl hown1 ⟨w6.heap.size + 1, 0, none⟩ 1 1 [.string X, .bool true, .slice A' n c'] rfl rfl ?c1 ?c2 ?c3 ?c4 ?c5 ?c6 ?_)
        case c1 =>
          intro j u hj
          match j, hj with
          | 0, hj => simp at hj; subst hj; simp [Addr.add]
          | 1, hj => simp at hj; subst hj; simp [Addr.add]
          | 2, hj => simp at hj; subst hj; simp [Addr.add]
        case c2 => intro u hu; simp at hu; rcases hu with rfl | rfl | rfl <;> rfl
        case c3 => unfold maxLen; omega
        case c4 => omega
        case c5 => simp; omega
        case c6 => decide
        intro v' w8 hown' hgrow hwh
        have HO8 := Lib.hid (ownV_push hlt (by omega) hs5 Hv5.out hz6 HPF.out HL.out hown' hgrow (by simpa using hwh))
        have G8 := Lib.hid (((H2.out.alloc _).alloc _).grown hgrow (fun k e => by have := Hv5.out k e; omega))
        have HK8 := Lib.hid (Kp.grown ((HK6.out.alloc (Nat.le_of_lt hl6) _).alloc (by simp; omega) _) hgrow (fun k e => (Hv5.out k e).1) hlt)
        obtain ⟨A2, c2, rfl⟩ := own_slice hown' (by omega)
        clear hown' hgrow hwh
        go_wp2_with fail
        go_at_call 218
        refine (HP7.out _ G8.out).mono ?_
        rintro e w9 ⟨rfl, g1, g2⟩
        have G9 := Lib.hid g1
        have HK9 := Lib.hid (HK8.out.trans g2)
        have HO9 := Lib.hid (HO8.out.kp g2 hlt)
        clear g1 g2
        go_wp2
        go_roundw
        case rel =>
          refine ⟨acc ++ [.mk X true l], q7, A2, c2, ?_, ?_, hB7.2, ?_, HR7, G9, HK9, ?_⟩
          · show Value.slice A2 _ c2 = _
            simp
          · show Value.int .i64 _ = _
            rw [List.countP_append, Hcn.out]
            simp [vaDflt]
          · rw [List.length_append, List.length_singleton]; omega
          · show Hid (OwnV w.heap.size _ (.slice A2 (acc ++ [VA.mk X true l]).length c2) _)
            rw [List.length_append, List.length_singleton]
            exact HO9
        case measure =>
          show s.size - posOf rb _ < s.size - posOf rb wr
          rw [G9.out.pos, Hpos.out]
          omega
end Go.Proofs.YtpgiboblonlddaaGreatDoor

namespace Go.Proofs.YtpgiboblonlddaaGreatDoor
open Go.RowKit
set_option linter.unusedVariables false
set_option linter.unusedSimpArgs false
theorem infoT : (Tryz.prog.info? 128).map (fun i => (i.zero, i.size, i.bytes)) = some (some (.agg #[.string ⟨#[]⟩, .slice none 0 0]), 2, 40) := by kernel_rfl
def TsF (W : World) (F : Nat → Prop) : List AT → Nat → Nat → Prop
  | [], _, _ => True
  | .mk n v :: r, b, o => F b ∧ W.cell? ⟨b, o, none⟩ = some (.string n) ∧ (∃ u, W.cell? ⟨b, o + 1, none⟩ = some u ∧ PatF W F v u) ∧ TsF W F r b (o + 2)
def AtsF (W : World) (F : Nat → Prop) (l : List AT) (v : Value) : Prop := LieAt (TsF W F l) v l.length
theorem TsF.carry {W W' : World} {F F' : Nat → Prop} (g : ∀ b, F b → F' b ∧ W'.heap[b]? = W.heap[b]?) : ∀ (l : List AT) (b o : Nat), TsF W F l b o → TsF W' F' l b o
  | [], b, o, _ => by rw [TsF]; trivial
  | .mk n v :: r, b, o, h => by
    rw [TsF] at h ⊢
    obtain ⟨hb, h1, ⟨u, h2, h3⟩, h4⟩ := h
    exact ⟨(g b hb).1, (cell_same (g b hb).2 _).trans h1, ⟨u, (cell_same (g b hb).2 _).trans h2, h3.carry g⟩, TsF.carry g r b _ h4⟩
theorem AtsF.carry {W W' : World} {F F' : Nat → Prop} (g : ∀ b, F b → F' b ∧ W'.heap[b]? = W.heap[b]?) {l : List AT} {v : Value} (h : AtsF W F l v) : AtsF W' F' l v := LieAt.imp h (fun b o => TsF.carry g l b o)
theorem AtsF.nil (W : World) (F : Nat → Prop) : AtsF W F [] (.slice none 0 0) := ⟨none, 0, rfl, Nat.le_refl _, Nat.zero_le _, fun h => absurd h (by simp)⟩
def TZip (W : World) (F : Nat → Prop) : List AT → List Value → Prop
  | [], xs => xs = []
  | .mk n v :: r, xs => ∃ u ys, xs = .string n :: u :: ys ∧ PatF W F v u ∧ TZip W F r ys
theorem TZip.snoc {W : World} {F : Nat → Prop} {t : ByteArray} {p : List EL} {u : Value} (hp : PatF W F p u) : ∀ (acc : List AT) (xs : List Value), TZip W F acc xs → TZip W F (acc ++ [.mk t p]) (xs ++ [.string t, u])
  | [], xs, h => by
    rw [TZip] at h
    subst h
    exact ⟨u, [], rfl, hp, rfl⟩
  | .mk t' p' :: r, xs, h => by
    rw [TZip] at h
    obtain ⟨u', ys, rfl, h2, h3⟩ := h
    exact ⟨u', _, rfl, h2, TZip.snoc hp r ys h3⟩
theorem TZip.carry {W W' : World} {F F' : Nat → Prop} (g : ∀ b, F b → F' b ∧ W'.heap[b]? = W.heap[b]?) : ∀ (acc : List AT) (xs : List Value), TZip W F acc xs → TZip W' F' acc xs
  | [], xs, h => by rw [TZip] at h ⊢; exact h
  | .mk t' p' :: r, xs, h => by
    rw [TZip] at h
    obtain ⟨u', ys, rfl, h2, h3⟩ := h
    exact ⟨u', ys, rfl, h2.carry g, TZip.carry g r ys h3⟩
theorem TZip.es {W : World} {F : Nat → Prop} {g : Nat} (hg : F g) : ∀ (acc : List AT) (xs : List Value) (o : Nat), (∀ j x, xs[j]? = some x → W.cell? ⟨g, o + j, none⟩ = some x) → TZip W F acc xs → TsF W F acc g o
  | [], xs, o, hc, h => by rw [TsF]; trivial
  | .mk t' p' :: r, xs, o, hc, h => by
    rw [TZip] at h
    obtain ⟨u', ys, rfl, h2, h3⟩ := h
    rw [TsF]
    refine ⟨hg, hc 0 _ rfl, ⟨_, hc 1 _ rfl, h2⟩, TZip.es hg r ys (o + 2) (fun j x hx => ?_) h3⟩
    have := hc (j + 2) x (by simpa using hx)
    rw [show o + 2 + j = o + (j + 2) by omega]
    exact this
def OwnT (B : Nat) (W : World) (v : Value) (acc : List AT) : Prop := ∃ xs, W.ownsRow B 128 2 v acc.length xs ∧ TZip W (OwnSet B W v) acc xs
theorem OwnT.nil (B : Nat) (W : World) : OwnT B W (.slice none 0 0) [] := ⟨[], World.ownsRow_nil _ _ _ _, rfl⟩
theorem OwnT.below {B : Nat} {W W' : World} {v : Value} {acc : List AT} (h : OwnT B W v acc) (g : Below W.heap.size W W') : OwnT B W' v acc := by
  obtain ⟨xs, h1, h2⟩ := h
  refine ⟨xs, h1.kept (⟨g.os, g.tape, g.output, g.size, fun k hk _ => g.block k hk⟩ : W.grownBy W' none) (by by_cases h : v.ownBlock = none; exact .inl h; exact .inr h), TZip.carry (fun b hb => ?_) _ _ h2⟩
  obtain ⟨⟨hb1, hb2⟩, hb3⟩ := hb
  exact ⟨⟨⟨hb1, Nat.lt_of_lt_of_le hb2 g.size⟩, hb3⟩, g.block b hb2⟩
theorem OwnT.push {B : Nat} {w1 W2 W3 : World} {v v' : Value} {acc : List AT} {xs : List Value} {t : ByteArray} {p : List EL} {u : Value} (K : Below w1.heap.size w1 W2) (hz : TZip w1 (OwnSet B w1 v) acc xs) (hp : PatF W2 (OwnSet B W2 v) p u)
    (ho : W3.ownsRow B 128 2 v' (acc.length + 1) (xs ++ [.string t, u])) (hg : W2.grownBy W3 v.ownBlock) (hw : v'.ownBlock = v.ownBlock ∨ v'.ownBlock = some W2.heap.size) : OwnT B W3 v' (acc ++ [.mk t p]) := by
  refine ⟨_, by rw [List.length_append]; exact ho, ?_⟩
  have hz2 : TZip W2 (OwnSet B W2 v) acc xs := TZip.carry (fun b hb => by
    obtain ⟨⟨hb1, hb2⟩, hb3⟩ := hb
    exact ⟨⟨⟨hb1, Nat.lt_of_lt_of_le hb2 K.size⟩, hb3⟩, K.block b hb2⟩) _ _ hz
  have g : ∀ b, OwnSet B W2 v b → OwnSet B W3 v' b ∧ W3.heap[b]? = W2.heap[b]? := fun b hb => by
    obtain ⟨⟨hb1, hb2⟩, hb3⟩ := hb
    refine ⟨⟨⟨hb1, Nat.lt_of_lt_of_le hb2 hg.size⟩, ?_⟩, hg.block b hb2 hb3⟩
    rcases hw with e | e
    · rw [e]; exact hb3
    · rw [e]; intro e2; have := Option.some.inj e2; omega
  exact TZip.carry g _ _ (TZip.snoc hp acc xs hz2)
theorem OwnT.ats {B : Nat} {W : World} {v : Value} {acc : List AT} (h : OwnT B W v acc) : ∃ A c, v = .slice A acc.length c ∧ AtsF W (Since B W) acc v := by
  obtain ⟨xs, h1, h2⟩ := h
  rcases h1.2 with ⟨rfl, h0⟩ | ⟨g, cap, cur, rfl, hb, hg, hc1, hc2, hcs, htk⟩
  · have : acc = [] := List.eq_nil_of_length_eq_zero h0
    subst this
    exact ⟨none, 0, rfl, AtsF.nil _ _⟩
  · refine ⟨_, _, rfl, _, _, rfl, hc1, hc2, fun _ => ⟨g, 0, rfl, TZip.es ⟨hb, (Array.getElem?_eq_some_iff.1 hg).1⟩ acc xs 0 (fun j x hx => ?_) (TZip.carry (fun b hb => ⟨hb.1, rfl⟩) _ _ h2)⟩⟩
    have := h1.cells (g := g) rfl j x hx
    rw [Addr.add_mid] at this
    exact this
theorem named_pos {s : ByteArray} {i : Nat} (hi : i ≤ s.size) {x : ByteArray} {l : List EL} {e : Nat} (h : namedS s i = some (x, l, e)) : i < e ∧ e ≤ s.size := by
  unfold namedS at h
  have h1 := nm_ok s i hi
  have h2 := sp_ge s (nm s i)
  split at h
  · cases h
  · split at h
    · next hc =>
      have h3 := isAt_lt hc
      split at h
      · cases h
      · next hp =>
        have h4 := pat_pos _ h3 _ _ hp
        split at h
        · cases h; omega
        · cases h
    · cases h
theorem attr_pos {s : ByteArray} {i : Nat} (hi : i ≤ s.size) {x : ByteArray} {l : List EL} {e : Nat} (h : attrS s i = some (x, l, e)) : i < e ∧ e ≤ s.size := by
  unfold attrS at h
  have h1 := bl_ok s i hi
  split at h
  · next hc =>
    rw [Bool.and_eq_true] at hc
    have h2 := isAt_lt hc.1
    split at h
    · cases h
    · next hn =>
      have h3 := named_pos h2 hn
      split at h
      · cases h
      · cases h; omega
  · cases h
set_option maxHeartbeats 4000000 in
set_option maxRecDepth 100000 in
theorem attrs_call {s : ByteArray} (hPC : PatCall s) (hs : s.size ≤ 1000000) (i : Nat) (h1i : 1 ≤ i) (hi : i ≤ s.size) (w : World) : Calls Tryz.prog 140 #[.string s, .int .i64 i] w fun e w' =>
    Below w.heap.size w w' ∧ ∃ (A : Option Addr) (n c : Nat), e = .returned (.tuple #[.slice A n c, .int .i64 ((atsS s [] i).2 : Nat)]) ∧ (atsS s [] i).2 ≤ s.size ∧ i ≤ (atsS s [] i).2 ∧ (atsS s [] i).1.length = n ∧ n ≤ s.size ∧ AtsF w' (Since w.heap.size w') (atsS s [] i).1 (.slice A n c) := by
  obtain ⟨i0, hi0, hz0, hz1, hz2⟩ := info_parts infoT
  obtain ⟨RL, hRL⟩ : ∃ R, atsS s [] i = R := ⟨_, rfl⟩
  rw [hRL]
  have HR := Lib.hid hRL
  have HA := Lib.hid (fun j W (h1 : 1 ≤ j) (hj : j ≤ s.size) => attr_call hPC hs j h1 hj W)
  clear hRL
  go_enter Tryz.func140, Tryz.ntmps140
  go_wp2
  go_loopw [1, 6] (fun t1 t6 wr => ∃ (acc : List AT) (j : Nat) (A : Option Addr) (c : Nat), t1 = .int .i64 j ∧ t6 = .slice A acc.length c ∧ i ≤ j ∧ j ≤ s.size ∧ acc.length ≤ j ∧ Hid (atsS s acc j = RL) ∧ Hid (Below w.heap.size w wr) ∧ Hid (OwnT w.heap.size wr (.slice A acc.length c) acc)) (fun t1 _ _ => s.size - (intOf t1).toNat)
  case atStart => exact ⟨[], i, none, 0, rfl, rfl, Nat.le_refl _, hi, Nat.zero_le _, HR, Below.refl _ _, OwnT.nil _ _⟩
  case round =>
    obtain ⟨acc, j, A, c, rfl, rfl, hij, hj, hal, Hans, HBel, HO⟩ := hrel
    have hj0 : (j : Int) ≤ 1000000 := by omega
    have hA := fun W => HA.out j W (by omega) hj
    have hans := Hans.out
    rw [atsS] at hans
    have hpos := fun x l e h => attr_pos hj (x := x) (l := l) (e := e) h
    obtain ⟨r, hr⟩ : ∃ r, attrS s j = r := ⟨_, rfl⟩
    rw [hr] at hA hans hpos
    have HAj := Lib.hid hA
    have Hans2 := Lib.hid hans
    have Hpos := Lib.hid hpos
    clear hA hans hr hpos
    go_wp2_with fail
    go_at_call 168
    refine (HAj.out _).mono ?_
    rintro e w1 ⟨hb1, X, A', n, c', m, rfl, hm, hn4, h3⟩
    have HB1 := Lib.hid (HBel.out.trans (hb1.mono HBel.out.size))
    have HO1 := Lib.hid (HO.out.below hb1)
    have H3 := Lib.hid h3
    have hs1 := hb1.size
    have hs0 := HBel.out.size
    clear hb1 h3
    cases r with
    | none =>
      have hR := Hans2.out
      dsimp only at hR
      subst hR
      have HR' := Lib.hid HR.out
      go_wp2
      refine bodyPost_ret (v := .tuple #[.slice A acc.length c, .int .i64 j]) (by simp [results, Tryz.results140, go_sem]) rfl ?_
      obtain ⟨A2, c2, e2, hats⟩ := HO1.out.ats
      refine ⟨HB1.out.alloc (by omega) _, A, acc.length, c, rfl, rfl, by omega, AtsF.carry (fun b hb => ⟨⟨hb.1, by rw [World.size_alloc]; have := hb.2; omega⟩, Lib.alloc_old _ _ b hb.2⟩) hats⟩
    | some v =>
      obtain ⟨x, l, e⟩ := v
      obtain ⟨rfl, rfl, rfl, hpat⟩ := H3.out x l e rfl
      obtain ⟨hp1, hp2⟩ := Hpos.out _ _ _ rfl
      have hR := Hans2.out
      dsimp only at hR
      rw [dif_pos ⟨hp1, hp2⟩] at hR
      have Hans3 := Lib.hid hR
      obtain ⟨xs6, ho6, hz6⟩ := HO1.out
      obtain ⟨xs5, ho5, _⟩ := HO.out
      have Hv5 := Lib.hid (fun k e => ho5.lt k e)
      have HZ6 := Lib.hid hz6
      have HPat := Lib.hid hpat
      have hown1 := (ho6.alloc (.cells #[.string x, .slice A' l.length c'] 128)).alloc (.cells #[.string x, .slice A' l.length c'] 128)
      have hacc : (acc.length : Int) ≤ 1000000 := by omega
      clear ho6 ho5 hR hz6 hpat
      go_wp2_with (at_builtin; refine wpList_append_where _ rfl _ _ 87 rfl w.heap.size 128 i0 (.agg #[.string ⟨#[]⟩, .slice none 0 0]) 2 40 Tryz.underlying87 hi0 hz0 hz1 hz2 rfl (by decide) _ _ _ rfl hown1 ⟨w1.heap.size + 1, 0, none⟩ 1 1 [.string x, .slice A' l.length c'] rfl rfl ?c1 ?c2 ?c3 ?c4 ?c5 ?c6 ?_)
      case c1 =>
        intro j u hj
        match j, hj with
        | 0, hj => simp at hj; subst hj; simp [Addr.add] <;> rfl
        | 1, hj => simp at hj; subst hj; simp [Addr.add]
      case c2 => intro u hu; simp at hu; rcases hu with rfl | rfl <;> rfl
      case c3 => unfold maxLen; omega
      case c4 => omega
      case c5 => simp; omega
      case c6 => decide
      intro v' w8 hown' hgrow hwh
      have K1 : Below w1.heap.size w1 ((w1.alloc (.cells #[.string x, .slice A' l.length c'] 128)).alloc (.cells #[.string x, .slice A' l.length c'] 128)) := ((Below.refl _ _).alloc (Nat.le_refl _) _).alloc (by simp) _
      have hpo : PatF ((w1.alloc (.cells #[.string x, .slice A' l.length c'] 128)).alloc (.cells #[.string x, .slice A' l.length c'] 128)) (OwnSet w.heap.size ((w1.alloc (.cells #[.string x, .slice A' l.length c'] 128)).alloc (.cells #[.string x, .slice A' l.length c'] 128)) (.slice A acc.length c)) l (.slice A' l.length c') :=
        PatF.carry (fun b hb => ⟨⟨⟨by have := hb.1; omega, by rw [World.size_alloc, World.size_alloc]; have := hb.2; omega⟩, fun e => by have := Hv5.out b e.symm; have := hb.1; omega⟩, K1.block b hb.2⟩) HPat.out
      have HO8 := Lib.hid (OwnT.push K1 HZ6.out hpo hown' hgrow (by simpa using hwh))
      have HB8 := Lib.hid ((HB1.out.trans (K1.mono (by omega))).grown hgrow (by simp; omega) (fun k e => (Hv5.out k e).1))
      obtain ⟨A3, c3, rfl⟩ := own_slice hown' (by omega)
      clear hown' hgrow hwh K1 hpo
      go_wp2
      go_roundw
      case rel =>
        refine ⟨acc ++ [.mk x l], e, A3, c3, rfl, ?_, by omega, hp2, ?_, Hans3, HB8, ?_⟩
        · show Value.slice A3 _ c3 = _
          simp
        · rw [List.length_append, List.length_singleton]; omega
        · rw [List.length_append, List.length_singleton]
          exact HO8
      case measure => simp [intOf]; omega
end Go.Proofs.YtpgiboblonlddaaGreatDoor
