/-
  Several texts put together (part 20): what the law and the program call, walked; their contracts.
-/
import Derived.Test.YtamghpleajbonaaGreatDoorQ19
namespace Go.Proofs.YtamghpleajbonaaGreatDoor
open Go.RowKit
set_option linter.unusedVariables false
set_option linter.unusedSimpArgs false
theorem infoEn : (Tryz.prog.info? 26).map (fun i => (i.zero, i.size, i.bytes)) = some (some (.agg #[.int .i64 0, .int .i64 0, .string ⟨#[]⟩, .string ⟨#[]⟩, .slice none 0 0, .slice none 0 0, .int .i64 0, .int .i64 0]), 8, 112) := by kernel_rfl
def NsF (W : World) (F : Nat → Prop) : List EN → Nat → Nat → Prop
  | [], _, _ => True
  | x :: r, b, o => F b ∧ (∃ (A : Option Addr) (c : Nat) (B : Option Addr) (d : Nat), W.cell? ⟨b, o, none⟩ = some (.int .i64 x.ty) ∧ W.cell? ⟨b, o + 1, none⟩ = some (.int .i64 x.lv) ∧ W.cell? ⟨b, o + 2, none⟩ = some (.string x.tx) ∧ W.cell? ⟨b, o + 3, none⟩ = some (.string x.nm) ∧
      W.cell? ⟨b, o + 4, none⟩ = some (.slice A x.val.length c) ∧ W.cell? ⟨b, o + 5, none⟩ = some (.slice B x.ats.length d) ∧ W.cell? ⟨b, o + 6, none⟩ = some (.int .i64 x.fr) ∧ W.cell? ⟨b, o + 7, none⟩ = some (.int .i64 x.tu) ∧
      PatF W F x.val (.slice A x.val.length c) ∧ AtsF W F x.ats (.slice B x.ats.length d)) ∧ NsF W F r b (o + 8)
theorem NsF.carry {W W' : World} {F F' : Nat → Prop} (g : ∀ b, F b → F' b ∧ W'.heap[b]? = W.heap[b]?) : ∀ (l : List EN) (b o : Nat), NsF W F l b o → NsF W' F' l b o
  | [], b, o, _ => by rw [NsF]; trivial
  | x :: r, b, o, h => by
    rw [NsF] at h ⊢
    obtain ⟨hb, ⟨A, c, B, d, h0, h1, h2, h3, h4, h5, h6, h7, h8, h9⟩, hr⟩ := h
    have e := (g b hb).2
    exact ⟨(g b hb).1, ⟨A, c, B, d, (cell_same e _).trans h0, (cell_same e _).trans h1, (cell_same e _).trans h2, (cell_same e _).trans h3, (cell_same e _).trans h4, (cell_same e _).trans h5, (cell_same e _).trans h6, (cell_same e _).trans h7, h8.carry g, h9.carry g⟩, NsF.carry g r b _ hr⟩
def NZip (W : World) (F : Nat → Prop) : List EN → List Value → Prop
  | [], xs => xs = []
  | x :: r, xs => ∃ (A : Option Addr) (c : Nat) (B : Option Addr) (d : Nat) (ys : List Value), xs = .int .i64 x.ty :: .int .i64 x.lv :: .string x.tx :: .string x.nm :: .slice A x.val.length c :: .slice B x.ats.length d :: .int .i64 x.fr :: .int .i64 x.tu :: ys ∧
      PatF W F x.val (.slice A x.val.length c) ∧ AtsF W F x.ats (.slice B x.ats.length d) ∧ NZip W F r ys
theorem NZip.snoc {W : World} {F : Nat → Prop} {x : EN} {A : Option Addr} {c : Nat} {B : Option Addr} {d : Nat} (hp : PatF W F x.val (.slice A x.val.length c)) (hq : AtsF W F x.ats (.slice B x.ats.length d)) : ∀ (acc : List EN) (xs : List Value), NZip W F acc xs →
    NZip W F (acc ++ [x]) (xs ++ [.int .i64 x.ty, .int .i64 x.lv, .string x.tx, .string x.nm, .slice A x.val.length c, .slice B x.ats.length d, .int .i64 x.fr, .int .i64 x.tu])
  | [], xs, h => by
    rw [NZip] at h
    subst h
    exact ⟨A, c, B, d, [], rfl, hp, hq, rfl⟩
  | y :: r, xs, h => by
    rw [NZip] at h
    obtain ⟨A', c', B', d', ys, rfl, h2, h3, h4⟩ := h
    exact ⟨A', c', B', d', _, rfl, h2, h3, NZip.snoc hp hq r ys h4⟩
theorem NZip.carry {W W' : World} {F F' : Nat → Prop} (g : ∀ b, F b → F' b ∧ W'.heap[b]? = W.heap[b]?) : ∀ (acc : List EN) (xs : List Value), NZip W F acc xs → NZip W' F' acc xs
  | [], xs, h => by rw [NZip] at h ⊢; exact h
  | y :: r, xs, h => by
    rw [NZip] at h
    obtain ⟨A', c', B', d', ys, rfl, h2, h3, h4⟩ := h
    exact ⟨A', c', B', d', ys, rfl, h2.carry g, h3.carry g, NZip.carry g r ys h4⟩
theorem NZip.ns {W : World} {F : Nat → Prop} {g : Nat} (hg : F g) : ∀ (acc : List EN) (xs : List Value) (o : Nat), (∀ j x, xs[j]? = some x → W.cell? ⟨g, o + j, none⟩ = some x) → NZip W F acc xs → NsF W F acc g o
  | [], xs, o, hc, h => by rw [NsF]; trivial
  | y :: r, xs, o, hc, h => by
    rw [NZip] at h
    obtain ⟨A', c', B', d', ys, rfl, h2, h3, h4⟩ := h
    rw [NsF]
    refine ⟨hg, ⟨A', c', B', d', hc 0 _ rfl, hc 1 _ rfl, hc 2 _ rfl, hc 3 _ rfl, hc 4 _ rfl, hc 5 _ rfl, hc 6 _ rfl, hc 7 _ rfl, h2, h3⟩, NZip.ns hg r ys (o + 8) (fun j x hx => ?_) h4⟩
    have := hc (j + 8) x (by simpa using hx)
    rw [show o + 8 + j = o + (j + 8) by omega]
    exact this
def OwnN (B : Nat) (W : World) (v : Value) (acc : List EN) : Prop := ∃ xs, W.ownsRow B 26 8 v acc.length xs ∧ NZip W (OwnSet B W v) acc xs
theorem OwnN.nil (B : Nat) (W : World) : OwnN B W (.slice none 0 0) [] := ⟨[], World.ownsRow_nil _ _ _ _, rfl⟩
theorem OwnN.below {B : Nat} {W W' : World} {v : Value} {acc : List EN} (h : OwnN B W v acc) (g : Below W.heap.size W W') : OwnN B W' v acc := by
  obtain ⟨xs, h1, h2⟩ := h
  refine ⟨xs, h1.kept (⟨g.os, g.tape, g.output, g.size, fun k hk _ => g.block k hk⟩ : W.grownBy W' none) (by by_cases h : v.ownBlock = none; exact .inl h; exact .inr h), NZip.carry (fun b hb => ?_) _ _ h2⟩
  obtain ⟨⟨hb1, hb2⟩, hb3⟩ := hb
  exact ⟨⟨⟨hb1, Nat.lt_of_lt_of_le hb2 g.size⟩, hb3⟩, g.block b hb2⟩
theorem OwnN.push {B : Nat} {w1 W2 W3 : World} {v v' : Value} {acc : List EN} {xs : List Value} {x : EN} {A' : Option Addr} {c' : Nat} {B' : Option Addr} {d' : Nat} (K : Below w1.heap.size w1 W2) (hz : NZip w1 (OwnSet B w1 v) acc xs)
    (hp : PatF W2 (OwnSet B W2 v) x.val (.slice A' x.val.length c')) (hq : AtsF W2 (OwnSet B W2 v) x.ats (.slice B' x.ats.length d'))
    (ho : W3.ownsRow B 26 8 v' (acc.length + 1) (xs ++ [.int .i64 x.ty, .int .i64 x.lv, .string x.tx, .string x.nm, .slice A' x.val.length c', .slice B' x.ats.length d', .int .i64 x.fr, .int .i64 x.tu])) (hg : W2.grownBy W3 v.ownBlock) (hw : v'.ownBlock = v.ownBlock ∨ v'.ownBlock = some W2.heap.size) : OwnN B W3 v' (acc ++ [x]) := by
  refine ⟨_, by rw [List.length_append]; exact ho, ?_⟩
  have hz2 : NZip W2 (OwnSet B W2 v) acc xs := NZip.carry (fun b hb => by
    obtain ⟨⟨hb1, hb2⟩, hb3⟩ := hb
    exact ⟨⟨⟨hb1, Nat.lt_of_lt_of_le hb2 K.size⟩, hb3⟩, K.block b hb2⟩) _ _ hz
  have g : ∀ b, OwnSet B W2 v b → OwnSet B W3 v' b ∧ W3.heap[b]? = W2.heap[b]? := fun b hb => by
    obtain ⟨⟨hb1, hb2⟩, hb3⟩ := hb
    refine ⟨⟨⟨hb1, Nat.lt_of_lt_of_le hb2 hg.size⟩, ?_⟩, hg.block b hb2 hb3⟩
    rcases hw with e | e
    · rw [e]; exact hb3
    · rw [e]; intro e2; have := Option.some.inj e2; omega
  exact NZip.carry g _ _ (NZip.snoc hp hq acc xs hz2)
def ListF (W : World) (F : Nat → Prop) (l : List EN) (v : Value) : Prop := LieAt (NsF W F l) v l.length
theorem OwnN.list {B : Nat} {W : World} {v : Value} {acc : List EN} (h : OwnN B W v acc) : ∃ A c, v = .slice A acc.length c ∧ ListF W (Since B W) acc v := by
  obtain ⟨xs, h1, h2⟩ := h
  rcases h1.2 with ⟨rfl, h0⟩ | ⟨g, cap, cur, rfl, hb, hg, hc1, hc2, hcs, htk⟩
  · have : acc = [] := List.eq_nil_of_length_eq_zero h0
    subst this
    exact ⟨none, 0, rfl, none, 0, rfl, Nat.le_refl _, Nat.zero_le _, fun h => absurd h (by simp)⟩
  · refine ⟨_, _, rfl, _, _, rfl, hc1, hc2, fun _ => ⟨g, 0, rfl, NZip.ns ⟨hb, (Array.getElem?_eq_some_iff.1 hg).1⟩ acc xs 0 (fun j x hx => ?_) (NZip.carry (fun b hb => ⟨hb.1, rfl⟩) _ _ h2)⟩⟩
    have := h1.cells (g := g) rfl j x hx
    rw [Addr.add_mid] at this
    exact this
end Go.Proofs.YtamghpleajbonaaGreatDoor

namespace Go.Proofs.YtamghpleajbonaaGreatDoor
open Go.RowKit
set_option linter.unusedVariables false
set_option linter.unusedSimpArgs false
theorem comGo_pos (s : ByteArray) (lv : Nat) : ∀ (n : Nat) (acc : List ByteArray) (k : Nat) (x : ByteArray), s.size - k ≤ n → k < s.size → k < (comGo s lv acc k x).2 ∧ (comGo s lv acc k x).2 ≤ s.size
  | 0, acc, k, x, hn, hk => by omega
  | n + 1, acc, k, x, hn, hk => by
    have hb := beh_ok s k (Nat.le_of_lt hk)
    have hb2 := hb.2.2 hk
    rw [comGo]
    split
    · next h =>
      by_cases h2 : beh s k < s.size
      · have := comGo_pos s lv n (acc ++ [x]) (beh s k) (comL s (beh s k)).2 (by omega) h2
        omega
      · have he : beh s k = s.size := by omega
        have hl : (comL s (beh s k)).1 = 0 := by
          by_cases h3 : (comL s (beh s k)).1 = 0
          · exact h3
          · have := com_lt s (beh s k) hb.2.1 h3; omega
        rw [comGo]
        have hbb := beh_ok s (beh s k) hb.2.1
        rw [dif_neg (by omega)]
        dsimp only
        omega
    · dsimp only; omega
theorem atsS_pos (s : ByteArray) : ∀ (n : Nat) (acc : List AT) (k : Nat), s.size - k ≤ n → k ≤ s.size → k ≤ (atsS s acc k).2 ∧ (atsS s acc k).2 ≤ s.size
  | n, acc, k, hn, hk => by
    rw [atsS]
    split
    · exact ⟨Nat.le_refl _, hk⟩
    · next x l e h =>
      split
      · next h2 =>
        cases n with
        | zero => omega
        | succ n =>
          have := atsS_pos s n (acc ++ [.mk x l]) e (by omega) h2.2
          omega
      · exact ⟨Nat.le_refl _, hk⟩
theorem junkTo_pos (s : ByteArray) : ∀ (n k : Nat), s.size - k ≤ n → k ≤ s.size → k ≤ junkTo s k ∧ junkTo s k ≤ s.size
  | n, k, hn, hk => by
    rw [junkTo]
    split
    · split
      · next h2 =>
        have hb := beh_ok s k hk
        cases n with
        | zero => omega
        | succ n =>
          have := junkTo_pos s n (beh s k) (by omega) hb.2.1
          omega
      · exact ⟨Nat.le_refl _, hk⟩
    · exact ⟨Nat.le_refl _, hk⟩
theorem passE_pos (s : ByteArray) : ∀ (n k : Nat), s.size - k ≤ n → k ≤ s.size → k ≤ passE s k ∧ passE s k ≤ s.size
  | n, k, hn, hk => by
    by_cases hlt : k < s.size
    · by_cases h : sp s k < s.size ∧ isAt s (sp s k) 10 = false
      · rw [passE, dif_pos hlt, if_pos h]; exact ⟨Nat.le_refl _, hk⟩
      · obtain ⟨h1, h2, h3⟩ := passE_go s k hlt h
        rw [h1]
        cases n with
        | zero => omega
        | succ n =>
          have := passE_pos s n (beh s (sp s k)) (by omega) h3
          omega
    · rw [passE, dif_neg hlt]; exact ⟨Nat.le_refl _, hk⟩
theorem msg_pos {s : ByteArray} {i : Nat} (hi : i < s.size) {x : EN} (h : msgS s i = some x) : i < x.tu ∧ x.tu ≤ s.size ∧ x.fr = i := by
  unfold msgS at h
  obtain ⟨q, hq⟩ : ∃ q, (if isAt s i 45 = true then i + 1 else i) = q := ⟨_, rfl⟩
  rw [hq] at h
  have hq1 : i ≤ q ∧ q ≤ s.size := by split at hq <;> omega
  split at h
  · cases h
  · next y l e hn =>
    have h1 := named_pos hq1.2 hn
    split at h
    · cases h
      have h2 := atsS_pos s s.size [] e (by omega) h1.2
      have h3 := beh_ok s (atsS s [] e).2 h2.2
      dsimp only
      exact ⟨by omega, h3.2.1, rfl⟩
    · cases h
theorem read_pos {s : ByteArray} {i : Nat} (hi : i < s.size) : i < (readS s i).tu ∧ (readS s i).tu ≤ s.size ∧ (readS s i).fr = i := by
  unfold readS
  split
  · next x h =>
    unfold comS at h
    split at h
    · cases h
    · cases h
      have := comGo_pos s (comL s i).1 s.size [] i (comL s i).2 (by omega) hi
      exact ⟨this.1, this.2, rfl⟩
  · split
    · next x h => exact msg_pos hi h
    · have h1 := beh_ok s i (Nat.le_of_lt hi)
      have h2 := junkTo_pos s s.size (beh s i) (by omega) h1.2.1
      exact ⟨by show i < junkTo s (beh s i); have := h1.2.2 hi; omega, h2.2, rfl⟩
theorem parseGo_step (s : ByteArray) (acc : List EN) (i : Nat) (hi : i < s.size) : parseGo s acc i = parseGo s (acc ++ [readS s i]) (passE s (readS s i).tu) ∧ i < passE s (readS s i).tu ∧ passE s (readS s i).tu ≤ s.size := by
  have h1 := read_pos hi
  have h2 := passE_pos s s.size (readS s i).tu (by omega) h1.2.1
  refine ⟨?_, by omega, h2.2⟩
  rw [parseGo, dif_pos ⟨hi, by omega⟩]
theorem parseGo_end (s : ByteArray) (acc : List EN) (i : Nat) (hi : ¬ i < s.size) : parseGo s acc i = acc := by
  rw [parseGo, dif_neg (fun h => hi h.1)]
def GotEs (w : World) (l : List EN) (e : Ending) (w' : World) : Prop :=
  Below w.heap.size w w' ∧ ∃ (A : Option Addr) (c : Nat), e = .returned (.slice A l.length c) ∧ ListF w' (Since w.heap.size w') l (.slice A l.length c)
set_option maxHeartbeats 4000000 in
set_option maxRecDepth 100000 in
theorem parse_call {s : ByteArray} (hPC : PatCall s) (hs : s.size ≤ 1000000) (w : World) : Calls Tryz.prog 16 #[.string s] w (GotEs w (parseS s)) := by
  obtain ⟨i0, hi0, hz0, hz1, hz2⟩ := info_parts infoEn
  obtain ⟨RL, hRL⟩ : ∃ R, parseS s = R := ⟨_, rfl⟩
  rw [hRL]
  unfold parseS at hRL
  have hp0 := passE_pos s s.size 0 (by omega) (Nat.zero_le _)
  have hPE := fun W => passEmpty_any s 0 (by omega) (Nat.zero_le _) W
  obtain ⟨k0, hk0⟩ : ∃ k, passE s 0 = k := ⟨_, rfl⟩
  rw [hk0] at hRL hp0 hPE
  have HR := Lib.hid hRL
  have HPE0 := Lib.hid (show ∀ W, _ from hPE)
  have HPE := Lib.hid (fun j W (hj : j ≤ s.size) => passEmpty_any s j (by omega) hj W)
  have HRd := Lib.hid (fun j W (hj : j < s.size) => read_call hPC hs j hj W)
  have hss : (s.size : Int) ≤ 1000000 := by omega
  clear hRL hk0 hPE hPC
  go_enter Tryz.func16, Tryz.ntmps16
  go_wp2_with fail
  go_at_call 28
  refine (HPE0.out _).mono ?_
  rintro e w1 ⟨rfl, hb1⟩
  have HB1 := Lib.hid hb1
  clear hb1
  go_wp2
  go_loopw [3, 4] (fun t3 t4 wr => ∃ (acc : List EN) (k : Nat) (A : Option Addr) (c : Nat), t3 = .slice A acc.length c ∧ t4 = .int .i64 k ∧ k ≤ s.size ∧ acc.length ≤ k ∧ Hid (parseGo s acc k = RL) ∧ Hid (Below w.heap.size w wr) ∧ Hid (OwnN w.heap.size wr (.slice A acc.length c) acc)) (fun _ t4 _ => s.size - (intOf t4).toNat)
  case atStart => exact ⟨[], k0, none, 0, rfl, rfl, hp0.2, Nat.zero_le _, HR, HB1, OwnN.nil _ _⟩
  case round =>
    obtain ⟨acc, k, A, c, rfl, rfl, hk, hac, HG, HBel, HO⟩ := hrel
    have hk1 : (k : Int) ≤ 1000000 := by omega
    have hacI : (acc.length : Int) ≤ 1000000 := by omega
    by_cases hlt : k < s.size
    · have d1 : decide ((k : Int) < (s.size : Int)) = true := decide_eq_true (by omega)
      have d2 : (k : Int) < (s.size : Int) := by omega
      have hr := fun W => HRd.out k W hlt
      obtain ⟨g1, g2, g3⟩ := parseGo_step s acc k hlt
      have hpos := read_pos hlt
      have hpe := fun W => HPE.out (readS s k).tu W hpos.2.1
      obtain ⟨x, hx⟩ : ∃ x, readS s k = x := ⟨_, rfl⟩
      rw [hx] at hr g1 g2 g3 hpe hpos
      obtain ⟨nx, hnx⟩ : ∃ n, passE s x.tu = n := ⟨_, rfl⟩
      rw [hnx] at g1 g2 g3 hpe
      have HRk := Lib.hid hr
      have HPk := Lib.hid hpe
      have HG1 := Lib.hid (g1.symm.trans HG.out)
      obtain ⟨hp1, hp2, hp3⟩ := hpos
      clear hp3
      clear hr g1 hpe hx hnx
      go_wp2_with fail
      go_at_call 29
      refine (HRk.out _).mono ?_
      rintro e w2 ⟨hb2, v, rfl, A', c', B', d', rfl, hp, hq⟩
      have HB2 := Lib.hid (HBel.out.trans (hb2.mono HBel.out.size))
      have HO2 := Lib.hid (HO.out.below hb2)
      have HPt := Lib.hid hp
      have HQt := Lib.hid hq
      have hs2 := hb2.size
      have hs0 := HBel.out.size
      clear hb2 hp hq
      obtain ⟨xs6, ho6, hz6⟩ := HO2.out
      obtain ⟨xs5, ho5, _⟩ := HO.out
      have Hv5 := Lib.hid (fun k e => ho5.lt k e)
      have HZ6 := Lib.hid hz6
      have hto : ((x.tu : Nat) : Int) ≤ 1000000 := by omega
      have hown1 := (ho6.alloc (.cells #[.int .i64 x.ty, .int .i64 x.lv, .string x.tx, .string x.nm, .slice A' x.val.length c', .slice B' x.ats.length d', .int .i64 x.fr, .int .i64 x.tu] 26)).alloc (.cells #[.int .i64 x.ty, .int .i64 x.lv, .string x.tx, .string x.nm, .slice A' x.val.length c', .slice B' x.ats.length d', .int .i64 x.fr, .int .i64 x.tu] 26)
      have hbox : BoxAt ((w2.alloc (.cells #[.int .i64 x.ty, .int .i64 x.lv, .string x.tx, .string x.nm, .slice A' x.val.length c', .slice B' x.ats.length d', .int .i64 x.fr, .int .i64 x.tu] 26)).alloc (.cells #[.int .i64 x.ty, .int .i64 x.lv, .string x.tx, .string x.nm, .slice A' x.val.length c', .slice B' x.ats.length d', .int .i64 x.fr, .int .i64 x.tu] 26)) w2.heap.size #[.int .i64 x.ty, .int .i64 x.lv, .string x.tx, .string x.nm, .slice A' x.val.length c', .slice B' x.ats.length d', .int .i64 x.fr, .int .i64 x.tu] 26 := (BoxAt.new _ _ _).alloc _
      have hnew : BoxAt ((w2.alloc (.cells #[.int .i64 x.ty, .int .i64 x.lv, .string x.tx, .string x.nm, .slice A' x.val.length c', .slice B' x.ats.length d', .int .i64 x.fr, .int .i64 x.tu] 26)).alloc (.cells #[.int .i64 x.ty, .int .i64 x.lv, .string x.tx, .string x.nm, .slice A' x.val.length c', .slice B' x.ats.length d', .int .i64 x.fr, .int .i64 x.tu] 26)) (w2.heap.size + 1) #[.int .i64 x.ty, .int .i64 x.lv, .string x.tx, .string x.nm, .slice A' x.val.length c', .slice B' x.ats.length d', .int .i64 x.fr, .int .i64 x.tu] 26 := BoxAt.new' _ _ _ _ (by simp)
      obtain ⟨r0, r1, r2, r3, r4, r5, r6, r7, f0, f1, f2, f3, f4, f5, f6, f7⟩ := cellsE (BoxAt.new w2 #[.int .i64 x.ty, .int .i64 x.lv, .string x.tx, .string x.nm, .slice A' x.val.length c', .slice B' x.ats.length d', .int .i64 x.fr, .int .i64 x.tu] 26)
      have Hbox := Lib.hid hbox
      have Hnew := Lib.hid hnew
      clear ho6 ho5 hz6 hbox hnew
      unfold entV
      go_wp2_with (at_builtin; refine wpList_append_where _ rfl _ _ 52 rfl w.heap.size 26 i0 (.agg #[.int .i64 0, .int .i64 0, .string ⟨#[]⟩, .string ⟨#[]⟩, .slice none 0 0, .slice none 0 0, .int .i64 0, .int .i64 0]) 8 112 Tryz.underlying52 hi0 hz0 hz1 hz2 rfl (by decide) _ _ _ rfl hown1 ⟨w2.heap.size + 1, 0, none⟩ 1 1 [.int .i64 x.ty, .int .i64 x.lv, .string x.tx, .string x.nm, .slice A' x.val.length c', .slice B' x.ats.length d', .int .i64 x.fr, .int .i64 x.tu] rfl rfl ?c1 ?c2 ?c3 ?c4 ?c5 ?c6 ?_)
      case c1 =>
        intro j u hj
        match j, hj with
        | 0, hj => simp at hj; subst hj; exact Hnew.out.cell 0
        | 1, hj => simp at hj; subst hj; exact Hnew.out.cell 1
        | 2, hj => simp at hj; subst hj; exact Hnew.out.cell 2
        | 3, hj => simp at hj; subst hj; exact Hnew.out.cell 3
        | 4, hj => simp at hj; subst hj; exact Hnew.out.cell 4
        | 5, hj => simp at hj; subst hj; exact Hnew.out.cell 5
        | 6, hj => simp at hj; subst hj; exact Hnew.out.cell 6
        | 7, hj => simp at hj; subst hj; exact Hnew.out.cell 7
      case c2 => intro u hu; simp at hu; rcases hu with rfl | rfl | rfl | rfl | rfl | rfl | rfl | rfl <;> rfl
      case c3 => unfold maxLen; omega
      case c4 => omega
      case c5 => simp; omega
      case c6 => decide
      intro v' w8 hown' hgrow hwh
      have K1 : Below w2.heap.size w2 ((w2.alloc (.cells #[.int .i64 x.ty, .int .i64 x.lv, .string x.tx, .string x.nm, .slice A' x.val.length c', .slice B' x.ats.length d', .int .i64 x.fr, .int .i64 x.tu] 26)).alloc (.cells #[.int .i64 x.ty, .int .i64 x.lv, .string x.tx, .string x.nm, .slice A' x.val.length c', .slice B' x.ats.length d', .int .i64 x.fr, .int .i64 x.tu] 26)) := ((Below.refl _ _).alloc (Nat.le_refl _) _).alloc (by simp) _
      generalize hW2 : ((w2.alloc (.cells #[.int .i64 x.ty, .int .i64 x.lv, .string x.tx, .string x.nm, .slice A' x.val.length c', .slice B' x.ats.length d', .int .i64 x.fr, .int .i64 x.tu] 26)).alloc (.cells #[.int .i64 x.ty, .int .i64 x.lv, .string x.tx, .string x.nm, .slice A' x.val.length c', .slice B' x.ats.length d', .int .i64 x.fr, .int .i64 x.tu] 26)) = W2 at *
      have hW2s : W2.heap.size = w2.heap.size + 2 := by rw [← hW2]; simp
      have hcar : ∀ b, Since wr.heap.size w2 b → OwnSet w.heap.size W2 (.slice A acc.length c) b ∧ W2.heap[b]? = w2.heap[b]? := fun b hb => ⟨⟨⟨by have := hb.1; omega, by have := hb.2; omega⟩, fun e => by have := Hv5.out b e.symm; have := hb.1; omega⟩, K1.block b hb.2⟩
      have HO8 := Lib.hid (OwnN.push K1 HZ6.out (HPt.out.carry hcar) (HQt.out.carry hcar) hown' hgrow (by simpa [hW2s] using hwh))
      have HB8 := Lib.hid ((HB2.out.trans (K1.mono (by omega))).grown hgrow (by omega) (fun k e => (Hv5.out k e).1))
      have hb8 : BoxAt w8 w2.heap.size #[.int .i64 x.ty, .int .i64 x.lv, .string x.tx, .string x.nm, .slice A' x.val.length c', .slice B' x.ats.length d', .int .i64 x.fr, .int .i64 x.tu] 26 := (hgrow.block w2.heap.size (by omega) (fun e => by have := (Hv5.out _ e.symm).2; omega)).trans Hbox.out
      obtain ⟨A3, c3, rfl⟩ := own_slice hown' (by omega)
      obtain ⟨q0, q1, q2, q3, q4, q5, q6, q7, p0, p1, p2, p3, p4, p5, p6, p7⟩ := cellsE hb8
      have hl8 := hb8.lt
      clear hown' hgrow hwh K1 hcar hb8 hW2 hW2s hown1 r0 r1 r2 r3 r4 r5 r6 r7 f0 f1 f2 f3 f4 f5 f6 f7
      go_wp2_with fail
      go_at_call 28
      refine (HPk.out _).mono ?_
      rintro e w9 ⟨rfl, hb9⟩
      have HB9 := Lib.hid (HB8.out.trans (hb9.mono HB8.out.size))
      have HO9 := Lib.hid (HO8.out.below hb9)
      clear hb9
      go_wp2
      go_roundw
      case rel =>
        refine ⟨acc ++ [x], nx, A3, c3, ?_, rfl, g3, ?_, HG1, HB9, ?_⟩
        · show Value.slice A3 _ c3 = _
          simp
        · rw [List.length_append, List.length_singleton]; omega
        · rw [List.length_append, List.length_singleton]
          exact HO9
      case measure => simp [intOf]; omega
    · have d1 : decide ((k : Int) < (s.size : Int)) = false := decide_eq_false (by omega)
      have d2 : ¬ (k : Int) < (s.size : Int) := by omega
      have hR := HG.out
      rw [parseGo_end s acc k hlt] at hR
      subst hR
      go_wp2
      go_ret
      obtain ⟨A2, c2, e2, hl⟩ := HO.out.list
      cases e2
      exact ⟨HBel.out, A, c, rfl, hl⟩
end Go.Proofs.YtamghpleajbonaaGreatDoor

namespace Go.Proofs.YtamghpleajbonaaGreatDoor
open Go.RowKit
set_option linter.unusedVariables false
set_option linter.unusedSimpArgs false
theorem NsF.get {W : World} {F : Nat → Prop} : ∀ {l : List EN} {b o : Nat} (j : Nat) {x : EN}, NsF W F l b o → l[j]? = some x →
    F b ∧ (∃ (A : Option Addr) (c : Nat) (B : Option Addr) (d : Nat), W.cell? ⟨b, o + j * 8, none⟩ = some (.int .i64 x.ty) ∧ W.cell? ⟨b, o + j * 8 + 1, none⟩ = some (.int .i64 x.lv) ∧ W.cell? ⟨b, o + j * 8 + 2, none⟩ = some (.string x.tx) ∧ W.cell? ⟨b, o + j * 8 + 3, none⟩ = some (.string x.nm) ∧
      W.cell? ⟨b, o + j * 8 + 4, none⟩ = some (.slice A x.val.length c) ∧ W.cell? ⟨b, o + j * 8 + 5, none⟩ = some (.slice B x.ats.length d) ∧ W.cell? ⟨b, o + j * 8 + 6, none⟩ = some (.int .i64 x.fr) ∧ W.cell? ⟨b, o + j * 8 + 7, none⟩ = some (.int .i64 x.tu) ∧
      PatF W F x.val (.slice A x.val.length c) ∧ AtsF W F x.ats (.slice B x.ats.length d))
  | [], b, o, j, x, h, hj => by simp at hj
  | y :: r, b, o, 0, x, h, hj => by
    rw [NsF] at h
    simp at hj
    subst hj
    rw [Nat.zero_mul]
    exact ⟨h.1, h.2.1⟩
  | y :: r, b, o, j + 1, x, h, hj => by
    rw [NsF] at h
    have := NsF.get j h.2.2 (by simpa using hj)
    rw [show o + (j + 1) * 8 = o + 8 + j * 8 by omega]
    exact this
theorem list_at {W : World} {F : Nat → Prop} {l : List EN} {A : Option Addr} {c : Nat} (h : ListF W F l (.slice A l.length c)) (h0 : 0 < l.length) : ∃ b o, A = some ⟨b, o, none⟩ ∧ NsF W F l b o := by
  obtain ⟨A', c', e, _, _, h2⟩ := h
  simp only [Value.slice.injEq] at e
  obtain ⟨rfl, _, rfl⟩ := e
  exact h2 h0
end Go.Proofs.YtamghpleajbonaaGreatDoor
