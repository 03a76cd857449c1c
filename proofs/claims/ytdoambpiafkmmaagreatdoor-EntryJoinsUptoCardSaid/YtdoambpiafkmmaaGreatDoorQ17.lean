/-
  Several texts put together (part 17): what the law and the program call, walked; their contracts.
-/
import Derived.Test.YtdoambpiafkmmaaGreatDoorQ16
import Derived.Test.YtdoambpiafkmmaaGreatDoorQ1
import Derived.Deep.RegionLaw
import Derived.Deep.RegionHeld3
namespace Go.Proofs.YtdoambpiafkmmaaGreatDoor
open Go.RowKit
set_option linter.unusedVariables false
set_option linter.unusedSimpArgs false
section
variable {s t : ByteArray} {n : Nat}
theorem Shf.behl (h : Shf s t n) (i : Nat) : beh s (n + i) = n + beh t i := by
  unfold beh
  rw [h.li_, h.sz]
  by_cases hc : li t i < t.size
  · rw [if_pos hc, if_pos (by omega)]; omega
  · rw [if_neg hc, if_neg (by omega)]
theorem pass_sh (h : Shf s t n) : ∀ (m i : Nat), t.size - i ≤ m → passE s (n + i) = n + passE t i
  | m, i, hm => by
    rw [passE.eq_def s (n + i), passE.eq_def t i, h.sp_, h.is, h.behl, h.sz]
    by_cases h1 : i < t.size
    · rw [dif_pos h1, dif_pos (by omega)]
      by_cases h2 : sp t i < t.size ∧ isAt t (sp t i) 10 = false
      · rw [if_pos h2, if_pos ⟨by omega, h2.2⟩]
      · rw [if_neg h2, if_neg (fun g => h2 ⟨by omega, g.2⟩)]
        by_cases h3 : i < beh t (sp t i)
        · rw [dif_pos h3, dif_pos (by omega)]
          cases m with
          | zero => omega
          | succ m => exact pass_sh h m _ (by omega)
        · rw [dif_neg h3, dif_neg (by omega)]
    · rw [dif_neg h1, dif_neg (by omega)]
theorem may_sh (h : Shf s t n) (i : Nat) : mayB s (n + i) = mayB t i := by
  unfold mayB
  rw [h.is, h.is, h.nm_]
  congr 1
  exact decide_eq_decide.2 (by omega)
theorem junkTo_sh (h : Shf s t n) : ∀ (m i : Nat), t.size - i ≤ m → junkTo s (n + i) = n + junkTo t i
  | m, i, hm => by
    rw [junkTo.eq_def s (n + i), junkTo.eq_def t i, may_sh h, h.behl, h.sz]
    by_cases h1 : i < t.size ∧ mayB t i = false
    · rw [dif_pos h1, dif_pos ⟨by omega, h1.2⟩]
      by_cases h3 : i < beh t i
      · rw [dif_pos h3, dif_pos (by omega)]
        cases m with
        | zero => omega
        | succ m => exact junkTo_sh h m _ (by omega)
      · rw [dif_neg h3, dif_neg (by omega)]
    · rw [dif_neg h1, dif_neg (fun g => h1 ⟨by omega, g.2⟩)]
theorem named_sh (h : Shf s t n) (i : Nat) : namedS s (n + i) = sh3 n (namedS t i) := by
  unfold namedS
  rw [h.nm_, h.sp_, h.is, h.ext, Nat.add_assoc, pat_sh h (place_sh h 20), h.sz]
  by_cases h1 : nm t i = i
  · rw [if_pos h1, if_pos (by omega)]; rfl
  · rw [if_neg h1, if_neg (by omega)]
    split
    · cases patS (placeS t 20) t (sp t (nm t i) + 1) with
      | none => rfl
      | some x =>
        obtain ⟨l, e⟩ := x
        dsimp only [shR]
        rw [h.is]
        by_cases h2 : e = t.size ∨ isAt t e 10 = true
        · rw [if_pos h2, if_pos (by rcases h2 with h2 | h2; exact Or.inl (by omega); exact Or.inr h2)]; rfl
        · rw [if_neg h2, if_neg (fun g => h2 (by rcases g with g | g; exact Or.inl (by omega); exact Or.inr g))]; rfl
    · rfl
theorem attr_sh (h : Shf s t n) {i : Nat} (hi : 1 ≤ i) : attrS s (n + i) = sh3 n (attrS t i) := by
  have hb := bl_ge t i
  unfold attrS
  rw [h.bl_, h.is, show n + bl t i - 1 = n + (bl t i - 1) by omega, h.at_, Nat.add_assoc, named_sh h]
  split
  · cases namedS t (bl t i + 1) with
    | none => rfl
    | some x =>
      obtain ⟨x, l, e⟩ := x
      dsimp only [sh3]
      split <;> rfl
  · rfl
theorem ats_sh (h : Shf s t n) : ∀ (m : Nat) (acc : List AT) (i : Nat), t.size - i ≤ m → 1 ≤ i → atsS s acc (n + i) = ((atsS t acc i).1, n + (atsS t acc i).2)
  | m, acc, i, hm, hi => by
    rw [atsS.eq_def s acc (n + i), atsS.eq_def t acc i, attr_sh h hi]
    cases attrS t i with
    | none => rfl
    | some x =>
      obtain ⟨x, l, e⟩ := x
      dsimp only [sh3]
      by_cases hg : i < e ∧ e ≤ t.size
      · rw [dif_pos hg, dif_pos (by rw [h.sz]; omega)]
        cases m with
        | zero => omega
        | succ m => exact ats_sh h m _ e (by omega) (by omega)
      · rw [dif_neg hg, dif_neg (by rw [h.sz]; omega)]
def shE (n : Nat) (x : EN) : EN := ⟨x.ty, x.lv, x.tx, x.nm, x.val, x.ats, n + x.fr, n + x.tu⟩
theorem msg_sh (h : Shf s t n) {i : Nat} (hi : i < t.size) : msgS s (n + i) = (msgS t i).map (shE n) := by
  unfold msgS
  rw [h.is]
  have e1 : (if isAt t i 45 = true then n + i + 1 else n + i) = n + (if isAt t i 45 = true then i + 1 else i) := by split <;> omega
  rw [e1]
  obtain ⟨q, hq⟩ : ∃ q, (if isAt t i 45 = true then i + 1 else i) = q := ⟨_, rfl⟩
  have hqs : q ≤ t.size := by rw [← hq]; split <;> omega
  rw [hq, named_sh h]
  cases hN : namedS t q with
  | none => rfl
  | some x =>
    obtain ⟨x, l, e⟩ := x
    have hp := named_pos hqs hN
    dsimp only [sh3]
    rw [ats_sh h t.size [] e (by omega) (by omega), h.behl]
    dsimp only
    split <;> rfl
theorem comL_sh (h : Shf s t n) (i : Nat) : comL s (n + i) = comL t i := by
  unfold comL
  rw [h.hs_, h.li_, h.is, Nat.add_assoc, h.ext, Nat.add_sub_add_left]
  by_cases h2 : hs t i < li t i
  · have h3 : n + hs t i < n + li t i := by omega
    rw [if_pos h2, if_pos h3]
    by_cases h1 : 3 < hs t i - i ∨ (hs t i < li t i ∧ isAt t (hs t i) 32 = false)
    · rw [if_pos h1, if_pos (by rcases h1 with h1 | h1; exact Or.inl h1; exact Or.inr ⟨h3, h1.2⟩)]
    · rw [if_neg h1, if_neg (fun g => h1 (by rcases g with g | g; exact Or.inl g; exact Or.inr ⟨h2, g.2⟩))]
  · have h3 : ¬ n + hs t i < n + li t i := by omega
    rw [if_neg h2, if_neg h3]
    by_cases h1 : 3 < hs t i - i ∨ (hs t i < li t i ∧ isAt t (hs t i) 32 = false)
    · rw [if_pos h1, if_pos (by rcases h1 with h1 | h1; exact Or.inl h1; exact absurd h1.1 h2)]
    · rw [if_neg h1, if_neg (fun g => h1 (by rcases g with g | g; exact Or.inl g; exact absurd g.1 h3))]
theorem comGo_sh (h : Shf s t n) (lv : Nat) : ∀ (m : Nat) (acc : List ByteArray) (k : Nat) (w : ByteArray), t.size - k ≤ m → comGo s lv acc (n + k) w = ((comGo t lv acc k w).1, n + (comGo t lv acc k w).2)
  | m, acc, k, w, hm => by
    rw [comGo.eq_def s lv acc (n + k) w, comGo.eq_def t lv acc k w, h.behl, comL_sh h]
    by_cases hg : (comL t (beh t k)).1 = lv ∧ k < beh t k ∧ beh t k ≤ t.size
    · rw [dif_pos hg, dif_pos (by rw [h.sz]; exact ⟨hg.1, by omega, by omega⟩)]
      cases m with
      | zero => omega
      | succ m => exact comGo_sh h lv m _ _ _ (by omega)
    · rw [dif_neg hg, dif_neg (by rw [h.sz]; exact fun g => hg ⟨g.1, by omega, by omega⟩)]
theorem com_sh (h : Shf s t n) (i : Nat) : comS s (n + i) = (comS t i).map (shE n) := by
  unfold comS
  rw [comL_sh h, comGo_sh h _ t.size _ _ _ (by omega)]
  dsimp only
  split <;> rfl
theorem read_sh (h : Shf s t n) {i : Nat} (hi : i < t.size) : readS s (n + i) = shE n (readS t i) := by
  unfold readS
  rw [com_sh h, msg_sh h hi]
  cases comS t i with
  | some x => rfl
  | none =>
    cases msgS t i with
    | some x => rfl
    | none =>
      show junkS s (n + i) = shE n (junkS t i)
      unfold junkS shE
      rw [h.behl, junkTo_sh h t.size _ (by omega), h.ext]
theorem parseGo_acc (s : ByteArray) : ∀ (m : Nat) (acc : List EN) (i : Nat), s.size - i ≤ m → parseGo s acc i = acc ++ parseGo s [] i
  | m, acc, i, hm => by
    rw [parseGo.eq_def s acc i, parseGo.eq_def s [] i]
    split
    · cases m with
      | zero => omega
      | succ m =>
        rw [parseGo_acc s m (acc ++ [readS s i]) _ (by omega), parseGo_acc s m ([] ++ [readS s i]) _ (by omega), List.nil_append, List.append_assoc]
    · rw [List.append_nil]
theorem parseGo_sh (h : Shf s t n) : ∀ (m : Nat) (i : Nat), t.size - i ≤ m → parseGo s [] (n + i) = (parseGo t [] i).map (shE n)
  | m, i, hm => by
    rw [parseGo.eq_def s [] (n + i), parseGo.eq_def t [] i]
    by_cases h1 : i < t.size
    · rw [read_sh h h1]
      have e1 : (shE n (readS t i)).tu = n + (readS t i).tu := rfl
      rw [e1, pass_sh h t.size _ (by omega)]
      by_cases hg : i < t.size ∧ i < passE t (readS t i).tu
      · rw [dif_pos hg, dif_pos (by rw [h.sz]; omega)]
        cases m with
        | zero => omega
        | succ m =>
          rw [parseGo_acc s s.size _ _ (by omega), parseGo_acc t t.size _ _ (by omega), parseGo_sh h m _ (by omega), List.map_append]
          rfl
      · rw [dif_neg hg, dif_neg (by rw [h.sz]; omega)]; rfl
    · rw [dif_neg (fun g => h1 (by have := g.1; rw [h.sz] at this; omega)), dif_neg (fun g => h1 g.1)]; rfl
end
theorem shf_app (a b : ByteArray) : Shf (a ++ b) b a.size := by
  refine ⟨ByteArray.size_append, fun i => ?_⟩
  rw [ByteArray.data_append, Array.toList_append, ← size_data, List.drop_append, List.drop_eq_nil_of_le (by omega), List.nil_append, Nat.add_sub_cancel_left]
end Go.Proofs.YtdoambpiafkmmaaGreatDoor

namespace Go.Proofs.YtdoambpiafkmmaaGreatDoor
open Go.RowKit
set_option linter.unusedVariables false
set_option linter.unusedSimpArgs false
theorem EsAt.at2 {W : World} : ∀ {l : List EL} {b o : Nat} (j : Nat) {t : ByteArray} {p : Option EX}, EsAt W l b o → l[j]? = some (.mk t p) →
    b < W.heap.size ∧ W.cell? ⟨b, o + j * 2, none⟩ = some (.string t) ∧ ∃ u, W.cell? ⟨b, o + j * 2 + 1, none⟩ = some u ∧ OAt W p u
  | [], b, o, j, t, p, h, hj => by simp at hj
  | .mk t' p' :: r, b, o, 0, t, p, h, hj => by
    rw [EsAt] at h
    simp at hj
    obtain ⟨rfl, rfl⟩ := hj
    obtain ⟨h0, h1, h2, _⟩ := h
    exact ⟨h0, by simpa using h1, by simpa using h2⟩
  | .mk t' p' :: r, b, o, j + 1, t, p, h, hj => by
    rw [EsAt] at h
    have := EsAt.at2 j h.2.2.2 (by simpa using hj)
    rw [show o + (j + 1) * 2 = o + 2 + j * 2 by omega]
    exact this
theorem pat_at2 {W : World} {l : List EL} {v : Value} (h : PatAt W l v) {i : Nat} (hi : i < l.length) : ∃ b o c, v = .slice (some ⟨b, o, none⟩) l.length c ∧ b < W.heap.size ∧
    ∀ j t p, l[j]? = some (.mk t p) → W.cell? ⟨b, o + j * 2, none⟩ = some (.string t) ∧ ∃ u, W.cell? ⟨b, o + j * 2 + 1, none⟩ = some u ∧ OAt W p u := by
  obtain ⟨A, c, rfl, _, _, h2⟩ := h
  obtain ⟨b, o, rfl, h3⟩ := h2 (by omega)
  have h0 : l[0]? = some l[0] := List.getElem?_eq_getElem (by omega)
  refine ⟨b, o, c, rfl, ?_, fun j t p hj => ⟨(h3.at2 j hj).2.1, (h3.at2 j hj).2.2⟩⟩
  cases e : l[0]'(by omega) with
  | mk t p => rw [e] at h0; exact (h3.at2 0 h0).1
theorem cell_under {W W' : World} (hb : Below W.heap.size W W') {b o : Nat} {v : Value} (h : W.cell? ⟨b, o, none⟩ = some v) : W'.cell? ⟨b, o, none⟩ = some v := (hb.cell (p := ⟨b, o, none⟩) (World.block_lt_of_cell? W _ h)).trans h
def SameTo (W0 : World) (e : EX) : Prop := ∀ (w : World) (c1 c2 : C7), Below W0.heap.size W0 w → ExAt W0 e c1 → ExAt W0 e c2 → Calls Tryz.prog 12 #[.agg c1.arr, .agg c2.arr] w fun e w' => e = .returned (.bool true) ∧ Below w.heap.size w w'
set_option maxHeartbeats 8000000 in
set_option maxRecDepth 1000000 in
theorem pats_text {W0 : World} (l : List EL) {v1 v2 : Value} (h1 : PatAt W0 l v1) (h2 : PatAt W0 l v2) (hl : l.length ≤ 8000000) (hS : ∀ t e, EL.mk t (some e) ∉ l) (w : World) (hb : Below W0.heap.size W0 w) :
    Calls Tryz.prog 34 #[v1, v2] w fun e w' => e = .returned (.bool true) ∧ Below w.heap.size w w' := by
  have hg1 := fun i (hi : i < l.length) => pat_at2 h1 hi
  have hg2 := fun i (hi : i < l.length) => pat_at2 h2 hi
  obtain ⟨A1, c1, rfl, _⟩ := h1
  obtain ⟨A2, c2, rfl, _⟩ := h2
  have HG1 := Lib.hid hg1
  have HG2 := Lib.hid hg2
  have HS := Lib.hid hS
  have HB := Lib.hid hb
  have hl0 : (l.length : Int) ≤ 8000000 := by omega
  have d0 : ((l.length : Int) != (l.length : Int)) = false := bne_self_eq_false _
  clear hg1 hg2 hS hb
  go_enter Tryz.func34, Tryz.ntmps34
  go_wp2
  go_loopw [15] (fun t15 wr => ∃ i : Nat, t15 = .int .i64 i ∧ i ≤ l.length ∧ Hid (Below w.heap.size w wr)) (fun t15 _ => l.length - (intOf t15).toNat)
  case atStart => exact ⟨0, rfl, Nat.zero_le _, Below.refl _ _⟩
  case round =>
    obtain ⟨i, rfl, hi, HBel⟩ := hrel
    have hi0 : (i : Int) ≤ 8000000 := by omega
    by_cases hlt : i < l.length
    case neg =>
      have d1 : decide ((i : Int) < (l.length : Int)) = false := decide_eq_false (by omega)
      have d2 : ¬ (i : Int) < (l.length : Int) := by omega
      go_wp2
      go_ret
      exact ⟨rfl, HBel.out⟩
    have d1 : decide ((i : Int) < (l.length : Int)) = true := decide_eq_true (by omega)
    have d2 : (i : Int) < (l.length : Int) := by omega
    obtain ⟨b1, o1, c1', e1', hb1, g1⟩ := HG1.out i hlt
    obtain ⟨b2, o2, c2', e2', hb2, g2⟩ := HG2.out i hlt
    cases e1'
    cases e2'
    have hli : l[i]? = some l[i] := List.getElem?_eq_getElem hlt
    have hmem : l[i] ∈ l := List.getElem_mem hlt
    obtain ⟨t, p, hx⟩ : ∃ t p, l[i] = EL.mk t p := by cases h : l[i]; exact ⟨_, _, rfl⟩
    rw [hx] at hli hmem
    obtain ⟨k1, u1, k2, ho1⟩ := g1 i t p hli
    obtain ⟨m1, u2, m2, ho2⟩ := g2 i t p hli
    have hcell : ∀ (b o : Nat) v, b < W0.heap.size → W0.cell? ⟨b, o, none⟩ = some v → wr.cell? ⟨b, o, none⟩ = some v := fun b o v hb h =>
      (HBel.out.cell (p := ⟨b, o, none⟩) (Nat.lt_of_lt_of_le hb HB.out.size)).trans ((HB.out.cell (p := ⟨b, o, none⟩) hb).trans h)
    have e1 := hcell _ _ _ hb1 k1
    have e1p := hcell _ _ _ hb1 k2
    have e2 := hcell _ _ _ hb2 m1
    have e2p := hcell _ _ _ hb2 m2
    have hbw1 : b1 < wr.heap.size := Nat.lt_of_lt_of_le hb1 (Nat.le_trans HB.out.size HBel.out.size)
    have hbw2 : b2 < wr.heap.size := Nat.lt_of_lt_of_le hb2 (Nat.le_trans HB.out.size HBel.out.size)
    have Hcell := Lib.hid hcell
    have Hmem := Lib.hid hmem
    clear hcell hmem hli hx k1 k2 m1 m2 g1 g2 hb1 hb2
    cases p with
    | none =>
      simp only [OAt] at ho1 ho2
      subst ho1
      subst ho2
      go_wp2_with fail
      go_region
      all_goals (go_wp2_with fail)
      refine ⟨⟨i + 1, by go_num, hlt, ?_⟩, by simp [intOf]; omega⟩
      exact Lib.hid HBel.out.drew
    | some e =>
      exact absurd Hmem.out (HS.out t e)
end Go.Proofs.YtdoambpiafkmmaaGreatDoor

namespace Go.Proofs.YtdoambpiafkmmaaGreatDoor
open Go.RowKit
set_option linter.unusedVariables false
set_option linter.unusedSimpArgs false
set_option maxHeartbeats 8000000 in
set_option maxRecDepth 1000000 in
theorem pats_any {W0 : World} (l : List EL) {v1 v2 : Value} (h1 : PatAt W0 l v1) (h2 : PatAt W0 l v2) (hl : l.length ≤ 8000000) (hS : ∀ t e, EL.mk t (some e) ∈ l → SameTo W0 e) (w : World) (hb : Below W0.heap.size W0 w) :
    Calls Tryz.prog 34 #[v1, v2] w fun e w' => e = .returned (.bool true) ∧ Below w.heap.size w w' := by
  have hg1 := fun i (hi : i < l.length) => pat_at2 h1 hi
  have hg2 := fun i (hi : i < l.length) => pat_at2 h2 hi
  obtain ⟨A1, c1, rfl, _⟩ := h1
  obtain ⟨A2, c2, rfl, _⟩ := h2
  have HG1 := Lib.hid hg1
  have HG2 := Lib.hid hg2
  have HS := Lib.hid hS
  have HB := Lib.hid hb
  have hl0 : (l.length : Int) ≤ 8000000 := by omega
  have d0 : ((l.length : Int) != (l.length : Int)) = false := bne_self_eq_false _
  clear hg1 hg2 hS hb
  go_enter Tryz.func34, Tryz.ntmps34
  go_wp2
  go_loopw [15] (fun t15 wr => ∃ i : Nat, t15 = .int .i64 i ∧ i ≤ l.length ∧ Hid (Below w.heap.size w wr)) (fun t15 _ => l.length - (intOf t15).toNat)
  case atStart => exact ⟨0, rfl, Nat.zero_le _, Below.refl _ _⟩
  case round =>
    obtain ⟨i, rfl, hi, HBel⟩ := hrel
    have hi0 : (i : Int) ≤ 8000000 := by omega
    by_cases hlt : i < l.length
    case neg =>
      have d1 : decide ((i : Int) < (l.length : Int)) = false := decide_eq_false (by omega)
      have d2 : ¬ (i : Int) < (l.length : Int) := by omega
      go_wp2
      go_ret
      exact ⟨rfl, HBel.out⟩
    have d1 : decide ((i : Int) < (l.length : Int)) = true := decide_eq_true (by omega)
    have d2 : (i : Int) < (l.length : Int) := by omega
    obtain ⟨b1, o1, c1', e1', hb1, g1⟩ := HG1.out i hlt
    obtain ⟨b2, o2, c2', e2', hb2, g2⟩ := HG2.out i hlt
    cases e1'
    cases e2'
    have hli : l[i]? = some l[i] := List.getElem?_eq_getElem hlt
    have hmem : l[i] ∈ l := List.getElem_mem hlt
    obtain ⟨t, p, hx⟩ : ∃ t p, l[i] = EL.mk t p := by cases h : l[i]; exact ⟨_, _, rfl⟩
    rw [hx] at hli hmem
    obtain ⟨k1, u1, k2, ho1⟩ := g1 i t p hli
    obtain ⟨m1, u2, m2, ho2⟩ := g2 i t p hli
    have hcell : ∀ (b o : Nat) v, b < W0.heap.size → W0.cell? ⟨b, o, none⟩ = some v → wr.cell? ⟨b, o, none⟩ = some v := fun b o v hb h =>
      (HBel.out.cell (p := ⟨b, o, none⟩) (Nat.lt_of_lt_of_le hb HB.out.size)).trans ((HB.out.cell (p := ⟨b, o, none⟩) hb).trans h)
    have e1 := hcell _ _ _ hb1 k1
    have e1p := hcell _ _ _ hb1 k2
    have e2 := hcell _ _ _ hb2 m1
    have e2p := hcell _ _ _ hb2 m2
    have hbw1 : b1 < wr.heap.size := Nat.lt_of_lt_of_le hb1 (Nat.le_trans HB.out.size HBel.out.size)
    have hbw2 : b2 < wr.heap.size := Nat.lt_of_lt_of_le hb2 (Nat.le_trans HB.out.size HBel.out.size)
    have Hcell := Lib.hid hcell
    have Hmem := Lib.hid hmem
    clear hcell hmem hli hx k1 k2 m1 m2 g1 g2 hb1 hb2
    cases p with
    | none =>
      simp only [OAt] at ho1 ho2
      subst ho1
      subst ho2
      go_wp2_with fail
      go_region
      all_goals (go_wp2_with fail)
      refine ⟨⟨i + 1, by go_num, hlt, ?_⟩, by simp [intOf]; omega⟩
      exact Lib.hid HBel.out.drew
    | some e =>
      simp only [OAt] at ho1 ho2
      obtain ⟨x1, y1, k1, rfl, hx1, hk1, hE1⟩ := ho1
      obtain ⟨x2, y2, k2, rfl, hx2, hk2, hE2⟩ := ho2
      have hSm := HS.out t e Hmem.out
      obtain ⟨k1k, k1t, k1n, k1a, k1A, k1m, k1q, k1p, k1B, k1r, k1s, rfl⟩ := ex_shape hE1
      obtain ⟨k2k, k2t, k2n, k2a, k2A, k2m, k2q, k2p, k2B, k2r, k2s, rfl⟩ := ex_shape hE2
      obtain ⟨f0, f1, f2, f3, f4, f5, f6⟩ := hk1
      obtain ⟨g0, g1, g2, g3, g4, g5, g6⟩ := hk2
      dsimp only at f0 f1 f2 f3 f4 f5 f6 g0 g1 g2 g3 g4 g5 g6
      have F0 := Hcell.out _ _ _ hx1 f0
      have F1 := Hcell.out _ _ _ hx1 f1
      have F2 := Hcell.out _ _ _ hx1 f2
      have F3 := Hcell.out _ _ _ hx1 f3
      have F4 := Hcell.out _ _ _ hx1 f4
      have F5 := Hcell.out _ _ _ hx1 f5
      have F6 := Hcell.out _ _ _ hx1 f6
      have G0 := Hcell.out _ _ _ hx2 g0
      have G1 := Hcell.out _ _ _ hx2 g1
      have G2 := Hcell.out _ _ _ hx2 g2
      have G3 := Hcell.out _ _ _ hx2 g3
      have G4 := Hcell.out _ _ _ hx2 g4
      have G5 := Hcell.out _ _ _ hx2 g5
      have G6 := Hcell.out _ _ _ hx2 g6
      have hC0 := fun W hB => hSm W _ _ hB hE1 hE2
      dsimp only [C7.arr] at hC0
      have hC : ∀ W : World, W.cell? ⟨b1, o1 + i * 2, none⟩ = some (.string t) ∧ W.cell? ⟨b2, o2 + i * 2, none⟩ = some (.string t) ∧ W.cell? ⟨x1, y1, none⟩ = some (.int .i64 k1k) ∧ W.cell? ⟨x1, y1 + 1, none⟩ = some (.string k1t) ∧ W.cell? ⟨x1, y1 + 2, none⟩ = some (.string k1n) ∧ W.cell? ⟨x1, y1 + 3, none⟩ = some (.string k1a) ∧ W.cell? ⟨x1, y1 + 4, none⟩ = some (.slice k1A k1m k1q) ∧ W.cell? ⟨x1, y1 + 5, none⟩ = some (.pointer k1p) ∧ W.cell? ⟨x1, y1 + 6, none⟩ = some (.slice k1B k1r k1s) ∧ W.cell? ⟨x2, y2, none⟩ = some (.int .i64 k2k) ∧ W.cell? ⟨x2, y2 + 1, none⟩ = some (.string k2t) ∧ W.cell? ⟨x2, y2 + 2, none⟩ = some (.string k2n) ∧ W.cell? ⟨x2, y2 + 3, none⟩ = some (.string k2a) ∧ W.cell? ⟨x2, y2 + 4, none⟩ = some (.slice k2A k2m k2q) ∧ W.cell? ⟨x2, y2 + 5, none⟩ = some (.pointer k2p) ∧ W.cell? ⟨x2, y2 + 6, none⟩ = some (.slice k2B k2r k2s) ∧ Below wr.heap.size wr W → Calls Tryz.prog 12 #[.agg #[.int .i64 k1k, .string k1t, .string k1n, .string k1a, .slice k1A k1m k1q, .pointer k1p, .slice k1B k1r k1s], .agg #[.int .i64 k2k, .string k2t, .string k2n, .string k2a, .slice k2A k2m k2q, .pointer k2p, .slice k2B k2r k2s]] W fun e w' => e = .returned (.bool true) ∧ Below W.heap.size W w' := fun W h => hC0 W ((HB.out.trans (HBel.out.mono HB.out.size)).trans (h.2.2.2.2.2.2.2.2.2.2.2.2.2.2.2.2.mono (Nat.le_trans HB.out.size HBel.out.size)))
      have hK : ∀ W W' : World, (W.cell? ⟨b1, o1 + i * 2, none⟩ = some (.string t) ∧ W.cell? ⟨b2, o2 + i * 2, none⟩ = some (.string t) ∧ W.cell? ⟨x1, y1, none⟩ = some (.int .i64 k1k) ∧ W.cell? ⟨x1, y1 + 1, none⟩ = some (.string k1t) ∧ W.cell? ⟨x1, y1 + 2, none⟩ = some (.string k1n) ∧ W.cell? ⟨x1, y1 + 3, none⟩ = some (.string k1a) ∧ W.cell? ⟨x1, y1 + 4, none⟩ = some (.slice k1A k1m k1q) ∧ W.cell? ⟨x1, y1 + 5, none⟩ = some (.pointer k1p) ∧ W.cell? ⟨x1, y1 + 6, none⟩ = some (.slice k1B k1r k1s) ∧ W.cell? ⟨x2, y2, none⟩ = some (.int .i64 k2k) ∧ W.cell? ⟨x2, y2 + 1, none⟩ = some (.string k2t) ∧ W.cell? ⟨x2, y2 + 2, none⟩ = some (.string k2n) ∧ W.cell? ⟨x2, y2 + 3, none⟩ = some (.string k2a) ∧ W.cell? ⟨x2, y2 + 4, none⟩ = some (.slice k2A k2m k2q) ∧ W.cell? ⟨x2, y2 + 5, none⟩ = some (.pointer k2p) ∧ W.cell? ⟨x2, y2 + 6, none⟩ = some (.slice k2B k2r k2s) ∧ Below wr.heap.size wr W) → Below W.heap.size W W' → W'.cell? ⟨b1, o1 + i * 2, none⟩ = some (.string t) ∧ W'.cell? ⟨b2, o2 + i * 2, none⟩ = some (.string t) ∧ W'.cell? ⟨x1, y1, none⟩ = some (.int .i64 k1k) ∧ W'.cell? ⟨x1, y1 + 1, none⟩ = some (.string k1t) ∧ W'.cell? ⟨x1, y1 + 2, none⟩ = some (.string k1n) ∧ W'.cell? ⟨x1, y1 + 3, none⟩ = some (.string k1a) ∧ W'.cell? ⟨x1, y1 + 4, none⟩ = some (.slice k1A k1m k1q) ∧ W'.cell? ⟨x1, y1 + 5, none⟩ = some (.pointer k1p) ∧ W'.cell? ⟨x1, y1 + 6, none⟩ = some (.slice k1B k1r k1s) ∧ W'.cell? ⟨x2, y2, none⟩ = some (.int .i64 k2k) ∧ W'.cell? ⟨x2, y2 + 1, none⟩ = some (.string k2t) ∧ W'.cell? ⟨x2, y2 + 2, none⟩ = some (.string k2n) ∧ W'.cell? ⟨x2, y2 + 3, none⟩ = some (.string k2a) ∧ W'.cell? ⟨x2, y2 + 4, none⟩ = some (.slice k2A k2m k2q) ∧ W'.cell? ⟨x2, y2 + 5, none⟩ = some (.pointer k2p) ∧ W'.cell? ⟨x2, y2 + 6, none⟩ = some (.slice k2B k2r k2s) ∧ Below wr.heap.size wr W' := fun W W' ⟨a0, a1, a2, a3, a4, a5, a6, a7, a8, a9, a10, a11, a12, a13, a14, a15, hB⟩ hb =>
        ⟨cell_under hb a0, cell_under hb a1, cell_under hb a2, cell_under hb a3, cell_under hb a4, cell_under hb a5, cell_under hb a6, cell_under hb a7, cell_under hb a8, cell_under hb a9, cell_under hb a10, cell_under hb a11, cell_under hb a12, cell_under hb a13, cell_under hb a14, cell_under hb a15, hB.trans (hb.mono hB.size)⟩
      have hS0 : wr.drew.cell? ⟨b1, o1 + i * 2, none⟩ = some (.string t) ∧ wr.drew.cell? ⟨b2, o2 + i * 2, none⟩ = some (.string t) ∧ wr.drew.cell? ⟨x1, y1, none⟩ = some (.int .i64 k1k) ∧ wr.drew.cell? ⟨x1, y1 + 1, none⟩ = some (.string k1t) ∧ wr.drew.cell? ⟨x1, y1 + 2, none⟩ = some (.string k1n) ∧ wr.drew.cell? ⟨x1, y1 + 3, none⟩ = some (.string k1a) ∧ wr.drew.cell? ⟨x1, y1 + 4, none⟩ = some (.slice k1A k1m k1q) ∧ wr.drew.cell? ⟨x1, y1 + 5, none⟩ = some (.pointer k1p) ∧ wr.drew.cell? ⟨x1, y1 + 6, none⟩ = some (.slice k1B k1r k1s) ∧ wr.drew.cell? ⟨x2, y2, none⟩ = some (.int .i64 k2k) ∧ wr.drew.cell? ⟨x2, y2 + 1, none⟩ = some (.string k2t) ∧ wr.drew.cell? ⟨x2, y2 + 2, none⟩ = some (.string k2n) ∧ wr.drew.cell? ⟨x2, y2 + 3, none⟩ = some (.string k2a) ∧ wr.drew.cell? ⟨x2, y2 + 4, none⟩ = some (.slice k2A k2m k2q) ∧ wr.drew.cell? ⟨x2, y2 + 5, none⟩ = some (.pointer k2p) ∧ wr.drew.cell? ⟨x2, y2 + 6, none⟩ = some (.slice k2B k2r k2s) ∧ Below wr.heap.size wr wr.drew := ⟨e1, e2, F0, F1, F2, F3, F4, F5, F6, G0, G1, G2, G3, G4, G5, G6, (Below.refl _ _).drew⟩
      have HC := Lib.hid hC
      have HK := Lib.hid hK
      have HS0 := Lib.hid hS0
      clear hC hC0 hK hS0 f0 f1 f2 f3 f4 f5 f6 g0 g1 g2 g3 g4 g5 g6 hE1 hE2 hSm
      go_wp2_with fail
      go_region_held3 (fun w' => w'.cell? ⟨b1, o1 + i * 2, none⟩ = some (.string t) ∧ w'.cell? ⟨b2, o2 + i * 2, none⟩ = some (.string t) ∧ w'.cell? ⟨x1, y1, none⟩ = some (.int .i64 k1k) ∧ w'.cell? ⟨x1, y1 + 1, none⟩ = some (.string k1t) ∧ w'.cell? ⟨x1, y1 + 2, none⟩ = some (.string k1n) ∧ w'.cell? ⟨x1, y1 + 3, none⟩ = some (.string k1a) ∧ w'.cell? ⟨x1, y1 + 4, none⟩ = some (.slice k1A k1m k1q) ∧ w'.cell? ⟨x1, y1 + 5, none⟩ = some (.pointer k1p) ∧ w'.cell? ⟨x1, y1 + 6, none⟩ = some (.slice k1B k1r k1s) ∧ w'.cell? ⟨x2, y2, none⟩ = some (.int .i64 k2k) ∧ w'.cell? ⟨x2, y2 + 1, none⟩ = some (.string k2t) ∧ w'.cell? ⟨x2, y2 + 2, none⟩ = some (.string k2n) ∧ w'.cell? ⟨x2, y2 + 3, none⟩ = some (.string k2a) ∧ w'.cell? ⟨x2, y2 + 4, none⟩ = some (.slice k2A k2m k2q) ∧ w'.cell? ⟨x2, y2 + 5, none⟩ = some (.pointer k2p) ∧ w'.cell? ⟨x2, y2 + 6, none⟩ = some (.slice k2B k2r k2s) ∧ Below wr.heap.size wr w')
        (first | (exact HK.out _ _ (by assumption) (by assumption)) | (exact HS0.out) | go_keep)
        (first | (go_at_call 12; refine (HC.out _ (by assumption)).mono ?_; rintro e w' ⟨rfl, hb5⟩))
      rename_i hmE
      obtain ⟨_, _, _, _, _, _, _, _, _, _, _, _, _, _, _, _, hBE⟩ := hmE
      go_wp2_with fail
      refine ⟨⟨i + 1, by go_num, hlt, ?_⟩, by simp [intOf]; omega⟩
      exact Lib.hid (HBel.out.trans (hBE.mono HBel.out.size))
end Go.Proofs.YtdoambpiafkmmaaGreatDoor
