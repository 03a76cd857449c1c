/-
  Several texts put together (part 36): what the law and the program call, walked; their contracts.
-/
import Derived.Test.YtdoambpiafkmmaaGreatDoorQ35
import Derived.Test.YtdoambpiafkmmaaGreatDoorQ20
namespace Go.Proofs.YtdoambpiafkmmaaGreatDoor
open Go.RowKit
set_option linter.unusedVariables false
set_option linter.unusedSimpArgs false
section
variable {u s : ByteArray}
theorem named_mo (h : Pre u s) (hs : Sn u) {i : Nat} (hi : i ≤ u.size) {x : ByteArray} {l : List EL} {e : Nat} (hh : namedS u i = some (x, l, e)) : namedS s i = some (x, l, e) ∧ e < u.size ∧ isAt u e 10 = true := by
  unfold namedS at hh ⊢
  by_cases hn : nm u i = i
  · rw [if_pos hn] at hh; cases hh
  rw [if_neg hn] at hh
  have hlt : i < u.size := by
    refine Nat.lt_of_le_of_ne hi fun e => hn ?_
    have := nm_ok u i hi
    omega
  obtain ⟨e1, q1⟩ := h.nm_ hlt
  have hsp := sp_ok u (nm u i) (Nat.le_of_lt q1)
  rw [e1, if_neg hn, h.sp_ (Nat.le_of_lt q1), h.is hsp.2 (by decide), h.ext _ (Nat.le_of_lt q1)]
  by_cases h61 : isAt u (sp u (nm u i)) 61 = true
  · rw [if_pos h61] at hh ⊢
    have h1 := h.step h61 (by decide)
    cases hp : patS (placeS u 20) u (sp u (nm u i) + 1) with
    | none => rw [hp] at hh; cases hh
    | some y =>
      obtain ⟨l', e'⟩ := y
      obtain ⟨g1, g2⟩ := pat_mo h (place_mo h hs 20) (place_end u 20) h1 hp
      rw [hp] at hh
      rw [g1]
      dsimp only at hh ⊢
      split at hh
      · next hc =>
        have h10 : isAt u e' 10 = true := by
          rcases hc with hc | hc
          · omega
          · exact hc
        rw [if_pos (Or.inr (by rw [h.is (Nat.le_of_lt g2) (by decide)]; exact h10))]
        cases hh
        exact ⟨rfl, g2, h10⟩
      · cases hh
  · rw [if_neg h61] at hh; cases hh
def BadAt (u : ByteArray) (k : Nat) : Prop := isAt u (bl u k) 46 = true ∧ at0 u.data.toList (bl u k - 1) = 32
theorem attr_pre (h : Pre u s) (hs : Sn u) {i : Nat} (hi : i < u.size) : attrS s i = attrS u i ∧ (∀ x l e, attrS u i = some (x, l, e) → e < u.size ∧ isAt u e 10 = true) ∨ (attrS u i = none ∧ BadAt u i) := by
  have hb := bl_ok u i (Nat.le_of_lt hi)
  have e1 := h.bl_ (Nat.le_of_lt hi)
  by_cases hc : isAt u (bl u i) 46 = true ∧ at0 u.data.toList (bl u i - 1) = 32
  · have h1 := h.step hc.1 (by decide)
    have hcu : (isAt u (bl u i) 46 && (at0 u.data.toList (bl u i - 1) == 32)) = true := by rw [hc.1, hc.2]; rfl
    have hcs : (isAt s (bl u i) 46 && (at0 s.data.toList (bl u i - 1) == 32)) = true := by rw [h.is hb.2 (by decide), h.at_ (by omega)]; exact hcu
    unfold attrS
    rw [e1, if_pos hcu, if_pos hcs]
    cases hn : namedS u (bl u i + 1) with
    | none => exact Or.inr ⟨rfl, hc⟩
    | some y =>
      obtain ⟨x, l, e⟩ := y
      obtain ⟨g1, g2, g3⟩ := named_mo h hs (Nat.le_of_lt h1) hn
      rw [g1]
      dsimp only
      by_cases hl : l.isEmpty = true
      · rw [if_pos hl]
        exact Or.inr ⟨rfl, hc⟩
      · rw [if_neg hl]
        refine Or.inl ⟨rfl, fun x' l' e' he => ?_⟩
        cases he
        exact ⟨g2, g3⟩
  · left
    have hcu : ¬ (isAt u (bl u i) 46 && (at0 u.data.toList (bl u i - 1) == 32)) = true := by
      rw [Bool.and_eq_true, beq_iff_eq]; exact hc
    have hcs : ¬ (isAt s (bl u i) 46 && (at0 s.data.toList (bl u i - 1) == 32)) = true := by
      rw [h.is hb.2 (by decide)]
      by_cases h46 : isAt u (bl u i) 46 = true
      · have := isAt_lt h46
        rw [h.at_ (by omega)]
        exact hcu
      · rw [Bool.and_eq_true]; exact fun g => h46 g.1
    unfold attrS
    rw [e1, if_neg hcu, if_neg hcs]
    exact ⟨rfl, fun x l e he => by cases he⟩
theorem ats_pre (h : Pre u s) (hs : Sn u) : ∀ (m : Nat) (acc : List AT) (i : Nat), u.size - i ≤ m → i < u.size → isAt u i 10 = true →
    ((atsS s acc i = atsS u acc i ∨ BadAt u (atsS u acc i).2) ∧ (atsS u acc i).2 < u.size ∧ isAt u (atsS u acc i).2 10 = true)
  | m, acc, i, hm, hi, h10 => by
    have hl := h.lt
    rw [atsS.eq_def s acc i, atsS.eq_def u acc i]
    rcases attr_pre h hs hi with ⟨g1, g2⟩ | ⟨g1, g2⟩
    · rw [g1]
      cases ha : attrS u i with
      | none => exact ⟨Or.inl rfl, hi, h10⟩
      | some y =>
        obtain ⟨x, l, e⟩ := y
        obtain ⟨k1, k2⟩ := g2 _ _ _ ha
        dsimp only
        by_cases hg : i < e ∧ e ≤ u.size
        · rw [dif_pos hg, dif_pos ⟨hg.1, by omega⟩]
          cases m with
          | zero => omega
          | succ m => exact ats_pre h hs m _ e (by omega) k1 k2
        · rw [dif_neg hg, dif_neg (fun g => hg ⟨g.1, by omega⟩)]
          exact ⟨Or.inl rfl, hi, h10⟩
    · rw [g1]
      exact ⟨Or.inr g2, hi, h10⟩
theorem msg_pre (h : Pre u s) (hs : Sn u) {i : Nat} (hi : i < u.size) {x : EN} (hh : msgS u i = some x) : msgS s i = some x ∨ ∃ k, BadAt u k ∧ k < u.size ∧ isAt u k 10 = true ∧ x.tu = beh u k := by
  unfold msgS at hh ⊢
  rw [h.is (Nat.le_of_lt hi) (by decide)]
  obtain ⟨q, hq⟩ : ∃ q, (if isAt u i 45 = true then i + 1 else i) = q := ⟨_, rfl⟩
  have hqs : q ≤ u.size := by rw [← hq]; split <;> omega
  rw [hq] at hh ⊢
  cases hn : namedS u q with
  | none => rw [hn] at hh; cases hh
  | some y =>
    obtain ⟨y, l, e⟩ := y
    obtain ⟨g1, g2, g3⟩ := named_mo h hs hqs hn
    obtain ⟨k1, k2, k3⟩ := ats_pre h hs u.size [] e (by omega) g2 g3
    rw [hn] at hh
    rw [g1]
    dsimp only at hh ⊢
    rcases k1 with k1 | k1
    · left
      rw [k1, (h.behl k2).1]
      exact hh
    · right
      split at hh
      · cases hh
        exact ⟨_, k1, k2, k3, rfl⟩
      · cases hh
theorem comL_pre (h : Pre u s) {i : Nat} (hi : i < u.size) : comL s i = comL u i := by
  obtain ⟨e1, q1⟩ := h.hs_ hi
  obtain ⟨e2, q2⟩ := h.li_ hi
  unfold comL
  rw [e1, e2, h.is (Nat.le_of_lt q1) (by decide), h.ext _ (Nat.le_of_lt q2)]
theorem comL_end (h : Pre u s) : (comL u u.size).1 = 0 ∧ (comL s u.size).1 = 0 := by
  have hl := h.lt
  have e1 : hs s u.size = u.size := by
    unfold hs
    rw [beh_go hsB s.data.toList (by rw [size_data]; exact hl), h.nx]
    rfl
  have e2 : hs u u.size = u.size := behN_end _ _ _ (by rw [size_data]; exact Nat.le_refl _)
  have e3 : li u u.size = u.size := behN_end _ _ _ (by rw [size_data]; exact Nat.le_refl _)
  constructor
  · unfold comL
    rw [e2, e3, Nat.sub_self]
    split <;> rfl
  · unfold comL
    rw [e1, Nat.sub_self]
    split <;> rfl
theorem comGo_pre (h : Pre u s) {lv : Nat} (hlv : lv ≠ 0) : ∀ (m : Nat) (acc : List ByteArray) (k : Nat) (w : ByteArray), u.size - k ≤ m → k < u.size → comGo s lv acc k w = comGo u lv acc k w
  | m, acc, k, w, hm, hk => by
    have hl := h.lt
    obtain ⟨e1, q1⟩ := h.behl hk
    rw [comGo.eq_def s lv acc k w, comGo.eq_def u lv acc k w, e1]
    by_cases hb : beh u k < u.size
    · rw [comL_pre h hb]
      by_cases hg : (comL u (beh u k)).1 = lv ∧ k < beh u k ∧ beh u k ≤ u.size
      · rw [dif_pos hg, dif_pos ⟨hg.1, hg.2.1, by omega⟩]
        cases m with
        | zero => omega
        | succ m => exact comGo_pre h hlv m _ _ _ (by omega) hb
      · rw [dif_neg hg, dif_neg (fun g => hg ⟨g.1, g.2.1, q1⟩)]
    · have e2 : beh u k = u.size := by omega
      obtain ⟨c1, c2⟩ := comL_end h
      rw [e2, dif_neg (fun g => hlv (by rw [← g.1, c2])), dif_neg (fun g => hlv (by rw [← g.1, c1]))]
theorem com_pre (h : Pre u s) {i : Nat} (hi : i < u.size) : comS s i = comS u i := by
  unfold comS
  rw [comL_pre h hi]
  by_cases h0 : (comL u i).1 = 0
  · rw [if_pos h0, if_pos h0]
  · rw [if_neg h0, if_neg h0, comGo_pre h h0 u.size _ _ _ (by omega) hi]
theorem pass_pre (h : Pre u s) : ∀ (m i : Nat), u.size - i ≤ m → i ≤ u.size → passE s i = passE u i
  | m, i, hm, hi => by
    have hl := h.lt
    have hsp := sp_ok u i hi
    rw [passE.eq_def s i, passE.eq_def u i, dif_pos (by omega : i < s.size), h.sp_ hi, h.is hsp.2 (by decide)]
    by_cases hlt : i < u.size
    · rw [dif_pos hlt]
      have hs2 : sp u i < u.size := (h.beh10 spB (by decide) u.size i (by omega) hlt).2
      obtain ⟨e1, q1⟩ := h.behl hs2
      rw [e1]
      by_cases hc : sp u i < u.size ∧ isAt u (sp u i) 10 = false
      · rw [if_pos hc, if_pos ⟨by omega, hc.2⟩]
      · rw [if_neg hc, if_neg (fun g => hc ⟨hs2, g.2⟩)]
        by_cases hb : i < beh u (sp u i)
        · rw [dif_pos hb, dif_pos hb]
          cases m with
          | zero => omega
          | succ m => exact pass_pre h m _ (by omega) q1
        · rw [dif_neg hb, dif_neg hb]
    · have e1 : i = u.size := by omega
      rw [dif_neg hlt]
      have e2 : sp u i = i := behN_end _ _ _ (by rw [size_data]; omega)
      rw [e2, if_pos ⟨by omega, by unfold isAt; rw [decide_eq_false hlt]; rfl⟩]
theorem pass_to {b : Nat} (hb : b < u.size) (h46 : at0 u.data.toList b = 46) (h32 : at0 u.data.toList (b - 1) = 32) : ∀ (m i : Nat), u.size - i ≤ m → i + 1 ≤ b → (∀ j, i ≤ j → j < b → blB (at0 u.data.toList j) = true) →
    at0 u.data.toList (passE u i) = 32 ∧ passE u i < u.size
  | m, i, hm, hi, hj => by
    have hsp : sp u i ≤ b := by
      refine Nat.le_of_not_lt fun hlt => ?_
      have := behN_so spB u.data.toList i b (by omega) hlt
      rw [h46] at this
      exact absurd this (by decide)
    have hge := sp_ge u i
    rw [passE.eq_def u i, dif_pos (by omega : i < u.size)]
    by_cases hc : sp u i < u.size ∧ isAt u (sp u i) 10 = false
    · rw [if_pos hc]
      refine ⟨?_, by omega⟩
      have h1 := hj i (Nat.le_refl _) (by omega)
      unfold blB at h1
      rw [decide_eq_true_iff] at h1
      rcases h1 with h1 | h1
      · exact UInt8.toNat_inj.1 (by show _ = 32; omega)
      · exfalso
        have h2 : at0 u.data.toList i = 10 := UInt8.toNat_inj.1 (by show _ = 10; omega)
        have h3 : sp u i = i := by
          unfold sp
          rw [beh_go spB u.data.toList (by rw [size_data]; omega), h2]
          rfl
        have h4 := hc.2
        rw [h3] at h4
        unfold isAt at h4
        rw [h2, decide_eq_true (by omega)] at h4
        exact absurd h4 (by decide)
    · rw [if_neg hc]
      have h10 : isAt u (sp u i) 10 = true := by
        cases hq : isAt u (sp u i) 10
        · exact absurd ⟨by omega, hq⟩ hc
        · rfl
      have hne : sp u i ≠ b := fun e => by
        have := isAt_eq h10
        rw [e, h46] at this
        exact absurd this (by decide)
      have hli : li u (sp u i) = sp u i := by
        unfold li
        rw [beh_go nlB u.data.toList (by rw [size_data]; omega), isAt_eq h10]
        rfl
      have hbe : beh u (sp u i) = sp u i + 1 := by
        unfold beh
        rw [hli, if_pos (by omega)]
      have hne2 : sp u i + 1 ≠ b := fun e => by
        have := isAt_eq h10
        rw [show sp u i = b - 1 by omega, h32] at this
        exact absurd this (by decide)
      rw [hbe, dif_pos (by omega)]
      cases m with
      | zero => omega
      | succ m => exact pass_to hb h46 h32 m _ (by omega) (by omega) (fun j a c => hj j (by omega) c)
theorem read_junk {f : Nat} (hf : f < u.size) (h32 : at0 u.data.toList f = 32) : (readS u f).ty = 3 := by
  have hn : nm u f = f := by
    unfold nm
    rw [if_neg (fun g => by rw [h32] at g; exact absurd g.2 (by decide))]
  have hh : hs u f = f := by
    unfold hs
    rw [beh_go hsB u.data.toList (by rw [size_data]; exact hf), h32]
    rfl
  have h45 : isAt u f 45 = false := by
    unfold isAt
    rw [h32]
    simp
  have hc : comS u f = none := by
    unfold comS
    have : (comL u f).1 = 0 := by
      unfold comL
      rw [hh, Nat.sub_self]
      split <;> rfl
    rw [if_pos this]
  have hm : msgS u f = none := by
    unfold msgS
    rw [h45, if_neg (by simp)]
    have : namedS u f = none := by unfold namedS; rw [if_pos hn]
    rw [this]
  unfold readS
  rw [hc, hm]
  rfl
theorem go_cons (s : ByteArray) {i : Nat} (hi : i < s.size) : parseGo s [] i = readS s i :: parseGo s [] (passE s (readS s i).tu) := by
  rw [(parseGo_step s [] i hi).1, List.nil_append, parseGo_acc s s.size _ _ (by omega)]
  rfl
theorem go_end (s : ByteArray) {i : Nat} (hi : ¬ i < s.size) : parseGo s [] i = [] := parseGo_end s [] i hi
theorem parse_pre (h : Pre u s) (hs : Sn u) : ∀ (m i : Nat), u.size - i ≤ m → i ≤ u.size → (∀ x ∈ parseGo u [] i, x.ty ≠ 3) → parseGo s [] i = parseGo u [] i ++ parseGo s [] u.size
  | m, i, hm, hi, hj => by
    have hl := h.lt
    by_cases hlt : i < u.size
    · rw [go_cons u hlt] at hj ⊢
      have hrp := read_pos hlt
      have hpp := passE_pos u u.size (readS u i).tu (by omega) hrp.2.1
      have hty := hj _ (List.mem_cons_self ..)
      have hsame : readS s i = readS u i := by
        have hbad : ∀ k, BadAt u k → k < u.size → isAt u k 10 = true → (readS u i).tu = beh u k → False := by
          intro k hb hk h10 htu
          obtain ⟨b1, b2⟩ := hb
          have hbl := isAt_lt b1
          have h46 := isAt_eq b1
          have hgt : k + 1 ≤ bl u k - 1 := by
            have hge := bl_ge u k
            have hk10 := isAt_eq h10
            have n1 : bl u k ≠ k := fun e => by rw [e, hk10] at h46; exact absurd h46 (by decide)
            have n2 : bl u k - 1 ≠ k := fun e => by rw [e, hk10] at b2; exact absurd b2 (by decide)
            omega
          have hli : li u k = k := by
            unfold li
            rw [beh_go nlB u.data.toList (by rw [size_data]; exact hk), isAt_eq h10]
            rfl
          have hbe : beh u k = k + 1 := by unfold beh; rw [hli, if_pos hk]
          have hp := pass_to hbl h46 b2 u.size (k + 1) (by omega) (by omega) (fun j a c => behN_so blB u.data.toList k j (by omega) c)
          rw [htu, hbe] at hj
          have hmem : readS u (passE u (k + 1)) ∈ readS u i :: parseGo u [] (passE u (k + 1)) := by
            rw [go_cons u hp.2]
            exact List.mem_cons_of_mem _ (List.mem_cons_self ..)
          exact hj _ hmem (read_junk hp.2 hp.1)
        unfold readS
        rw [com_pre h hlt]
        cases hc : comS u i with
        | some x => rfl
        | none =>
          dsimp only
          cases hmm : msgS u i with
          | some x =>
            rcases msg_pre h hs hlt hmm with g | ⟨k, g1, g2, g3, g4⟩
            · rw [g]
            · exfalso
              refine hbad k g1 g2 g3 ?_
              unfold readS
              rw [hc, hmm]
              exact g4
          | none =>
            exfalso
            apply hty
            unfold readS
            rw [hc, hmm]
            rfl
      rw [go_cons s (by omega), hsame, pass_pre h u.size _ (by omega) hrp.2.1, List.cons_append]
      congr 1
      cases m with
      | zero => omega
      | succ m => exact parse_pre h hs m _ (by omega) hpp.2 (fun x hx => hj x (List.mem_cons_of_mem _ hx))
    · obtain rfl : i = u.size := by omega
      rw [go_end u hlt, List.nil_append]
end
theorem parse_joins {u T : ByteArray} (hs : Sn u) (h2 : 2 ≤ u.size) (l1 : at0 u.data.toList (u.size - 1) = 10) (l2 : at0 u.data.toList (u.size - 2) = 10) (hT : 0 < T.size) (hx : at0 T.data.toList 0 = 120) (hj : ∀ x ∈ parseS u, x.ty ≠ 3) :
    parseS (u ++ T) = parseS u ++ (parseS T).map (shE u.size) := by
  have hsh := shf_app u T
  have hP : Pre u (u ++ T) := by
    refine ⟨by rw [ByteArray.size_append]; omega, ?_, h2, l1, l2, ?_⟩
    · rw [ByteArray.data_append, Array.toList_append, List.take_append_of_le_length (by rw [size_data]; exact Nat.le_refl _), List.take_of_length_le (by rw [size_data]; exact Nat.le_refl _)]
    · have := hsh.at_ 0
      rw [Nat.add_zero] at this
      rw [this, hx]
  have hp0 := pass_pre hP u.size 0 (by omega) (Nat.zero_le _)
  have hpp := passE_pos u u.size 0 (by omega) (Nat.zero_le _)
  have hT0 : passE T 0 = 0 := by
    have e1 : sp T 0 = 0 := by
      unfold sp
      rw [beh_go spB T.data.toList (by rw [size_data]; exact hT), hx]
      rfl
    rw [passE.eq_def T 0, dif_pos hT, e1, if_pos ⟨hT, by unfold isAt; rw [hx]; simp⟩]
  unfold parseS at hj ⊢
  rw [hp0, parse_pre hP hs u.size _ (by omega) hpp.2 hj, hT0]
  have := parseGo_sh hsh T.size 0 (by omega)
  rw [Nat.add_zero] at this
  rw [this]
end Go.Proofs.YtdoambpiafkmmaaGreatDoor

namespace Go.Proofs.YtdoambpiafkmmaaGreatDoor
open Go.RowKit
set_option linter.unusedVariables false
set_option linter.unusedSimpArgs false
structure Fr where
  e : EX
  xs : List AR
  want : Bool
def upS (P : Nat → Res) (s : ByteArray) : List Fr → EX → Nat → Res
  | [], e, m => some (e, m)
  | f :: r, e, m => if addOk f.xs E0 e = true then (match argsS P s (f.xs ++ [.mk E0 e]) true m with
      | none => none
      | some (xs, q) => upS P s r (withArgs f.e xs) q) else none
def runS (P : Nat → Res) (s : ByteArray) (f : Fr) (r : List Fr) (i : Nat) : Res := match argsS P s f.xs f.want i with
  | none => none
  | some (xs, q) => upS P s r (withArgs f.e xs) q
section
variable {P : Nat → Res} {s : ByteArray} {f g : Fr} {r : List Fr} {i j : Nat} {n : ByteArray} {e : EX}
theorem upS_cons : upS P s (g :: r) e i = if addOk g.xs E0 e = true then runS P s ⟨g.e, g.xs ++ [.mk E0 e], true⟩ r i else none := by
  rw [upS]
  rfl
theorem runS_close (hc : isAt s (bl s i) 41 = true) : runS P s f r i = upS P s r (withArgs f.e f.xs) (bl s i + 1) := by
  unfold runS
  rw [argsS, if_pos hc]
theorem runS_comma (hc : isAt s (bl s i) 41 = false) (hw : f.want = true) : runS P s f r i = if isAt s (bl s i) 44 = true then runS P s ⟨f.e, f.xs, false⟩ r (bl s i + 1) else none := by
  unfold runS
  rw [argsS, hc, hw]
  by_cases h : isAt s (bl s i) 44 = true
  · simp [h]
  · simp [h]
theorem runS_none (hc : isAt s (bl s i) 41 = false) (hw : f.want = false) (ha : argS P s (bl s i) = none) : runS P s f r i = none := by
  unfold runS
  rw [argsS, hc, hw, ha]
  simp
theorem runS_open (hP : PosOk s P) (hi : i ≤ s.size) (hc : isAt s (bl s i) 41 = false) (hw : f.want = false) (ha : argS P s (bl s i) = some (n, e, j)) (ho : (emp n && (opnS s e j).1) = true) :
    runS P s f r i = runS P s ⟨opnE e, [], false⟩ (f :: r) (opnS s e j).2 := by
  have h1 := bl_ok s i hi
  have h2 := arg_pos hP h1.2 ha
  have h3 := opn_pos e h2.2
  rw [runS, argsS, hc, hw, ha]
  dsimp only
  rw [if_neg (by simp), if_neg (by simp), if_pos ho, dif_pos ⟨by omega, h3.2⟩]
  unfold runS
  dsimp only
  cases hh : argsS P s [] false (opnS s e j).2 with
  | none => rfl
  | some p =>
    obtain ⟨xs', m⟩ := p
    have h4 := args_pos hP _ _ _ _ (Nat.le_refl _) h3.2 _ _ hh
    dsimp only
    rw [dif_pos ⟨by omega, h4.2⟩, upS]
    by_cases hk : addOk f.xs E0 (withArgs (opnE e) xs') = true
    · rw [if_pos hk, if_pos hk]
    · rw [if_neg hk, if_neg hk]
theorem runS_add (hP : PosOk s P) (hi : i ≤ s.size) (hc : isAt s (bl s i) 41 = false) (hw : f.want = false) (ha : argS P s (bl s i) = some (n, e, j)) (ho : (emp n && (opnS s e j).1) = false) :
    runS P s f r i = if addOk f.xs n e = true then runS P s ⟨f.e, f.xs ++ [.mk n e], true⟩ r (if emp n = true then (opnS s e j).2 else j) else none := by
  have h1 := bl_ok s i hi
  have h2 := arg_pos hP h1.2 ha
  have h3 := opn_pos e h2.2
  have h4 : i < (if emp n = true then (opnS s e j).2 else j) ∧ (if emp n = true then (opnS s e j).2 else j) ≤ s.size := by
    split <;> omega
  rw [runS, argsS, hc, hw, ha]
  dsimp only
  rw [if_neg (by simp), if_neg (by simp), if_neg (by rw [ho]; simp), dif_pos h4]
  by_cases hk : addOk f.xs n e = true
  · rw [if_pos hk, if_pos hk]; rfl
  · rw [if_neg hk, if_neg hk]
theorem inl_run {e : EX} (hh : headS P s i = some (e, j)) : inlS P s i = if (opnS s e j).1 = true then runS P s ⟨opnE e, [], false⟩ [] (opnS s e j).2 else some (e, (opnS s e j).2) := by
  unfold inlS
  rw [hh]
  dsimp only
  split
  · unfold runS
    dsimp only
    cases argsS P s [] false (opnS s e j).2 with
    | none => rfl
    | some p => rfl
  · rfl
theorem inl_none (hh : headS P s i = none) : inlS P s i = none := by
  unfold inlS
  rw [hh]
end
def seenOf (xs : List AR) : List ByteArray := ((xs.filter fun x => !emp (arName x)).map arName).reverse
theorem seenOf_snoc (xs : List AR) (n : ByteArray) (e : EX) : seenOf (xs ++ [.mk n e]) = if emp n = true then seenOf xs else n :: seenOf xs := by
  unfold seenOf
  rw [List.filter_append]
  by_cases h : emp n = true
  · simp [arName, h]
  · simp [arName, h]
theorem seenOf_empty (xs : List AR) : (xs.all fun x => emp (arName x)) = decide ((seenOf xs).length = 0) := by
  unfold seenOf
  rw [List.length_reverse, List.length_map, Bool.eq_iff_iff, List.all_eq_true, decide_eq_true_iff, List.length_eq_zero_iff, List.filter_eq_nil_iff]
  simp
theorem seenOf_mem (xs : List AR) (n : ByteArray) (hn : emp n = false) : (xs.any fun x => decide (arName x = n)) = memB n (seenOf xs) := by
  unfold seenOf memB
  rw [List.any_reverse, List.any_map, List.any_filter]
  congr 1
  funext x
  by_cases h : arName x = n
  · subst h
    simp [hn]
  · have h' : ¬ n = arName x := fun e => h e.symm
    simp [h, h']
def AZip (W : World) (F : Nat → Prop) : List AR → List Value → Prop
  | [], xs => xs = []
  | .mk n e :: r, xs => ∃ c ys, xs = .string n :: c.k :: c.t :: c.n :: c.a :: c.al :: c.i :: c.vs :: ys ∧ ExF W F e c ∧ AZip W F r ys
theorem AZip.snoc {W : World} {F : Nat → Prop} {n : ByteArray} {e : EX} {c : C7} (he : ExF W F e c) : ∀ (acc : List AR) (xs : List Value), AZip W F acc xs → AZip W F (acc ++ [.mk n e]) (xs ++ [.string n, c.k, c.t, c.n, c.a, c.al, c.i, c.vs])
  | [], xs, h => by
    rw [AZip] at h
    subst h
    exact ⟨c, [], rfl, he, rfl⟩
  | .mk n' e' :: r, xs, h => by
    rw [AZip] at h
    obtain ⟨c', ys, rfl, h2, h3⟩ := h
    exact ⟨c', _, rfl, h2, AZip.snoc he r ys h3⟩
theorem AZip.carry {W W' : World} {F F' : Nat → Prop} (g : ∀ b, F b → F' b ∧ W'.heap[b]? = W.heap[b]?) : ∀ (acc : List AR) (xs : List Value), AZip W F acc xs → AZip W' F' acc xs
  | [], xs, h => by rw [AZip] at h ⊢; exact h
  | .mk t' p' :: r, xs, h => by
    rw [AZip] at h
    obtain ⟨c', ys, rfl, h2, h3⟩ := h
    exact ⟨c', ys, rfl, h2.carry g, AZip.carry g r ys h3⟩
theorem AZip.as {W : World} {F : Nat → Prop} {g : Nat} (hg : F g) : ∀ (acc : List AR) (xs : List Value) (o : Nat), (∀ j x, xs[j]? = some x → W.cell? ⟨g, o + j, none⟩ = some x) → AZip W F acc xs → AsF W F acc g o
  | [], xs, o, hc, h => by rw [AsF]; trivial
  | .mk n e :: r, xs, o, hc, h => by
    rw [AZip] at h
    obtain ⟨c, ys, rfl, h2, h3⟩ := h
    rw [AsF]
    refine ⟨hg, hc 0 _ rfl, ⟨c, ⟨?_, ?_, ?_, ?_, ?_, ?_, ?_⟩, h2⟩, AZip.as hg r ys (o + 8) (fun j x hx => ?_) h3⟩
    · exact hc 1 _ rfl
    · have := hc 2 _ rfl; rwa [show o + 1 + 1 = o + 2 by omega]
    · have := hc 3 _ rfl; rwa [show o + 1 + 2 = o + 3 by omega]
    · have := hc 4 _ rfl; rwa [show o + 1 + 3 = o + 4 by omega]
    · have := hc 5 _ rfl; rwa [show o + 1 + 4 = o + 5 by omega]
    · have := hc 6 _ rfl; rwa [show o + 1 + 5 = o + 6 by omega]
    · have := hc 7 _ rfl; rwa [show o + 1 + 6 = o + 7 by omega]
    · have := hc (j + 8) x (by simpa using hx)
      rw [show o + 8 + j = o + (j + 8) by omega]
      exact this
def OwnA (B : Nat) (W : World) (F : Nat → Prop) (v : Value) (acc : List AR) : Prop := ∃ xs, W.ownsRow B 58 8 v acc.length xs ∧ AZip W F acc xs
theorem OwnA.nil (B : Nat) (W : World) (F : Nat → Prop) : OwnA B W F (.slice none 0 0) [] := ⟨[], World.ownsRow_nil _ _ _ _, rfl⟩
def NmOk (B : Nat) (W : World) (v : Value) (seen : List ByteArray) (n : Nat) : Prop := (v = .map none ∧ seen = []) ∨ ∃ b, v = .map (some b) ∧ B ≤ b ∧ 0 < seen.length ∧ NamesAt W b n seen
def mapBlockOf : Value → Option Nat
  | .map b => b
  | _ => none
end Go.Proofs.YtdoambpiafkmmaaGreatDoor
