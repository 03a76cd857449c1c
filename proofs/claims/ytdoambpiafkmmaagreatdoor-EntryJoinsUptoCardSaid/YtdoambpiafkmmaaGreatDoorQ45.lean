/-
  Several texts put together (part 45): what the law and the program call, walked; their contracts.
-/
import Derived.Test.YtdoambpiafkmmaaGreatDoorQ43
import Derived.Test.YtdoambpiafkmmaaGreatDoorQ44
import Derived.Test.YtdoambpiafkmmaaGreatDoorQ30
import Derived.Test.YtdoambpiafkmmaaGreatDoorQ25
namespace Go.Proofs.YtdoambpiafkmmaaGreatDoor
open Go.RowKit
set_option linter.unusedVariables false
set_option linter.unusedSimpArgs false
theorem tw_stop (p : UInt8 → Bool) (c : UInt8) (r : List UInt8) (hc : p c = false) : ∀ l : List UInt8, (l ++ c :: r).takeWhile p = l.takeWhile p
  | [] => by rw [List.nil_append, List.takeWhile_cons, hc]; rfl
  | a :: l => by
    rw [List.cons_append, List.takeWhile_cons, List.takeWhile_cons, tw_stop p c r hc l]
theorem tw_alls (p : UInt8 → Bool) : ∀ l : List UInt8, (∀ x ∈ l, p x = true) → l.takeWhile p = l
  | [], _ => rfl
  | a :: l, h => by rw [List.takeWhile_cons, h a (by simp), if_pos rfl, tw_alls p l (fun x hx => h x (by simp [hx]))]
def flat (L : List UInt8) : Prop := ∀ x ∈ L, x ≠ 10 ∧ x ≠ 123 ∧ x ≠ 125
def lnT (L : List UInt8) : ByteArray := mkB ([109, 32, 61] ++ (L ++ [10]))
section
variable (L : List UInt8)
theorem ln_size : (lnT L).size = 4 + L.length := by unfold lnT; rw [mkB_size]; simp; omega
theorem ln0 : lnT L = mkB ([] ++ 109 :: (32 :: 61 :: (L ++ [10]))) := rfl
theorem ln1 : lnT L = mkB ([109] ++ 32 :: (61 :: (L ++ [10]))) := rfl
theorem ln2 : lnT L = mkB ([109, 32] ++ 61 :: (L ++ [10])) := rfl
theorem ln3 : lnT L = mkB ([109, 32, 61] ++ (L ++ [10])) := rfl
theorem lnE : lnT L = mkB (([109, 32, 61] ++ L) ++ 10 :: []) := by unfold lnT; rw [List.append_assoc]
theorem lnF : lnT L = mkB (([109, 32, 61] ++ L ++ [10]) ++ []) := by unfold lnT; rw [List.append_nil, List.append_assoc]
theorem lenE : ([109, 32, 61] ++ L : List UInt8).length = 3 + L.length := by simp; omega
theorem lenF : ([109, 32, 61] ++ L ++ [10] : List UInt8).length = 4 + L.length := by simp; omega
theorem ln_nm : nm (lnT L) 0 = 1 := by
  rw [ln0]
  show nm (mkB ([] ++ 109 :: (32 :: 61 :: (L ++ [10])))) ([] : List UInt8).length = 1
  unfold nm
  rw [mkB_list, at0_app, mkB_size, if_pos ⟨by simp, by decide⟩, behN_app, List.takeWhile_cons, List.takeWhile_cons]
  simp [show naB 109 = true by decide, show naB 32 = false by decide]
theorem ln_sp1 : sp (lnT L) 1 = 2 := by
  rw [ln1]
  show sp (mkB ([109] ++ 32 :: (61 :: (L ++ [10])))) ([109] : List UInt8).length = 2
  unfold sp
  rw [mkB_list, behN_app, List.takeWhile_cons, List.takeWhile_cons]
  simp [show spB 32 = true by decide, show spB 61 = false by decide]
theorem ln_is2 : isAt (lnT L) 2 61 = true := by
  rw [ln2]
  exact (isAt_app [109, 32] (L ++ [10]) 61 61).trans rfl
theorem ln_is0 (c : UInt8) : isAt (lnT L) 0 c = (109 == c) := by
  rw [ln0]
  exact isAt_app [] (32 :: 61 :: (L ++ [10])) 109 c
theorem ln_isE (c : UInt8) : isAt (lnT L) (3 + L.length) c = (10 == c) := by
  rw [lnE, ← lenE]
  exact isAt_app ([109, 32, 61] ++ L) [] 10 c
theorem ln_isF (c : UInt8) : isAt (lnT L) (4 + L.length) c = false := by
  unfold isAt
  rw [ln_size, decide_eq_false (by omega), Bool.false_and]
theorem ln_sp3 : sp (lnT L) 3 = 3 + (L.takeWhile spB).length := by
  rw [ln3]
  show sp (mkB ([109, 32, 61] ++ (L ++ [10]))) ([109, 32, 61] : List UInt8).length = _
  unfold sp
  rw [mkB_list, behN_app, tw_stop spB 10 [] (by decide)]
  rfl
theorem ln_spF : sp (lnT L) (4 + L.length) = 4 + L.length := by
  rw [lnF, ← lenF]
  unfold sp
  rw [mkB_list, behN_app]
  rfl
theorem ln_blE : bl (lnT L) (3 + L.length) = 4 + L.length := by
  rw [lnE, ← lenE]
  rw [bl_app, lenE, List.takeWhile_cons, show blB 10 = true by decide]
  simp
  omega
theorem ln_tx (hL : flat L) : tx (lnT L) (3 + (L.takeWhile spB).length) = 3 + L.length := by
  have e : lnT L = mkB (([109, 32, 61] ++ L.takeWhile spB) ++ (L.dropWhile spB ++ [10])) := by
    unfold lnT
    rw [List.append_assoc, ← List.append_assoc (L.takeWhile spB), List.takeWhile_append_dropWhile]
  have el : ([109, 32, 61] ++ L.takeWhile spB : List UInt8).length = 3 + (L.takeWhile spB).length := by simp; omega
  have hd : (L.takeWhile spB).length + (L.dropWhile spB).length = L.length := by rw [← List.length_append, List.takeWhile_append_dropWhile]
  rw [e, ← el]
  unfold tx
  rw [mkB_list, behN_app, tw_stop txB 10 [] (by decide), tw_alls txB, el]
  · omega
  · intro x hx
    have hm : x ∈ L := by rw [← List.takeWhile_append_dropWhile (p := spB) (l := L)]; exact List.mem_append_right _ hx
    obtain ⟨h1, h2, h3⟩ := hL x hm
    unfold txB
    simp [h1, h2, h3]
theorem ln_li (hL : flat L) : li (lnT L) 0 = 3 + L.length := by
  have e : lnT L = mkB ([] ++ (([109, 32, 61] ++ L) ++ 10 :: [])) := lnE L
  rw [e]
  show li (mkB ([] ++ (([109, 32, 61] ++ L) ++ 10 :: []))) ([] : List UInt8).length = _
  unfold li
  rw [mkB_list, behN_app, tw_stop nlB 10 [] (by decide), tw_alls nlB, lenE]
  · rw [List.length_nil]; omega
  · intro x hx
    rcases List.mem_append.1 hx with h | h
    · simp at h; rcases h with rfl | rfl | rfl <;> decide
    · have := (hL x h).1
      unfold nlB
      simp [this]
theorem ln_liE : li (lnT L) (3 + L.length) = 3 + L.length := by
  rw [lnE, ← lenE]
  unfold li
  rw [mkB_list, behN_app, List.takeWhile_cons, show nlB 10 = false by decide]
  rfl
theorem ln_beh0 (hL : flat L) : beh (lnT L) 0 = 4 + L.length := by
  unfold beh
  rw [ln_li L hL, ln_size, if_pos (by omega)]
  omega
theorem ln_behE : beh (lnT L) (3 + L.length) = 4 + L.length := by
  unfold beh
  rw [ln_liE L, ln_size, if_pos (by omega)]
  omega
theorem ln_com (hL : flat L) : comS (lnT L) 0 = none := by
  have h : comL (lnT L) 0 = (0, E0) := by
    unfold comL
    have hh : hs (lnT L) 0 = 0 := by
      rw [ln0]
      show hs (mkB ([] ++ 109 :: (32 :: 61 :: (L ++ [10])))) ([] : List UInt8).length = 0
      unfold hs
      rw [mkB_list, behN_app, List.takeWhile_cons, show hsB 109 = false by decide]
      rfl
    rw [hh, ln_li L hL, ln_is0, if_pos (Or.inr ⟨by omega, rfl⟩)]
  unfold comS
  rw [h, if_pos rfl]
def ownT : List UInt8 := trimR (L.dropWhile spB)
def ownL : List EL := if ownT L = [] then [] else [.mk (mkB (ownT L)) none]
theorem ln_next : nextS (lnT L) (3 + L.length) = none := by
  have h : nlS (lnT L) 0 (3 + L.length) (3 + L.length) = (1, 4 + L.length, 4 + L.length) := by
    rw [nlS, dif_pos (by rw [ln_isE]; rfl), show 3 + L.length + 1 = 4 + L.length by omega, ln_spF, nlS, dif_neg (by rw [ln_isF]; simp)]
  unfold nextS
  rw [h, if_pos (Or.inl rfl)]
theorem ext_ln : ((lnT L).extract (3 + (L.takeWhile spB).length) (3 + L.length)).data.toList = L.dropWhile spB := by
  have el : ([109, 32, 61] ++ L.takeWhile spB : List UInt8).length = 3 + (L.takeWhile spB).length := by simp; omega
  have e : ([109, 32, 61] ++ L : List UInt8) = ([109, 32, 61] ++ L.takeWhile spB) ++ L.dropWhile spB := by
    rw [List.append_assoc, List.takeWhile_append_dropWhile]
  rw [lnE, extract_list, mkB_list, ← lenE L, List.take_left, e, ← el, List.drop_left]
theorem ln_pat (P : Nat → Res) (hL : flat L) : patS P (lnT L) 3 = some (ownL L, 3 + L.length) := by
  have hp : partsS P (lnT L) [] (3 + (L.takeWhile spB).length) = some (addT (lnT L) [] (3 + (L.takeWhile spB).length) (3 + L.length), 3 + L.length) := by
    rw [partsS, ln_tx L hL, ln_isE, if_neg (by decide)]
  have hd : (L.takeWhile spB).length + (L.dropWhile spB).length = L.length := by rw [← List.length_append, List.takeWhile_append_dropWhile]
  have hj : joinS [⟨0, 0, addT (lnT L) [] (3 + (L.takeWhile spB).length) (3 + L.length)⟩] = ownL L := by
    unfold joinS ownL ownT addT
    by_cases h : (L.takeWhile spB).length < L.length
    · rw [if_pos (by omega)]
      have hx := ext_ln L
      obtain ⟨X, hX⟩ : ∃ X, (lnT L).extract (3 + (L.takeWhile spB).length) (3 + L.length) = X := ⟨_, rfl⟩
      rw [hX] at hx ⊢
      simp [lineJ, headJ, partJ, endS, hx]
    · have h0 : L.dropWhile spB = [] := List.eq_nil_of_length_eq_zero (by omega)
      rw [if_neg (by omega), h0]
      simp [lineJ, headJ, partJ, endS, trimR]
  unfold patS
  rw [ln_sp3, linesS, hp]
  dsimp only
  rw [ln_next]
  dsimp only
  rw [List.nil_append, hj]
theorem ln_named (hL : flat L) : namedS (lnT L) 0 = some (⟨#[109]⟩, ownL L, 3 + L.length) := by
  unfold namedS
  rw [ln_nm, ln_sp1, if_neg (by decide), if_pos (ln_is2 L), ln_pat L _ hL]
  dsimp only
  rw [if_pos (Or.inr (by rw [ln_isE]; rfl))]
  rfl
theorem ln_ats : atsS (lnT L) [] (3 + L.length) = ([], 3 + L.length) := by
  have h : attrS (lnT L) (3 + L.length) = none := by
    unfold attrS
    rw [ln_blE, ln_isF, Bool.false_and, if_neg (by simp)]
  rw [atsS, h]
def lnEntry : EN := if ownT L = [] then ⟨3, 0, lnT L, E0, [], [], 0, 4 + L.length⟩ else ⟨1, 0, E0, ⟨#[109]⟩, [.mk (mkB (ownT L)) none], [], 0, 4 + L.length⟩
theorem ln_read (hL : flat L) : readS (lnT L) 0 = lnEntry L := by
  unfold readS
  rw [ln_com L hL]
  dsimp only
  unfold msgS
  rw [ln_is0, if_neg (by decide), ln_named L hL]
  dsimp only
  rw [ln_ats]
  dsimp only
  rw [ln_behE]
  unfold ownL lnEntry
  by_cases h : ownT L = []
  · rw [if_pos h, if_pos h, if_neg (by decide)]
    dsimp only
    unfold junkS
    rw [ln_beh0 L hL, junk_end (lnT L) (4 + L.length) (by rw [ln_size]; omega)]
    have : (lnT L).extract 0 (4 + L.length) = lnT L := by
      apply bytes_eq
      rw [extract_list, List.take_of_length_le (by rw [size_data, ln_size]; omega)]
      rfl
    rw [this]
  · rw [if_neg h, if_neg h, if_pos (by rfl)]
    rfl
theorem ln_parse (hL : flat L) : parseS (lnT L) = [lnEntry L] := by
  have h0 : passE (lnT L) 0 = 0 := by
    have hsp : sp (lnT L) 0 = 0 := by
      rw [ln0]
      show sp (mkB ([] ++ 109 :: (32 :: 61 :: (L ++ [10])))) ([] : List UInt8).length = 0
      unfold sp
      rw [mkB_list, behN_app, List.takeWhile_cons, show spB 109 = false by decide]
      rfl
    rw [passE, dif_pos (by rw [ln_size]; omega), if_pos ⟨by rw [hsp, ln_size]; omega, by rw [hsp, ln_is0]; rfl⟩]
  have h1 : (lnEntry L).tu = 4 + L.length := by unfold lnEntry; split <;> rfl
  have h2 : passE (lnT L) (4 + L.length) = 4 + L.length := by rw [passE, dif_neg (by rw [ln_size]; omega)]
  unfold parseS
  rw [h0, (parseGo_step (lnT L) [] 0 (by rw [ln_size]; omega)).1, ln_read L hL, h1, h2, parseGo_end _ _ _ (by rw [ln_size]; omega)]
  rfl
end
end Go.Proofs.YtdoambpiafkmmaaGreatDoor

namespace Go.Proofs.YtdoambpiafkmmaaGreatDoor
open Go.RowKit
set_option linter.unusedVariables false
set_option linter.unusedSimpArgs false
theorem emp_is (X : ByteArray) : X.toList.isEmpty = decide (X.size = 0) := by
  have h := ext_empty X 0 X.size (Nat.zero_le _) (Nat.le_refl _)
  rw [show X.extract 0 X.size = X by apply bytes_eq; rw [extract_list, List.take_of_length_le (by rw [size_data]; exact Nat.le_refl _)]; rfl] at h
  exact h
theorem spB_nat (c : UInt8) : spB c = decide (c.toNat = 32) := by
  unfold spB
  by_cases h : c.toNat = 32
  · rw [decide_eq_true (by omega), decide_eq_true h]
  · rw [decide_eq_false (by omega), decide_eq_false h]
theorem drop_first (X : ByteArray) (h : 0 < X.size) : X.data.toList = X[0]'h :: (X.extract 1 X.size).data.toList := by
  rw [extract_drop]
  have hl : 0 < X.data.toList.length := by rw [size_data]; exact h
  have := List.drop_eq_getElem_cons hl
  rw [List.drop_zero] at this
  exact this
theorem dw_first (X : ByteArray) (h : 0 < X.size) : X.data.toList.dropWhile spB = if (X[0]'h).toNat = 32 then (X.extract 1 X.size).data.toList.dropWhile spB else X.data.toList := by
  rw [drop_first X h, List.dropWhile_cons, spB_nat]
  by_cases h2 : (X[0]'h).toNat = 32
  · rw [decide_eq_true h2, if_pos rfl, if_pos h2]
  · rw [decide_eq_false h2, if_neg (by simp), if_neg h2]
theorem take_last (X : ByteArray) (k : Nat) (h : X.size = k + 1) : X.data.toList = (X.extract 0 k).data.toList ++ [X[k]'(by omega)] := by
  have hl : k < X.data.toList.length := by rw [size_data]; omega
  have e1 : (X.extract 0 k).data.toList = X.data.toList.take k := by rw [extract_list]; rfl
  rw [e1]
  have := List.take_succ_eq_append_getElem hl
  rw [List.take_of_length_le (by rw [size_data]; omega)] at this
  exact this
theorem trim_last (X : ByteArray) (k : Nat) (h : X.size = k + 1) : trimR X.data.toList = if (X[k]'(by omega)).toNat = 32 then trimR (X.extract 0 k).data.toList else X.data.toList := by
  rw [take_last X k h]
  unfold trimR
  rw [List.reverse_append]
  show (List.dropWhile _ (X[k]'(by omega) :: (X.extract 0 k).data.toList.reverse)).reverse = _
  rw [List.dropWhile_cons]
  by_cases h2 : (X[k]'(by omega)).toNat = 32
  · rw [if_pos h2, if_pos]
    rw [beq_iff_eq]
    exact UInt8.toNat_inj.1 h2
  · rw [if_neg h2, if_neg]
    · simp
    · rw [beq_iff_eq]
      exact fun e => h2 (by rw [e]; rfl)
theorem flat_step {L : List UInt8} {i : Nat} (hi : i < L.length) (h : flat (L.take i)) (h1 : L[i].toNat ≠ 10) (h2 : L[i].toNat ≠ 123) (h3 : L[i].toNat ≠ 125) : flat (L.take (i + 1)) := by
  rw [List.take_succ_eq_append_getElem hi]
  intro x hx
  rcases List.mem_append.1 hx with hx | hx
  · exact h x hx
  · simp at hx
    subst hx
    exact ⟨fun e => h1 (by rw [e]; rfl), fun e => h2 (by rw [e]; rfl), fun e => h3 (by rw [e]; rfl)⟩
theorem line_text (s : ByteArray) : (⟨#[109, 32, 61]⟩ : ByteArray) ++ s ++ ⟨#[10]⟩ = lnT s.data.toList := by
  apply bytes_eq
  unfold lnT
  rw [mkB_list]
  simp
theorem elem_pat (W : World) (X : ByteArray) (k : Nat) (h : BoxAt W k #[.string X, .pointer none] 54) : PatAt W [.mk X none] (.slice (some ⟨k, 0, none⟩) 1 1) := by
  refine ⟨some ⟨k, 0, none⟩, 1, rfl, by simp, by decide, fun _ => ⟨k, 0, rfl, ?_⟩⟩
  rw [EsAt]
  exact ⟨h.lt, h.cell 0, ⟨.pointer none, h.cell 1, by simp only [OAt]⟩, by rw [EsAt]; trivial⟩
theorem PatF.at_ {W : World} {F : Nat → Prop} (g : ∀ b, F b → b < W.heap.size) {l : List EL} {v : Value} (h : PatF W F l v) : PatAt W l v := LieAt.imp h (fun b o => EsF.at_ g l b o)
set_option maxHeartbeats 16000000 in
set_option maxRecDepth 1000000 in
theorem lawELines (s : ByteArray) (w : World) (hT : TabU w) (hs : s.size ≤ 2000000) : Calls Tryz.prog 7 #[.string s] w fun e w' => e = .returned (.bool true) ∧ Below w.heap.size w w' := by
  have H9 := Lib.hid (head09_any w)
  have hTx := fun W (h : Below w.heap.size w W) => text_any s W (hT.below h) (by omega)
  obtain ⟨k, hk⟩ : ∃ k, textOk s = k := ⟨_, rfl⟩
  rw [hk] at hTx
  have HTx := Lib.hid hTx
  have HK := Lib.hid hk
  clear hTx hk hT
  go_enter Tryz.func7, Tryz.ntmps7
  go_wp2_with fail
  go_at_call 14
  refine (H9.out).mono ?_
  rintro e w1 ⟨rfl, b1⟩
  have B1 := Lib.hid b1
  clear b1
  go_wp2_with fail
  go_at_call 9
  refine (HTx.out _ B1.out).mono ?_
  rintro e w2 ⟨rfl, b2⟩
  have B2 := Lib.hid (B1.out.trans (b2.mono B1.out.size))
  clear b2 B1
  cases k
  case false =>
    go_wp2
    go_ret
    exact ⟨rfl, B2.out⟩
  have h400 : s.size ≤ 400 := by
    have := HK.out
    unfold textOk at this
    rw [Bool.and_eq_true, decide_eq_true_iff] at this
    exact this.2
  have hss : (s.size : Int) ≤ 400 := by omega
  obtain ⟨L, hL⟩ : ∃ L, s.data.toList = L := ⟨_, rfl⟩
  have hLs : L.length = s.size := by rw [← hL, size_data]
  have HL := Lib.hid hL
  clear hL
  go_wp2
  go_loopw [3] (fun t3 wr => ∃ i : Nat, t3 = .int .i64 i ∧ i ≤ s.size ∧ Hid (flat (L.take i)) ∧ wr = w2) (fun t3 _ => s.size - (intOf t3).toNat)
  case atStart => exact ⟨0, rfl, Nat.zero_le _, Lib.hid (fun x hx => by simp at hx), rfl⟩
  case round =>
    obtain ⟨i, rfl, hi, HF, rfl⟩ := hrel
    have hi0 : (i : Int) ≤ 400 := by omega
    by_cases hlt : i < s.size
    · have d1 : decide ((i : Int) < (s.size : Int)) = true := decide_eq_true (by omega)
      have d2 : (i : Int) < (s.size : Int) := by omega
      have hLi : i < L.length := by omega
      have hst := flat_step (L := L) (i := i) hLi HF.out
      have hcL : (L[i]'hLi) = s[i]'hlt := by
        have := HL.out
        subst this
        rfl
      rw [hcL] at hst
      obtain ⟨c, hc⟩ : ∃ c, (s[i]'hlt).toNat = c := ⟨_, rfl⟩
      rw [hc] at hst
      have Hst := Lib.hid hst
      clear hst hcL
      by_cases c1 : c = 10
      · have e1 : ((c : Int) == 10) = true := beq_iff_eq.2 (by omega)
        clear c1
        go_wp2
        go_ret
        exact ⟨rfl, B2.out⟩
      have e1 : ((c : Int) == 10) = false := beq_eq_false_iff_ne.2 (by omega)
      by_cases c2 : c = 123
      · have e2 : ((c : Int) == 123) = true := beq_iff_eq.2 (by omega)
        clear c1 c2
        go_wp2
        go_ret
        exact ⟨rfl, B2.out⟩
      have e2 : ((c : Int) == 123) = false := beq_eq_false_iff_ne.2 (by omega)
      by_cases c3 : c = 125
      · have e3 : ((c : Int) == 125) = true := beq_iff_eq.2 (by omega)
        clear c1 c2 c3
        go_wp2
        go_ret
        exact ⟨rfl, B2.out⟩
      have e3 : ((c : Int) == 125) = false := beq_eq_false_iff_ne.2 (by omega)
      have Hfl := Lib.hid (Hst.out c1 c2 c3)
      clear c1 c2 c3
      go_wp2
      go_roundw
      case rel => exact ⟨i + 1, by go_num, hlt, Hfl, trivial⟩
      case measure => simp [intOf]; omega
    have d1 : decide ((i : Int) < (s.size : Int)) = false := decide_eq_false (by omega)
    have d2 : ¬ (i : Int) < (s.size : Int) := by omega
    have hfl : flat L := by have := HF.out; rwa [List.take_of_length_le (by omega)] at this
    have hpar := fun W => parse_call (pat_calls (s := lnT L) (by rw [ln_size]; omega)) (by rw [ln_size]; omega) W
    rw [ln_parse L hfl, ← HL.out, ← line_text] at hpar
    rw [HL.out] at hpar
    have HPar := Lib.hid hpar
    have hsz1 : (⟨#[109, 32, 61]⟩ ++ s : ByteArray).size ≤ 403 := by rw [ByteArray.size_append]; show 3 + s.size ≤ 403; omega
    have hsz2 : (⟨#[109, 32, 61]⟩ ++ s ++ ⟨#[10]⟩ : ByteArray).size ≤ 404 := by rw [ByteArray.size_append, ByteArray.size_append]; show 3 + s.size + 1 ≤ 404; omega
    clear hfl HF hpar
    go_wp2
    go_loopw [4] (fun t4 wq => ∃ X : ByteArray, t4 = .string X ∧ X.size ≤ 400 ∧ Hid (X.data.toList.dropWhile spB = L.dropWhile spB) ∧ wq = wr) (fun t4 _ => strSize t4)
    case atStart => exact ⟨s, rfl, h400, Lib.hid (by rw [HL.out]), rfl⟩
    case round =>
      obtain ⟨X, rfl, hX, HX, hwq⟩ := hrel
      subst hwq
      have hX0 : (X.size : Int) ≤ 400 := by omega
      have hem := emp_is X
      have hcase : (∃ h : 0 < X.size, (X[0]'h).toNat = 32) ∨ (X.size = 0 ∨ ∃ h : 0 < X.size, (X[0]'h).toNat ≠ 32) := by
        by_cases h : 0 < X.size
        · by_cases h2 : (X[0]'h).toNat = 32
          · exact Or.inl ⟨h, h2⟩
          · exact Or.inr (Or.inr ⟨h, h2⟩)
        · exact Or.inr (Or.inl (by omega))
      rcases hcase with ⟨h, h32⟩ | hstop
      · have hne : X.toList.isEmpty = false := by rw [hem, decide_eq_false (by omega)]
        have hd := dw_first X h
        rw [if_pos h32] at hd
        have Hd := Lib.hid (hd.symm.trans HX.out)
        have hz : (X.extract 1 X.size).size = X.size - 1 := by rw [ByteArray.size_extract]; omega
        obtain ⟨c, hc⟩ : ∃ c, (X[0]'h).toNat = c := ⟨_, rfl⟩
        rw [hc] at h32
        have e1 : ((c : Int) == 32) = true := beq_iff_eq.2 (by omega)
        have hX1 : (1 : Int) ≤ (X.size : Int) := by omega
        clear hd hem h32 HX
        go_wp2
        go_roundw
        case rel => exact ⟨X.extract 1 X.size, rfl, by omega, Hd, trivial⟩
        case measure => show (X.extract 1 X.size).size < X.size; omega
      have hD : X.data.toList = L.dropWhile spB := by
        rcases hstop with h | ⟨h, h2⟩
        · rw [← HX.out, show X.data.toList = [] from List.eq_nil_of_length_eq_zero (by rw [size_data]; exact h)]; rfl
        · rw [← HX.out, dw_first X h, if_neg h2]
      have HD := Lib.hid hD
      clear hD HX
      rcases hstop with h | ⟨h, h2⟩
      case inl =>
        have hne : X.toList.isEmpty = true := by rw [hem, decide_eq_true h]
        clear hem
        go_wp2
        go_loopw [4] (fun t4 wz => ∃ Y : ByteArray, t4 = .string Y ∧ Y.size ≤ 400 ∧ Hid (trimR Y.data.toList = ownT L) ∧ wz = wr) (fun t4 _ => strSize t4)
        case atStart => exact ⟨X, rfl, hX, Lib.hid (by unfold ownT; rw [HD.out]), rfl⟩
        case round =>
          obtain ⟨Y, rfl, hY, HY, hwz⟩ := hrel
          subst hwz
          have hY0 : (Y.size : Int) ≤ 400 := by omega
          have hemY := emp_is Y
          by_cases hy0 : Y.size = 0
          · have hneY : Y.toList.isEmpty = true := by rw [hemY, decide_eq_true hy0]
            have hW : ownT L = [] := by
              rw [← HY.out, show Y.data.toList = [] from List.eq_nil_of_length_eq_zero (by rw [size_data]; exact hy0)]
              rfl
            have hpar := HPar.out
            rw [show lnEntry L = ⟨3, 0, lnT L, E0, [], [], 0, 4 + L.length⟩ by unfold lnEntry; rw [if_pos hW]] at hpar
            have Hpar := Lib.hid hpar
            clear hpar hW hemY HY hy0
            go_wp2_with fail
            go_at_call 15
            refine (Hpar.out _).mono ?_
            rintro e w3 ⟨hb3, A3, c3, rfl, hl3⟩
            have HB3 := Lib.hid (B2.out.trans (hb3.mono B2.out.size))
            obtain ⟨b, o, rfl, hn⟩ := list_at hl3 (Nat.succ_pos _)
            obtain ⟨_, A0, c0, B0, d0, p0, _⟩ := hn.get 0 rfl
            clear hb3 hl3 hn
            simp only [Nat.zero_mul, Nat.add_zero, List.length_nil, List.length_cons] at p0
            go_wp2
            go_ret
            exact ⟨rfl, HB3.out⟩
          obtain ⟨k, hk⟩ : ∃ k, Y.size = k + 1 := ⟨Y.size - 1, by omega⟩
          have hneY : Y.toList.isEmpty = false := by rw [hemY, decide_eq_false hy0]
          have htl := trim_last Y k hk
          have hz : (Y.extract 0 k).size = k := by rw [ByteArray.size_extract]; omega
          have hlt' : k < Y.size := by omega
          obtain ⟨cl, hcl⟩ : ∃ c, (Y[k]'hlt').toNat = c := ⟨_, rfl⟩
          rw [hcl] at htl
          by_cases h32 : cl = 32
          · have e9 : ((cl : Int) == 32) = true := beq_iff_eq.2 (by omega)
            rw [if_pos h32] at htl
            have Htl := Lib.hid (htl.symm.trans HY.out)
            clear htl hemY HY h32 hy0
            have hk0 : (k : Int) ≤ 400 := by omega
            have hki : (k : Int) < (Y.size : Int) := by omega
            go_wp2
            go_roundw
            case rel => exact ⟨Y.extract 0 k, rfl, by omega, Htl, trivial⟩
            case measure => show (Y.extract 0 k).size < Y.size; omega
          have e9 : ((cl : Int) == 32) = false := beq_eq_false_iff_ne.2 (by omega)
          rw [if_neg h32] at htl
          have hWe : Y.data.toList = ownT L := htl.symm.trans HY.out
          have hWn : ownT L ≠ [] := by
            rw [← hWe]
            intro e
            have := size_data Y
            rw [e] at this
            simp at this
            omega
          have hYm : mkB (ownT L) = Y := by rw [← hWe]; rfl
          have hpar := HPar.out
          rw [show lnEntry L = ⟨1, 0, E0, ⟨#[109]⟩, [.mk Y none], [], 0, 4 + L.length⟩ by unfold lnEntry; rw [if_neg hWn, hYm]] at hpar
          have Hpar := Lib.hid hpar
          have hk0 : (k : Int) ≤ 400 := by omega
          have hki : (k : Int) < (Y.size : Int) := by omega
          clear hpar hWe hWn hYm htl hemY HY h32 hy0
          go_wp2_with fail
          go_at_call 15
          refine (Hpar.out _).mono ?_
          rintro e w3 ⟨hb3, A3, c3, rfl, hl3⟩
          have HB3 := Lib.hid (B2.out.trans (hb3.mono B2.out.size))
          obtain ⟨b, o, rfl, hn⟩ := list_at hl3 (Nat.succ_pos _)
          obtain ⟨hbb, A0, c0, B0, d0, p0, p1, p2, p3, p4, p5, p6, p7, hpt, _⟩ := hn.get 0 rfl
          have hPt : PatAt (w3.alloc (.cells #[.string Y, .pointer none] 54)) [.mk Y none] (.slice A0 1 c0) := PatF.at_ (F := fun z => z < (w3.alloc (.cells #[.string Y, .pointer none] 54)).heap.size) (fun z hz => hz) (PatF.carry (fun z hz => ⟨by rw [World.size_alloc]; have := hz.2; omega, Lib.alloc_old _ _ z hz.2⟩) hpt)
          have hEl := elem_pat (w3.alloc (.cells #[.string Y, .pointer none] 54)) Y w3.heap.size (BoxAt.new _ _ _)
          have hSE := fun f1 t1 f2 t2 => entry_same0 (W0 := w3.alloc (.cells #[.string Y, .pointer none] 54)) 1 0 E0 ⟨#[109]⟩ [.mk Y none] B0 none d0 0 f1 t1 f2 t2 hPt hEl (by simp) (fun t e h => by simp at h) (w3.alloc (.cells #[.string Y, .pointer none] 54)) (Below.refl _ _)
          unfold entV at hSE
          have HSE := Lib.hid hSE
          have hs3 := HB3.out.size
          have hbl : b < w3.heap.size := hbb.2
          clear hb3 hl3 hn hpt hPt hbb hEl hSE
          simp only [Nat.zero_mul, Nat.add_zero, List.length_nil, List.length_cons] at p0 p1 p2 p3 p4 p5 p6 p7
          go_wp2_with fail
          go_at_call 17
          refine (HSE.out _ _ _ _).mono ?_
          rintro e w4 ⟨rfl, hb4⟩
          have HB4 := Lib.hid ((HB3.out.alloc hs3 (.cells #[.string Y, .pointer none] 54)).trans (hb4.mono (by rw [World.size_alloc]; omega)))
          clear hb4
          go_wp2
          go_ret
          exact ⟨rfl, HB4.out⟩
      case inr =>
        have hne : X.toList.isEmpty = false := by rw [hem, decide_eq_false (by omega)]
        obtain ⟨c, hc⟩ : ∃ c, (X[0]'h).toNat = c := ⟨_, rfl⟩
        rw [hc] at h2
        have e1 : ((c : Int) == 32) = false := beq_eq_false_iff_ne.2 (by omega)
        clear hem h2
        go_wp2
        go_loopw [4] (fun t4 wz => ∃ Y : ByteArray, t4 = .string Y ∧ Y.size ≤ 400 ∧ Hid (trimR Y.data.toList = ownT L) ∧ wz = wr) (fun t4 _ => strSize t4)
        case atStart => exact ⟨X, rfl, hX, Lib.hid (by unfold ownT; rw [HD.out]), rfl⟩
        case round =>
          obtain ⟨Y, rfl, hY, HY, hwz⟩ := hrel
          subst hwz
          have hY0 : (Y.size : Int) ≤ 400 := by omega
          have hemY := emp_is Y
          by_cases hy0 : Y.size = 0
          · have hneY : Y.toList.isEmpty = true := by rw [hemY, decide_eq_true hy0]
            have hW : ownT L = [] := by
              rw [← HY.out, show Y.data.toList = [] from List.eq_nil_of_length_eq_zero (by rw [size_data]; exact hy0)]
              rfl
            have hpar := HPar.out
            rw [show lnEntry L = ⟨3, 0, lnT L, E0, [], [], 0, 4 + L.length⟩ by unfold lnEntry; rw [if_pos hW]] at hpar
            have Hpar := Lib.hid hpar
            clear hpar hW hemY HY hy0
            go_wp2_with fail
            go_at_call 15
            refine (Hpar.out _).mono ?_
            rintro e w3 ⟨hb3, A3, c3, rfl, hl3⟩
            have HB3 := Lib.hid (B2.out.trans (hb3.mono B2.out.size))
            obtain ⟨b, o, rfl, hn⟩ := list_at hl3 (Nat.succ_pos _)
            obtain ⟨_, A0, c0, B0, d0, p0, _⟩ := hn.get 0 rfl
            clear hb3 hl3 hn
            simp only [Nat.zero_mul, Nat.add_zero, List.length_nil, List.length_cons] at p0
            go_wp2
            go_ret
            exact ⟨rfl, HB3.out⟩
          obtain ⟨k, hk⟩ : ∃ k, Y.size = k + 1 := ⟨Y.size - 1, by omega⟩
          have hneY : Y.toList.isEmpty = false := by rw [hemY, decide_eq_false hy0]
          have htl := trim_last Y k hk
          have hz : (Y.extract 0 k).size = k := by rw [ByteArray.size_extract]; omega
          have hlt' : k < Y.size := by omega
          obtain ⟨cl, hcl⟩ : ∃ c, (Y[k]'hlt').toNat = c := ⟨_, rfl⟩
          rw [hcl] at htl
          by_cases h32 : cl = 32
          · have e9 : ((cl : Int) == 32) = true := beq_iff_eq.2 (by omega)
            rw [if_pos h32] at htl
            have Htl := Lib.hid (htl.symm.trans HY.out)
            clear htl hemY HY h32 hy0
            have hk0 : (k : Int) ≤ 400 := by omega
            have hki : (k : Int) < (Y.size : Int) := by omega
            go_wp2
            go_roundw
            case rel => exact ⟨Y.extract 0 k, rfl, by omega, Htl, trivial⟩
            case measure => show (Y.extract 0 k).size < Y.size; omega
          have e9 : ((cl : Int) == 32) = false := beq_eq_false_iff_ne.2 (by omega)
          rw [if_neg h32] at htl
          have hWe : Y.data.toList = ownT L := htl.symm.trans HY.out
          have hWn : ownT L ≠ [] := by
            rw [← hWe]
            intro e
            have := size_data Y
            rw [e] at this
            simp at this
            omega
          have hYm : mkB (ownT L) = Y := by rw [← hWe]; rfl
          have hpar := HPar.out
          rw [show lnEntry L = ⟨1, 0, E0, ⟨#[109]⟩, [.mk Y none], [], 0, 4 + L.length⟩ by unfold lnEntry; rw [if_neg hWn, hYm]] at hpar
          have Hpar := Lib.hid hpar
          have hk0 : (k : Int) ≤ 400 := by omega
          have hki : (k : Int) < (Y.size : Int) := by omega
          clear hpar hWe hWn hYm htl hemY HY h32 hy0
          go_wp2_with fail
          go_at_call 15
          refine (Hpar.out _).mono ?_
          rintro e w3 ⟨hb3, A3, c3, rfl, hl3⟩
          have HB3 := Lib.hid (B2.out.trans (hb3.mono B2.out.size))
          obtain ⟨b, o, rfl, hn⟩ := list_at hl3 (Nat.succ_pos _)
          obtain ⟨hbb, A0, c0, B0, d0, p0, p1, p2, p3, p4, p5, p6, p7, hpt, _⟩ := hn.get 0 rfl
          have hPt : PatAt (w3.alloc (.cells #[.string Y, .pointer none] 54)) [.mk Y none] (.slice A0 1 c0) := PatF.at_ (F := fun z => z < (w3.alloc (.cells #[.string Y, .pointer none] 54)).heap.size) (fun z hz => hz) (PatF.carry (fun z hz => ⟨by rw [World.size_alloc]; have := hz.2; omega, Lib.alloc_old _ _ z hz.2⟩) hpt)
          have hEl := elem_pat (w3.alloc (.cells #[.string Y, .pointer none] 54)) Y w3.heap.size (BoxAt.new _ _ _)
          have hSE := fun f1 t1 f2 t2 => entry_same0 (W0 := w3.alloc (.cells #[.string Y, .pointer none] 54)) 1 0 E0 ⟨#[109]⟩ [.mk Y none] B0 none d0 0 f1 t1 f2 t2 hPt hEl (by simp) (fun t e h => by simp at h) (w3.alloc (.cells #[.string Y, .pointer none] 54)) (Below.refl _ _)
          unfold entV at hSE
          have HSE := Lib.hid hSE
          have hs3 := HB3.out.size
          have hbl : b < w3.heap.size := hbb.2
          clear hb3 hl3 hn hpt hPt hbb hEl hSE
          simp only [Nat.zero_mul, Nat.add_zero, List.length_nil, List.length_cons] at p0 p1 p2 p3 p4 p5 p6 p7
          go_wp2_with fail
          go_at_call 17
          refine (HSE.out _ _ _ _).mono ?_
          rintro e w4 ⟨rfl, hb4⟩
          have HB4 := Lib.hid ((HB3.out.alloc hs3 (.cells #[.string Y, .pointer none] 54)).trans (hb4.mono (by rw [World.size_alloc]; omega)))
          clear hb4
          go_wp2
          go_ret
          exact ⟨rfl, HB4.out⟩
end Go.Proofs.YtdoambpiafkmmaaGreatDoor

namespace Go.Proofs.YtdoambpiafkmmaaGreatDoor
open Go.RowKit
set_option linter.unusedVariables false
set_option linter.unusedSimpArgs false
theorem chain_len {s : ByteArray} : ∀ {l : List EN} {a : Nat}, a ≤ s.size → Chain s a l → l.length + a ≤ s.size
  | [], a, ha, _ => by simp; exact ha
  | x :: r, a, ha, h => by
    cases h with
    | cons h1 h2 h3 h4 h5 h6 h7 =>
      have := chain_len h6.2.1 h7
      rw [List.length_cons]
      omega
theorem chain_mem {s : ByteArray} : ∀ {l : List EN} {a : Nat}, a ≤ s.size → Chain s a l → ∀ x ∈ l, x.fr ≤ s.size ∧ x.tu ≤ s.size
  | y :: r, a, ha, h, x, hx => by
    cases h with
    | cons h1 h2 h3 h4 h5 h6 h7 =>
      rcases List.mem_cons.1 hx with hx | hx
      · rw [hx]; exact ⟨Nat.le_of_lt h4, h6.2.1⟩
      · exact chain_mem h6.2.1 h7 x hx
theorem ls_byte {s : ByteArray} {j : Nat} (h : lsAt s (j + 1)) (hj : j + 1 < s.size ∨ isAt s j 10 = true) (hjs : j < s.size) : (s[j]'hjs).toNat = 10 := by
  have h10 : isAt s j 10 = true := by
    rcases h with h | h | ⟨k, h, h2⟩
    · omega
    · rcases hj with hj | hj
      · omega
      · exact hj
    · obtain rfl : j = k := by omega
      exact h2
  rw [isAt_get s j hjs 10, beq_iff_eq] at h10
  exact h10
theorem PatF.to {W : World} {F : Nat → Prop} (g : ∀ b, F b → b < W.heap.size) {l : List EL} {v : Value} (h : PatF W F l v) : PatAt W l v := PatF.at_ g h
theorem TsF.at_ {W : World} {F : Nat → Prop} (g : ∀ b, F b → b < W.heap.size) : ∀ (l : List AT) (b o : Nat), TsF W F l b o → TsAt W l b o
  | [], b, o, _ => by rw [TsAt]; trivial
  | .mk n v :: r, b, o, h => by
    rw [TsF] at h
    rw [TsAt]
    obtain ⟨hb, h1, ⟨u, h2, h3⟩, h4⟩ := h
    exact ⟨g b hb, h1, ⟨u, h2, PatF.at_ g h3⟩, TsF.at_ g r b _ h4⟩
theorem AtsF.at_ {W : World} {F : Nat → Prop} (g : ∀ b, F b → b < W.heap.size) {l : List AT} {v : Value} (h : AtsF W F l v) : LieAt (TsAt W l) v l.length := LieAt.imp h (fun b o => TsF.at_ g l b o)
def AllOk (s : ByteArray) : Prop := ∀ x ∈ parseS s, (x.ty ≠ 3 → rightB x.ty x.lv x.tx x.nm x.val x.ats = true) ∧ x.nm.size ≤ 4000000 ∧ x.tx.size ≤ 4000000 ∧ sizeEs x.val + sizeTs x.ats ≤ 4000000
theorem split_len (s : ByteArray) : ∀ (n : Nat) (acc : List ByteArray) (a i : Nat), s.size - i ≤ n → (splitN s acc a i).length ≤ acc.length + (s.size - i) + 1
  | n, acc, a, i, hn => by
    rw [splitN]
    split
    · cases n with
      | zero => omega
      | succ n =>
        split
        · have := split_len s n (acc ++ [s.extract a (i + 1)]) (i + 1) (i + 1) (by omega)
          rw [List.length_append, List.length_singleton] at this
          omega
        · have := split_len s n acc a (i + 1) (by omega)
          omega
    · split
      · rw [List.length_append, List.length_singleton]; omega
      · omega
theorem catL_take : ∀ (L : List ByteArray) (m : Nat) (y : ByteArray), L[m]? = some y → catL (L.take (m + 1)) = catL (L.take m) ++ y.data.toList
  | [], m, y, h => by simp at h
  | z :: r, 0, y, h => by
    simp at h
    subst h
    simp [catL]
  | z :: r, m + 1, y, h => by
    have := catL_take r m y (by simpa using h)
    rw [List.take_succ_cons, List.take_succ_cons, catL, catL, this, List.append_assoc]
theorem catL_le : ∀ (L : List ByteArray) (m : Nat), (catL (L.take m)).length ≤ (catL L).length
  | [], m => by simp
  | z :: r, 0 => by simp [catL]
  | z :: r, m + 1 => by
    have := catL_le r m
    rw [List.take_succ_cons, catL, catL, List.length_append, List.length_append]
    omega
theorem catL_count : ∀ (L : List ByteArray), (∀ y ∈ L, 0 < y.size) → L.length ≤ (catL L).length
  | [], _ => Nat.zero_le _
  | z :: r, h => by
    have h1 := h z (by simp)
    have h2 := catL_count r (fun y hy => h y (by simp [hy]))
    rw [catL, List.length_append, List.length_cons, size_data]
    omega
end Go.Proofs.YtdoambpiafkmmaaGreatDoor
