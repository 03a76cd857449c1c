/-
  Several texts put together (part 37): what the law and the program call, walked; their contracts.
-/
import Derived.Test.YticjinmpanfhkaaGreatDoorQ35
import Derived.Test.YticjinmpanfhkaaGreatDoorQ34
import Derived.Test.YticjinmpanfhkaaGreatDoorQ36
/-
  EntryLines: one line behind a name and an equals sign.
-/
namespace Go.Proofs.YticjinmpanfhkaaGreatDoor
open Go.RowKit
set_option linter.unusedVariables false
set_option linter.unusedSimpArgs false

theorem emp_is (X : ByteArray) : X.toList.isEmpty = decide (X.size = 0) := by
  have h := ext_empty X 0 X.size (Nat.zero_le _) (Nat.le_refl _)
  rw [show X.extract 0 X.size = X by apply bytes_eq; rw [extract_list, List.take_of_length_le (by rw [size_data]; exact Nat.le_refl _)]; rfl] at h
  exact h
theorem spB_nat (c : UInt8) : spB c = decide (c.toNat = 32) := by
  unfold spB
  by_cases h : c.toNat = 32
  · rw [decide_eq_true (by omega), decide_eq_true h]
  · rw [decide_eq_false (by omega), decide_eq_false h]
theorem drop_first (X : ByteArray) (h : 0 < X.size) : X.data.toList = X[0]'h :: (X.extract 1 X.size).data.toList := by
  rw [extract_drop]
  have hl : 0 < X.data.toList.length := by rw [size_data]; exact h
  have := List.drop_eq_getElem_cons hl
  rw [List.drop_zero] at this
  exact this
theorem dw_first (X : ByteArray) (h : 0 < X.size) : X.data.toList.dropWhile spB = if (X[0]'h).toNat = 32 then (X.extract 1 X.size).data.toList.dropWhile spB else X.data.toList := by
  rw [drop_first X h, List.dropWhile_cons, spB_nat]
  by_cases h2 : (X[0]'h).toNat = 32
  · rw [decide_eq_true h2, if_pos rfl, if_pos h2]
  · rw [decide_eq_false h2, if_neg (by simp), if_neg h2]
theorem take_last (X : ByteArray) (k : Nat) (h : X.size = k + 1) : X.data.toList = (X.extract 0 k).data.toList ++ [X[k]'(by omega)] := by
  have hl : k < X.data.toList.length := by rw [size_data]; omega
  have e1 : (X.extract 0 k).data.toList = X.data.toList.take k := by rw [extract_list]; rfl
  rw [e1]
  have := List.take_succ_eq_append_getElem hl
  rw [List.take_of_length_le (by rw [size_data]; omega)] at this
  exact this
theorem trim_last (X : ByteArray) (k : Nat) (h : X.size = k + 1) : trimR X.data.toList = if (X[k]'(by omega)).toNat = 32 then trimR (X.extract 0 k).data.toList else X.data.toList := by
  rw [take_last X k h]
  unfold trimR
  rw [List.reverse_append]
  show (List.dropWhile _ (X[k]'(by omega) :: (X.extract 0 k).data.toList.reverse)).reverse = _
  rw [List.dropWhile_cons]
  by_cases h2 : (X[k]'(by omega)).toNat = 32
  · rw [if_pos h2, if_pos]
    rw [beq_iff_eq]
    exact UInt8.toNat_inj.1 h2
  · rw [if_neg h2, if_neg]
    · simp
    · rw [beq_iff_eq]
      exact fun e => h2 (by rw [e]; rfl)
theorem flat_step {L : List UInt8} {i : Nat} (hi : i < L.length) (h : flat (L.take i)) (h1 : L[i].toNat ≠ 10) (h2 : L[i].toNat ≠ 123) (h3 : L[i].toNat ≠ 125) : flat (L.take (i + 1)) := by
  rw [List.take_succ_eq_append_getElem hi]
  intro x hx
  rcases List.mem_append.1 hx with hx | hx
  · exact h x hx
  · simp at hx
    subst hx
    exact ⟨fun e => h1 (by rw [e]; rfl), fun e => h2 (by rw [e]; rfl), fun e => h3 (by rw [e]; rfl)⟩
theorem line_text (s : ByteArray) : (⟨#[109, 32, 61]⟩ : ByteArray) ++ s ++ ⟨#[10]⟩ = lnT s.data.toList := by
  apply bytes_eq
  unfold lnT
  rw [mkB_list]
  simp
theorem elem_pat (W : World) (X : ByteArray) (k : Nat) (h : BoxAt W k #[.string X, .pointer none] 54) : PatAt W [.mk X none] (.slice (some ⟨k, 0, none⟩) 1 1) := by
  refine ⟨some ⟨k, 0, none⟩, 1, rfl, by simp, by decide, fun _ => ⟨k, 0, rfl, ?_⟩⟩
  rw [EsAt]
  exact ⟨h.lt, h.cell 0, ⟨.pointer none, h.cell 1, by simp only [OAt]⟩, by rw [EsAt]; trivial⟩
theorem PatF.at_ {W : World} {F : Nat → Prop} (g : ∀ b, F b → b < W.heap.size) {l : List EL} {v : Value} (h : PatF W F l v) : PatAt W l v := LieAt.imp h (fun b o => EsF.at_ g l b o)
set_option maxHeartbeats 16000000 in
set_option maxRecDepth 1000000 in
theorem lawELines (s : ByteArray) (w : World) (hT : TabU w) (hs : s.size ≤ 2000000) : Calls Tryz.prog 7 #[.string s] w fun e w' => e = .returned (.bool true) ∧ Below w.heap.size w w' := by
  have H9 := Lib.hid (head09_any w)
  have hTx := fun W (h : Below w.heap.size w W) => text_any s W (hT.below h) (by omega)
  obtain ⟨k, hk⟩ : ∃ k, textOk s = k := ⟨_, rfl⟩
  rw [hk] at hTx
  have HTx := Lib.hid hTx
  have HK := Lib.hid hk
  clear hTx hk hT
  go_enter Tryz.func7, Tryz.ntmps7
  go_wp2_with fail
  go_at_call 14
  refine (H9.out).mono ?_
  rintro e w1 ⟨rfl, b1⟩
  have B1 := Lib.hid b1
  clear b1
  go_wp2_with fail
  go_at_call 9
  refine (HTx.out _ B1.out).mono ?_
  rintro e w2 ⟨rfl, b2⟩
  have B2 := Lib.hid (B1.out.trans (b2.mono B1.out.size))
  clear b2 B1
  cases k
  case false =>
    go_wp2
    go_ret
    exact ⟨rfl, B2.out⟩
  have h400 : s.size ≤ 400 := by
    have := HK.out
    unfold textOk at this
    rw [Bool.and_eq_true, decide_eq_true_iff] at this
    exact this.2
  have hss : (s.size : Int) ≤ 400 := by omega
  obtain ⟨L, hL⟩ : ∃ L, s.data.toList = L := ⟨_, rfl⟩
  have hLs : L.length = s.size := by rw [← hL, size_data]
  have HL := Lib.hid hL
  clear hL
  go_wp2
  go_loopw [3] (fun t3 wr => ∃ i : Nat, t3 = .int .i64 i ∧ i ≤ s.size ∧ Hid (flat (L.take i)) ∧ wr = w2) (fun t3 _ => s.size - (intOf t3).toNat)
  case atStart => exact ⟨0, rfl, Nat.zero_le _, Lib.hid (fun x hx => by simp at hx), rfl⟩
  case round =>
    obtain ⟨i, rfl, hi, HF, rfl⟩ := hrel
    have hi0 : (i : Int) ≤ 400 := by omega
    by_cases hlt : i < s.size
    · have d1 : decide ((i : Int) < (s.size : Int)) = true := decide_eq_true (by omega)
      have d2 : (i : Int) < (s.size : Int) := by omega
      have hLi : i < L.length := by omega
      have hst := flat_step (L := L) (i := i) hLi HF.out
      have hcL : (L[i]'hLi) = s[i]'hlt := by
        have := HL.out
        subst this
        rfl
      rw [hcL] at hst
      obtain ⟨c, hc⟩ : ∃ c, (s[i]'hlt).toNat = c := ⟨_, rfl⟩
      rw [hc] at hst
      have Hst := Lib.hid hst
      clear hst hcL
      by_cases c1 : c = 10
      · have e1 : ((c : Int) == 10) = true := beq_iff_eq.2 (by omega)
        clear c1
        go_wp2
        go_ret
        exact ⟨rfl, B2.out⟩
      have e1 : ((c : Int) == 10) = false := beq_eq_false_iff_ne.2 (by omega)
      by_cases c2 : c = 123
      · have e2 : ((c : Int) == 123) = true := beq_iff_eq.2 (by omega)
        clear c1 c2
        go_wp2
        go_ret
        exact ⟨rfl, B2.out⟩
      have e2 : ((c : Int) == 123) = false := beq_eq_false_iff_ne.2 (by omega)
      by_cases c3 : c = 125
      · have e3 : ((c : Int) == 125) = true := beq_iff_eq.2 (by omega)
        clear c1 c2 c3
        go_wp2
        go_ret
        exact ⟨rfl, B2.out⟩
      have e3 : ((c : Int) == 125) = false := beq_eq_false_iff_ne.2 (by omega)
      have Hfl := Lib.hid (Hst.out c1 c2 c3)
      clear c1 c2 c3
      go_wp2
      go_roundw
      case rel => exact ⟨i + 1, by go_num, hlt, Hfl, trivial⟩
      case measure => simp [intOf]; omega
    have d1 : decide ((i : Int) < (s.size : Int)) = false := decide_eq_false (by omega)
    have d2 : ¬ (i : Int) < (s.size : Int) := by omega
    have hfl : flat L := by have := HF.out; rwa [List.take_of_length_le (by omega)] at this
    have hpar := fun W => parse_call (pat_calls (s := lnT L) (by rw [ln_size]; omega)) (by rw [ln_size]; omega) W
    rw [ln_parse L hfl, ← HL.out, ← line_text] at hpar
    rw [HL.out] at hpar
    have HPar := Lib.hid hpar
    have hsz1 : (⟨#[109, 32, 61]⟩ ++ s : ByteArray).size ≤ 403 := by rw [ByteArray.size_append]; show 3 + s.size ≤ 403; omega
    have hsz2 : (⟨#[109, 32, 61]⟩ ++ s ++ ⟨#[10]⟩ : ByteArray).size ≤ 404 := by rw [ByteArray.size_append, ByteArray.size_append]; show 3 + s.size + 1 ≤ 404; omega
    clear hfl HF hpar
    go_wp2
    go_loopw [4] (fun t4 wq => ∃ X : ByteArray, t4 = .string X ∧ X.size ≤ 400 ∧ Hid (X.data.toList.dropWhile spB = L.dropWhile spB) ∧ wq = wr) (fun t4 _ => strSize t4)
    case atStart => exact ⟨s, rfl, h400, Lib.hid (by rw [HL.out]), rfl⟩
    case round =>
      obtain ⟨X, rfl, hX, HX, hwq⟩ := hrel
      subst hwq
      have hX0 : (X.size : Int) ≤ 400 := by omega
      have hem := emp_is X
      have hcase : (∃ h : 0 < X.size, (X[0]'h).toNat = 32) ∨ (X.size = 0 ∨ ∃ h : 0 < X.size, (X[0]'h).toNat ≠ 32) := by
        by_cases h : 0 < X.size
        · by_cases h2 : (X[0]'h).toNat = 32
          · exact Or.inl ⟨h, h2⟩
          · exact Or.inr (Or.inr ⟨h, h2⟩)
        · exact Or.inr (Or.inl (by omega))
      rcases hcase with ⟨h, h32⟩ | hstop
      · have hne : X.toList.isEmpty = false := by rw [hem, decide_eq_false (by omega)]
        have hd := dw_first X h
        rw [if_pos h32] at hd
        have Hd := Lib.hid (hd.symm.trans HX.out)
        have hz : (X.extract 1 X.size).size = X.size - 1 := by rw [ByteArray.size_extract]; omega
        obtain ⟨c, hc⟩ : ∃ c, (X[0]'h).toNat = c := ⟨_, rfl⟩
        rw [hc] at h32
        have e1 : ((c : Int) == 32) = true := beq_iff_eq.2 (by omega)
        have hX1 : (1 : Int) ≤ (X.size : Int) := by omega
        clear hd hem h32 HX
        go_wp2
        go_roundw
        case rel => exact ⟨X.extract 1 X.size, rfl, by omega, Hd, trivial⟩
        case measure => show (X.extract 1 X.size).size < X.size; omega
      have hD : X.data.toList = L.dropWhile spB := by
        rcases hstop with h | ⟨h, h2⟩
        · rw [← HX.out, show X.data.toList = [] from List.eq_nil_of_length_eq_zero (by rw [size_data]; exact h)]; rfl
        · rw [← HX.out, dw_first X h, if_neg h2]
      have HD := Lib.hid hD
      clear hD HX
      rcases hstop with h | ⟨h, h2⟩
      case inl =>
        have hne : X.toList.isEmpty = true := by rw [hem, decide_eq_true h]
        clear hem
        go_wp2
        go_loopw [4] (fun t4 wz => ∃ Y : ByteArray, t4 = .string Y ∧ Y.size ≤ 400 ∧ Hid (trimR Y.data.toList = ownT L) ∧ wz = wr) (fun t4 _ => strSize t4)
        case atStart => exact ⟨X, rfl, hX, Lib.hid (by unfold ownT; rw [HD.out]), rfl⟩
        case round =>
          obtain ⟨Y, rfl, hY, HY, hwz⟩ := hrel
          subst hwz
          have hY0 : (Y.size : Int) ≤ 400 := by omega
          have hemY := emp_is Y
          by_cases hy0 : Y.size = 0
          · have hneY : Y.toList.isEmpty = true := by rw [hemY, decide_eq_true hy0]
            have hW : ownT L = [] := by
              rw [← HY.out, show Y.data.toList = [] from List.eq_nil_of_length_eq_zero (by rw [size_data]; exact hy0)]
              rfl
            have hpar := HPar.out
            rw [show lnEntry L = ⟨3, 0, lnT L, E0, [], [], 0, 4 + L.length⟩ by unfold lnEntry; rw [if_pos hW]] at hpar
            have Hpar := Lib.hid hpar
            clear hpar hW hemY HY hy0
            go_wp2_with fail
            go_at_call 15
            refine (Hpar.out _).mono ?_
            rintro e w3 ⟨hb3, A3, c3, rfl, hl3⟩
            have HB3 := Lib.hid (B2.out.trans (hb3.mono B2.out.size))
            obtain ⟨b, o, rfl, hn⟩ := list_at hl3 (Nat.succ_pos _)
            obtain ⟨_, A0, c0, B0, d0, p0, _⟩ := hn.get 0 rfl
            clear hb3 hl3 hn
            simp only [Nat.zero_mul, Nat.add_zero, List.length_nil, List.length_cons] at p0
            go_wp2
            go_ret
            exact ⟨rfl, HB3.out⟩
          obtain ⟨k, hk⟩ : ∃ k, Y.size = k + 1 := ⟨Y.size - 1, by omega⟩
          have hneY : Y.toList.isEmpty = false := by rw [hemY, decide_eq_false hy0]
          have htl := trim_last Y k hk
          have hz : (Y.extract 0 k).size = k := by rw [ByteArray.size_extract]; omega
          have hlt' : k < Y.size := by omega
          obtain ⟨cl, hcl⟩ : ∃ c, (Y[k]'hlt').toNat = c := ⟨_, rfl⟩
          rw [hcl] at htl
          by_cases h32 : cl = 32
          · have e9 : ((cl : Int) == 32) = true := beq_iff_eq.2 (by omega)
            rw [if_pos h32] at htl
            have Htl := Lib.hid (htl.symm.trans HY.out)
            clear htl hemY HY h32 hy0
            have hk0 : (k : Int) ≤ 400 := by omega
            have hki : (k : Int) < (Y.size : Int) := by omega
            go_wp2
            go_roundw
            case rel => exact ⟨Y.extract 0 k, rfl, by omega, Htl, trivial⟩
            case measure => show (Y.extract 0 k).size < Y.size; omega
          have e9 : ((cl : Int) == 32) = false := beq_eq_false_iff_ne.2 (by omega)
          rw [if_neg h32] at htl
          have hWe : Y.data.toList = ownT L := htl.symm.trans HY.out
          have hWn : ownT L ≠ [] := by
            rw [← hWe]
            intro e
            have := size_data Y
            rw [e] at this
            simp at this
            omega
          have hYm : mkB (ownT L) = Y := by rw [← hWe]; rfl
          have hpar := HPar.out
          rw [show lnEntry L = ⟨1, 0, E0, ⟨#[109]⟩, [.mk Y none], [], 0, 4 + L.length⟩ by unfold lnEntry; rw [if_neg hWn, hYm]] at hpar
          have Hpar := Lib.hid hpar
          have hk0 : (k : Int) ≤ 400 := by omega
          have hki : (k : Int) < (Y.size : Int) := by omega
          clear hpar hWe hWn hYm htl hemY HY h32 hy0
          go_wp2_with fail
          go_at_call 15
          refine (Hpar.out _).mono ?_
          rintro e w3 ⟨hb3, A3, c3, rfl, hl3⟩
          have HB3 := Lib.hid (B2.out.trans (hb3.mono B2.out.size))
          obtain ⟨b, o, rfl, hn⟩ := list_at hl3 (Nat.succ_pos _)
          obtain ⟨hbb, A0, c0, B0, d0, p0, p1, p2, p3, p4, p5, p6, p7, hpt, _⟩ := hn.get 0 rfl
          have hPt : PatAt (w3.alloc (.cells #[.string Y, .pointer none] 54)) [.mk Y none] (.slice A0 1 c0) := PatF.at_ (F := fun z => z < (w3.alloc (.cells #[.string Y, .pointer none] 54)).heap.size) (fun z hz => hz) (PatF.carry (fun z hz => ⟨by rw [World.size_alloc]; have := hz.2; omega, Lib.alloc_old _ _ z hz.2⟩) hpt)
          have hEl := elem_pat (w3.alloc (.cells #[.string Y, .pointer none] 54)) Y w3.heap.size (BoxAt.new _ _ _)
          have hSE := fun f1 t1 f2 t2 => entry_same0 (W0 := w3.alloc (.cells #[.string Y, .pointer none] 54)) 1 0 E0 ⟨#[109]⟩ [.mk Y none] B0 none d0 0 f1 t1 f2 t2 hPt hEl (by simp) (fun t e h => by simp at h) (w3.alloc (.cells #[.string Y, .pointer none] 54)) (Below.refl _ _)
          unfold entV at hSE
          have HSE := Lib.hid hSE
          have hs3 := HB3.out.size
          have hbl : b < w3.heap.size := hbb.2
          clear hb3 hl3 hn hpt hPt hbb hEl hSE
          simp only [Nat.zero_mul, Nat.add_zero, List.length_nil, List.length_cons] at p0 p1 p2 p3 p4 p5 p6 p7
          go_wp2_with fail
          go_at_call 17
          refine (HSE.out _ _ _ _).mono ?_
          rintro e w4 ⟨rfl, hb4⟩
          have HB4 := Lib.hid ((HB3.out.alloc hs3 (.cells #[.string Y, .pointer none] 54)).trans (hb4.mono (by rw [World.size_alloc]; omega)))
          clear hb4
          go_wp2
          go_ret
          exact ⟨rfl, HB4.out⟩
      case inr =>
        have hne : X.toList.isEmpty = false := by rw [hem, decide_eq_false (by omega)]
        obtain ⟨c, hc⟩ : ∃ c, (X[0]'h).toNat = c := ⟨_, rfl⟩
        rw [hc] at h2
        have e1 : ((c : Int) == 32) = false := beq_eq_false_iff_ne.2 (by omega)
        clear hem h2
        go_wp2
        go_loopw [4] (fun t4 wz => ∃ Y : ByteArray, t4 = .string Y ∧ Y.size ≤ 400 ∧ Hid (trimR Y.data.toList = ownT L) ∧ wz = wr) (fun t4 _ => strSize t4)
        case atStart => exact ⟨X, rfl, hX, Lib.hid (by unfold ownT; rw [HD.out]), rfl⟩
        case round =>
          obtain ⟨Y, rfl, hY, HY, hwz⟩ := hrel
          subst hwz
          have hY0 : (Y.size : Int) ≤ 400 := by omega
          have hemY := emp_is Y
          by_cases hy0 : Y.size = 0
          · have hneY : Y.toList.isEmpty = true := by rw [hemY, decide_eq_true hy0]
            have hW : ownT L = [] := by
              rw [← HY.out, show Y.data.toList = [] from List.eq_nil_of_length_eq_zero (by rw [size_data]; exact hy0)]
              rfl
            have hpar := HPar.out
            rw [show lnEntry L = ⟨3, 0, lnT L, E0, [], [], 0, 4 + L.length⟩ by unfold lnEntry; rw [if_pos hW]] at hpar
            have Hpar := Lib.hid hpar
            clear hpar hW hemY HY hy0
            go_wp2_with fail
            go_at_call 15
            refine (Hpar.out _).mono ?_
            rintro e w3 ⟨hb3, A3, c3, rfl, hl3⟩
            have HB3 := Lib.hid (B2.out.trans (hb3.mono B2.out.size))
            obtain ⟨b, o, rfl, hn⟩ := list_at hl3 (Nat.succ_pos _)
            obtain ⟨_, A0, c0, B0, d0, p0, _⟩ := hn.get 0 rfl
            clear hb3 hl3 hn
            simp only [Nat.zero_mul, Nat.add_zero, List.length_nil, List.length_cons] at p0
            go_wp2
            go_ret
            exact ⟨rfl, HB3.out⟩
          obtain ⟨k, hk⟩ : ∃ k, Y.size = k + 1 := ⟨Y.size - 1, by omega⟩
          have hneY : Y.toList.isEmpty = false := by rw [hemY, decide_eq_false hy0]
          have htl := trim_last Y k hk
          have hz : (Y.extract 0 k).size = k := by rw [ByteArray.size_extract]; omega
          have hlt' : k < Y.size := by omega
          obtain ⟨cl, hcl⟩ : ∃ c, (Y[k]'hlt').toNat = c := ⟨_, rfl⟩
          rw [hcl] at htl
          by_cases h32 : cl = 32
          · have e9 : ((cl : Int) == 32) = true := beq_iff_eq.2 (by omega)
            rw [if_pos h32] at htl
            have Htl := Lib.hid (htl.symm.trans HY.out)
            clear htl hemY HY h32 hy0
            have hk0 : (k : Int) ≤ 400 := by omega
            have hki : (k : Int) < (Y.size : Int) := by omega
            go_wp2
            go_roundw
            case rel => exact ⟨Y.extract 0 k, rfl, by omega, Htl, trivial⟩
            case measure => show (Y.extract 0 k).size < Y.size; omega
          have e9 : ((cl : Int) == 32) = false := beq_eq_false_iff_ne.2 (by omega)
          rw [if_neg h32] at htl
          have hWe : Y.data.toList = ownT L := htl.symm.trans HY.out
          have hWn : ownT L ≠ [] := by
            rw [← hWe]
            intro e
            have := size_data Y
            rw [e] at this
            simp at this
            omega
          have hYm : mkB (ownT L) = Y := by rw [← hWe]; rfl
          have hpar := HPar.out
          rw [show lnEntry L = ⟨1, 0, E0, ⟨#[109]⟩, [.mk Y none], [], 0, 4 + L.length⟩ by unfold lnEntry; rw [if_neg hWn, hYm]] at hpar
          have Hpar := Lib.hid hpar
          have hk0 : (k : Int) ≤ 400 := by omega
          have hki : (k : Int) < (Y.size : Int) := by omega
          clear hpar hWe hWn hYm htl hemY HY h32 hy0
          go_wp2_with fail
          go_at_call 15
          refine (Hpar.out _).mono ?_
          rintro e w3 ⟨hb3, A3, c3, rfl, hl3⟩
          have HB3 := Lib.hid (B2.out.trans (hb3.mono B2.out.size))
          obtain ⟨b, o, rfl, hn⟩ := list_at hl3 (Nat.succ_pos _)
          obtain ⟨hbb, A0, c0, B0, d0, p0, p1, p2, p3, p4, p5, p6, p7, hpt, _⟩ := hn.get 0 rfl
          have hPt : PatAt (w3.alloc (.cells #[.string Y, .pointer none] 54)) [.mk Y none] (.slice A0 1 c0) := PatF.at_ (F := fun z => z < (w3.alloc (.cells #[.string Y, .pointer none] 54)).heap.size) (fun z hz => hz) (PatF.carry (fun z hz => ⟨by rw [World.size_alloc]; have := hz.2; omega, Lib.alloc_old _ _ z hz.2⟩) hpt)
          have hEl := elem_pat (w3.alloc (.cells #[.string Y, .pointer none] 54)) Y w3.heap.size (BoxAt.new _ _ _)
          have hSE := fun f1 t1 f2 t2 => entry_same0 (W0 := w3.alloc (.cells #[.string Y, .pointer none] 54)) 1 0 E0 ⟨#[109]⟩ [.mk Y none] B0 none d0 0 f1 t1 f2 t2 hPt hEl (by simp) (fun t e h => by simp at h) (w3.alloc (.cells #[.string Y, .pointer none] 54)) (Below.refl _ _)
          unfold entV at hSE
          have HSE := Lib.hid hSE
          have hs3 := HB3.out.size
          have hbl : b < w3.heap.size := hbb.2
          clear hb3 hl3 hn hpt hPt hbb hEl hSE
          simp only [Nat.zero_mul, Nat.add_zero, List.length_nil, List.length_cons] at p0 p1 p2 p3 p4 p5 p6 p7
          go_wp2_with fail
          go_at_call 17
          refine (HSE.out _ _ _ _).mono ?_
          rintro e w4 ⟨rfl, hb4⟩
          have HB4 := Lib.hid ((HB3.out.alloc hs3 (.cells #[.string Y, .pointer none] 54)).trans (hb4.mono (by rw [World.size_alloc]; omega)))
          clear hb4
          go_wp2
          go_ret
          exact ⟨rfl, HB4.out⟩
end Go.Proofs.YticjinmpanfhkaaGreatDoor
