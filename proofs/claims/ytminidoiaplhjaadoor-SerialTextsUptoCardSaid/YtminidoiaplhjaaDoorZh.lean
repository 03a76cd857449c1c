/-
  Package serial: a pattern's text.
-/
import Derived.Test.YtminidoiaplhjaaDoorZg
import Derived.Lib.Index
import Derived.Lib.IndexMore
namespace Go.Proofs.YtminidoiaplhjaaDoor
open Go.RowKit
set_option linter.unusedVariables false
set_option linter.unusedSimpArgs false

/-- What strings.Cut wants of memory. -/
def MxW (w : World) : Prop := ∃ m, w.cell? ⟨2, 0, none⟩ = some (.int .i64 m)
theorem MxW.below {w w' : World} {n : Nat} (h : MxW w) (g : Below n w w') (hn : w.heap.size ≤ n) : MxW w' := by
  obtain ⟨m, hm⟩ := h
  exact ⟨m, (g.cell (p := ⟨2, 0, none⟩) (Nat.lt_of_lt_of_le (World.block_lt_of_cell? w _ hm) hn)).trans hm⟩
theorem Sw.mx {W0 : World} {B b : Nat} {w : World} (h : Sw W0 B b w) (hM : MxW W0) : MxW w := hM.below h.hW (Nat.le_refl _)
theorem idx_nl : ∀ l : List UInt8, (l.contains 10 = false ∧ Lib.index l [10] = -1) ∨ ∃ A R, l = A ++ 10 :: R ∧ A.contains 10 = false ∧ Lib.index l [10] = (A.length : Int)
  | [] => .inl ⟨rfl, rfl⟩
  | b :: l => by
    by_cases hb : b = 10
    · subst hb
      exact .inr ⟨[], l, rfl, rfl, by simp [Lib.index, List.isPrefixOf]⟩
    · have hp : ([10] : List UInt8).isPrefixOf (b :: l) = false := by simp [List.isPrefixOf, Ne.symm hb]
      have hc : ((10 : UInt8) == b) = false := by rw [beq_eq_false_iff_ne]; exact Ne.symm hb
      rcases idx_nl l with ⟨h1, h2⟩ | ⟨A, R, h1, h2, h3⟩
      · refine .inl ⟨?_, ?_⟩
        · rw [List.contains_cons, h1, hc]; rfl
        · rw [Lib.index, hp, h2]; rfl
      · refine .inr ⟨b :: A, R, by rw [h1]; rfl, ?_, ?_⟩
        · rw [List.contains_cons, h2, hc]; rfl
        · rw [Lib.index, hp, h3, if_neg (by simp), if_neg (by rw [beq_iff_eq]; omega), List.length_cons]; omega
theorem cut_nl (l : List UInt8) : (l.contains 10 = false ∧ Lib.cut l [10] = (l, [], false)) ∨ ∃ A R, l = A ++ 10 :: R ∧ A.contains 10 = false ∧ Lib.cut l [10] = (A, R, true) := by
  rcases idx_nl l with ⟨h1, h2⟩ | ⟨A, R, h1, h2, h3⟩
  · exact .inl ⟨h1, by unfold Lib.cut; rw [h2, if_neg (by decide)]⟩
  · refine .inr ⟨A, R, h1, h2, ?_⟩
    unfold Lib.cut
    rw [h3, if_pos (by omega), Int.toNat_natCast, h1]
    simp
theorem pre_nl (l : List UInt8) : Lib.hasPrefix l [10] = decide (l.head? = some 10) := by
  cases l with
  | nil => rfl
  | cons c r =>
    rw [Bool.eq_iff_iff, decide_eq_true_iff]
    simp [Lib.hasPrefix, List.isPrefixOf]
    exact eq_comm
/-- What is still to be written of a text, cut at its line feed. -/
def tailG (mg : List UInt8) (L R : List UInt8) (m : Bool) : List UInt8 := L ++ (if m then 10 :: ((if R.head? = some 10 then [] else mg) ++ lineG mg R) else [])
theorem tail_of (mg : List UInt8) (l : List UInt8) : ∃ A R m, Lib.cut l [10] = (A, R, m) ∧ lineG mg l = tailG mg A R m ∧ (m = true → R.length < l.length) ∧ A.length ≤ l.length := by
  rcases cut_nl l with ⟨h1, h2⟩ | ⟨A, R, h1, h2, h3⟩
  · exact ⟨l, [], false, h2, by rw [lineG_none mg l h1]; simp [tailG], (fun h => by cases h), Nat.le_refl _⟩
  · refine ⟨A, R, true, h3, ?_, fun _ => by rw [h1]; simp; omega, by rw [h1]; simp⟩
    rw [h1, lineG_cut mg R A h2]
    rfl
def msT : Value → Value → Nat
  | .string R, .bool true => R.size + 1
  | _, _ => 0
theorem cut_to {s : ByteArray} {A R : List UInt8} {m : Bool} (h : Lib.cut s.data.toList [10] = (A, R, m)) (hs : s.size ≤ 4000000) (w : World) (hM : MxW w) :
    Calls Tryd.prog 39 #[.string s, .string ⟨#[10]⟩] w fun e w' => e = .returned (.tuple #[.string ⟨A.toArray⟩, .string ⟨R.toArray⟩, .bool m]) ∧ ∃ n, w' = w.drewN n := by
  obtain ⟨mx, hm⟩ := hM
  have := Tryd.strings_Cut s ⟨#[10]⟩ mx w (by omega) hm
  rw [show (⟨#[10]⟩ : ByteArray).data.toList = [10] from rfl, h] at this
  exact this
theorem WrAt.drewN {B b : Nat} {bs : List UInt8} {W : World} (h : WrAt B b bs W) (n : Nat) : WrAt B b bs (W.drewN n) := ⟨h.bld, h.le⟩
theorem Wk.drewN {B b : Nat} {u w : World} (h : Wk B b u w) (n : Nat) : Wk B b u (w.drewN n) := ⟨⟨h.below.os, h.below.tape, h.below.output, h.below.size, h.below.block⟩, fun k o ho hb hc => h.kept k o ho hb hc⟩
theorem data_mk (l : List UInt8) : (⟨l.toArray⟩ : ByteArray).data.toList = l := rfl
set_option maxHeartbeats 4000000 in
set_option maxRecDepth 100000 in
theorem text_any {W0 : World} (hM : MxW W0) {B b : Nat} {bs : List UInt8} (m : Nat) (s : ByteArray) (w : World) (hS : Sw W0 B b w) (h : WrAt B b bs w) (hs : s.size ≤ 4000000) (hn : bs.length + (lineG (sps m) s.data.toList).length ≤ 140737488355328) :
    Calls Tryd.prog 60 #[.pointer (some ⟨b, 0, none⟩), .string s, .string (mgB m)] w fun e w' => e = .returned (.tuple #[]) ∧ WrAt B b (bs ++ lineG (sps m) s.data.toList) w' ∧ Wk B b w w' := by
  obtain ⟨A, R, q, hc, hl, hr, ha⟩ := tail_of (sps m) s.data.toList
  rw [size_data] at hr ha
  have HC := Lib.hid (cut_to hc hs w (hS.mx hM))
  have HL := Lib.hid hl
  have HH := Lib.hid h
  have HN := Lib.hid hn
  have HS := Lib.hid hS
  have HM := Lib.hid hM
  have HR := Lib.hid hr
  have HA := Lib.hid ha
  have HP := Lib.hid (fun (x : ByteArray) W => Tryd.strings_HasPrefix x ⟨#[10]⟩ W)
  clear hc hl h hn hS hM hr ha
  go_enter Tryd.func60, Tryd.ntmps60
  go_wp2_with fail
  go_at_call 39
  refine HC.out.mono ?_
  rintro e w1 ⟨rfl, n1, rfl⟩
  go_wp2
  go_loopw [6, 7, 8] (fun t6 t7 t8 wr => ∃ (L R : List UInt8) (q : Bool) (D : List UInt8), t6 = .string ⟨L.toArray⟩ ∧ t7 = .string ⟨R.toArray⟩ ∧ t8 = .bool q ∧ Hid (WrAt B b (bs ++ D) wr) ∧ Hid (Wk B b w wr) ∧ Hid (lineG (sps m) s.data.toList = D ++ tailG (sps m) L R q) ∧ Hid (q = true → R.length ≤ 4000000)) (fun _ t7 t8 _ => msT t7 t8)
  case atStart => exact ⟨A, R, q, [], rfl, rfl, rfl, Lib.hid (by rw [List.append_nil]; exact HH.out.drewN _), Lib.hid ((Wk.refl _ _ _).drewN _), Lib.hid HL.out, Lib.hid (fun hq => by have := HR.out hq; omega)⟩
  case round =>
    clear HC HL HR HA HH
    obtain ⟨L, R, q, D, rfl, rfl, rfl, HA, HK, HT, HZ⟩ := hrel
    have hN := HN.out
    rw [HT.out] at hN
    have hSr := HS.out.step HK.out
    unfold tailG at hN
    cases q
    case false =>
      have HW := Lib.hid (write1 ⟨L.toArray⟩ wr HA.out (by rw [size_mk]; simp at hN ⊢; omega))
      clear hN hSr
      go_wp2_with fail
      go_at_call 20
      refine HW.out.mono ?_
      rintro e w2 ⟨rfl, h2, g2⟩
      have HA2 := Lib.hid h2
      have HK2 := Lib.hid (HK.out.trans g2)
      clear h2 g2
      go_wp2
      go_end0
      refine ⟨rfl, ?_, HK2.out⟩
      have := HA2.out
      rw [HT.out]
      simpa [tailG, data_mk] using this
    case true =>
      have hR := HZ.out rfl
      have HW := Lib.hid (write2 ⟨L.toArray⟩ ⟨#[10]⟩ wr HA.out (by rw [size_mk]; show _ + (_ + 1) ≤ _; simp at hN ⊢; omega))
      obtain ⟨A2, R2, q2, hc2, hl2, hr2, ha2⟩ := tail_of (sps m) R
      obtain ⟨p, hp⟩ : ∃ p, decide (R.head? = some 10) = p := ⟨_, rfl⟩
      have hpre : Lib.hasPrefix R [10] = p := (pre_nl R).trans hp
      have HX := Lib.hid hpre
      have HP2 := Lib.hid hp
      have HC2 := Lib.hid hc2
      have HL2 := Lib.hid hl2
      have HR2 := Lib.hid hr2
      have HRz := Lib.hid hR
      have HSr := Lib.hid hSr
      have HNN := Lib.hid hN
      clear hN hSr hc2 hl2 hr2 ha2 hp hpre hR
      go_wp2_with fail
      go_at_call 20
      refine HW.out.mono ?_
      rintro e w2 ⟨rfl, h2, g2⟩
      have HA2 := Lib.hid h2
      have HK2 := Lib.hid (HK.out.trans g2)
      have HS2 := Lib.hid (HSr.out.step g2)
      clear h2 g2
      go_wp2_with fail
      go_at_call 45
      refine (HP.out _ _).mono ?_
      rintro e w3 ⟨rfl, rfl⟩
      rw [show (⟨R.toArray⟩ : ByteArray).data.toList = R from rfl, HX.out]
      cases p
      case true =>
        have HC3 := Lib.hid (cut_to (s := ⟨R.toArray⟩) HC2.out (by rw [size_mk]; exact HRz.out) _ (HS2.out.mx HM.out))
        go_wp2_with fail
        go_at_call 39
        refine HC3.out.mono ?_
        rintro e w4 ⟨rfl, n4, rfl⟩
        go_wp2
        go_roundw
        case rel =>
          refine ⟨A2, R2, q2, D ++ (L ++ [10]), rfl, rfl, rfl, Lib.hid ?_, Lib.hid (HK2.out.drewN _), Lib.hid ?_, Lib.hid (fun h => by have := HR2.out h; have := HRz.out; omega)⟩
          · have := HA2.out.drewN n4
            simpa [data_mk] using this
          · rw [HT.out, ← HL2.out]
            unfold tailG
            rw [if_pos rfl, if_pos (of_decide_eq_true HP2.out)]
            simp
        case measure =>
          cases q2
          · simp [msT]
          · have := HR2.out rfl
            simp [msT, size_mk]
            omega
      case false =>
        have HW3 := Lib.hid (write1 (mgB m) _ HA2.out (by
          have h1 := HNN.out
          have h2 := of_decide_eq_false HP2.out
          rw [mgB_size]
          simp [h2, data_mk, sps] at h1 ⊢
          omega))
        go_wp2_with fail
        go_at_call 20
        refine HW3.out.mono ?_
        rintro e w4 ⟨rfl, h2, g2⟩
        have HA4 := Lib.hid h2
        have HK4 := Lib.hid (HK2.out.trans g2)
        have HS4 := Lib.hid (HS2.out.step g2)
        clear h2 g2
        have HC3 := Lib.hid (cut_to (s := ⟨R.toArray⟩) HC2.out (by rw [size_mk]; exact HRz.out) _ (HS4.out.mx HM.out))
        go_wp2_with fail
        go_at_call 39
        refine HC3.out.mono ?_
        rintro e w5 ⟨rfl, n5, rfl⟩
        go_wp2
        go_roundw
        case rel =>
          refine ⟨A2, R2, q2, D ++ (L ++ (10 :: sps m)), rfl, rfl, rfl, Lib.hid ?_, Lib.hid (HK4.out.drewN _), Lib.hid ?_, Lib.hid (fun h => by have := HR2.out h; have := HRz.out; omega)⟩
          · have := HA4.out.drewN n5
            simpa [data_mk, mgB_data] using this
          · rw [HT.out, ← HL2.out]
            unfold tailG
            rw [if_pos rfl, if_neg (of_decide_eq_false HP2.out)]
            simp
        case measure =>
          cases q2
          · simp [msT]
          · have := HR2.out rfl
            simp [msT, size_mk]
            omega
end Go.Proofs.YtminidoiaplhjaaDoor
