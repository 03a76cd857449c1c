/-
  Package serial: comments; an entry.
-/
import Derived.Test.YtminidoiaplhjaaDoorZs
namespace Go.Proofs.YtminidoiaplhjaaDoor
open Go.RowKit
set_option linter.unusedVariables false
set_option linter.unusedSimpArgs false

theorem repL_one (c : UInt8) : ∀ n, Lib.repeatL [c] n = List.replicate n c
  | 0 => rfl
  | n + 1 => by rw [Lib.repeatL, repL_one c n, List.replicate_succ]; rfl
theorem repM (n : Nat) (hn : n ≤ 3) (w : World) : Calls Tryd.prog 38 #[.string ⟨#[35]⟩, .int .i64 n] w fun e w' => e = .returned (.string ⟨(List.replicate n 35).toArray⟩) ∧ Below w.heap.size w w' := by
  have h := Tryd.strings_Repeat ⟨#[35]⟩ n w (by omega) (by show 1 * n ≤ _; omega)
  rw [show (⟨#[35]⟩ : ByteArray).data.toList = [35] from rfl, repL_one] at h
  exact h
/-- What is still to be written of a comment, cut at its line feed. -/
theorem com_of (mk : List UInt8) (l : List UInt8) : ∃ A R m, Lib.cut l [10] = (A, R, m) ∧ comT mk [] l = comL mk A ++ (if m then comT mk [] R else []) ∧ (m = true → R.length < l.length) := by
  rcases cut_nl l with ⟨h1, h2⟩ | ⟨A, R, h1, h2, h3⟩
  · exact ⟨l, [], false, h2, by rw [comT_none mk l [] h1]; simp, (fun h => by cases h)⟩
  · refine ⟨A, R, true, h3, ?_, fun _ => by rw [h1]; simp; omega⟩
    rw [h1, comT_cut mk R A [] h2]
    simp
set_option maxHeartbeats 2000000 in
set_option maxRecDepth 100000 in
theorem wcom_any {W0 : World} (hM : MxW W0) {B b : Nat} {bs : List UInt8} (ty : Int) (lv : Nat) (hlv : lv ≤ 3) (tx nm : ByteArray) (A : Option Addr) (n c : Nat) (A2 : Option Addr) (n2 c2 : Nat) (fr tu : Int) (hz : tx.size ≤ 4000000)
    (w : World) (hS : Sw W0 B b w) (h : WrAt B b bs w) (hn : bs.length + (comT (List.replicate lv 35) [] tx.data.toList).length ≤ 140737488355328) :
    Calls Tryd.prog 30 #[.pointer (some ⟨b, 0, none⟩), entV ty lv tx nm (.slice A n c) (.slice A2 n2 c2) fr tu] w fun e w' => e = .returned (.tuple #[]) ∧ WrAt B b (bs ++ comT (List.replicate lv 35) [] tx.data.toList) w' ∧ Wk B b w w' := by
  obtain ⟨mk, hmk⟩ : ∃ m, List.replicate lv (35 : UInt8) = m := ⟨_, rfl⟩
  have hrp := fun W => repM lv hlv W
  simp only [hmk] at hrp
  rw [hmk] at hn ⊢
  obtain ⟨T, hT⟩ : ∃ T, comT mk [] tx.data.toList = T := ⟨_, rfl⟩
  rw [hT] at hn ⊢
  have HRp := Lib.hid hrp
  have HT := Lib.hid hT
  have HS := Lib.hid hS
  have HN := Lib.hid hn
  have HH := Lib.hid h
  have HM := Lib.hid hM
  have HZ := Lib.hid hz
  have C0 := Lib.hid (BoxAt.new w #[.int .i64 ty, .int .i64 lv, .string tx, .string nm, .slice A n c, .slice A2 n2 c2, .int .i64 fr, .int .i64 tu] 29)
  unfold entV
  clear hmk hrp hT hS hn h hM hz
  go_enter Tryd.func30, Tryd.ntmps30
  go_wp2_with fail
  go_at_call 38
  refine (HRp.out _).mono ?_
  rintro e w1 ⟨rfl, hb1⟩
  have C1 := Lib.hid (C0.out.later hb1)
  have d2 : w1.cell? ⟨w.heap.size, 2, none⟩ = some (.string tx) := C1.out.cell 2
  have hlt := C1.out.lt
  have hbw := below_box hb1
  have HA1 := Lib.hid (HH.out.later hbw)
  have HK1 := Lib.hid (Wk.of (b := b) HH.out.le hbw)
  clear hb1 hbw
  go_wp2
  go_region
  go_wp2
  go_loopw [5, 6, 7] (fun t5 t6 t7 wr => ∃ (x R : List UInt8) (q : Bool) (D : List UInt8), t5 = .string ⟨x.toArray⟩ ∧ t6 = .string ⟨R.toArray⟩ ∧ t7 = .bool q ∧ Hid (WrAt B b (bs ++ D) wr) ∧ Hid (Wk B b w wr) ∧ Hid (D ++ (if q = true then comT mk [] R else []) = T) ∧ Hid (R.length ≤ 4000000)) (fun _ t6 t7 _ => msT t6 t7)
  case atStart => exact ⟨[], tx.data.toList, true, [], rfl, rfl, rfl, Lib.hid (by rw [List.append_nil]; exact HA1.out.drew), Lib.hid HK1.out.drew, Lib.hid (by rw [if_pos rfl]; exact HT.out), Lib.hid (by rw [size_data]; exact HZ.out)⟩
  case round =>
    clear HT HA1 HK1
    obtain ⟨x, R, q, D, rfl, rfl, rfl, HA, HK, HT, HRz⟩ := hrel
    cases q
    case false =>
      have HT2 := Lib.hid (show D = T by have := HT.out; simpa using this)
      go_wp2
      go_end0
      exact ⟨rfl, by rw [← HT2.out]; exact HA.out, HK.out⟩
    have hT := HT.out
    rw [if_pos rfl] at hT
    obtain ⟨A2, R2, q2, hc2, hm2, hr2⟩ := com_of mk R
    have hrz2 : q2 = false → R2.length ≤ 4000000 := by
      intro hq
      subst hq
      rcases cut_nl R with ⟨h1, h2⟩ | ⟨A', R', h1, h2, h3⟩
      · rw [h2] at hc2; cases hc2; simp
      · rw [h3] at hc2; cases hc2
    obtain ⟨em, hem⟩ : ∃ g, A2.isEmpty = g := ⟨_, rfl⟩
    have hem2 : A2.isEmpty = em := hem
    unfold comL at hm2
    rw [hem] at hm2
    have hlen : (bs ++ D).length + (mk ++ ((if em = true then [] else 32 :: A2) ++ [10])).length ≤ 140737488355328 := by
      rw [hm2] at hT
      have h1 := congrArg List.length hT
      have h2 := HN.out
      rw [List.length_append, List.length_append] at h1
      rw [List.length_append]; omega
    have HL := Lib.hid hlen
    have HCm := Lib.hid hm2
    have HR2 := Lib.hid hr2
    have hSr := HS.out.step HK.out
    have HC := Lib.hid (cut_to (s := ⟨R.toArray⟩) hc2 (by rw [size_mk]; exact HRz.out) wr (hSr.mx HM.out))
    clear HT
    have HT := Lib.hid hT
    have HRz2 := Lib.hid hrz2
    clear hT hc2 hm2 hr2 hem hlen hSr hrz2
    go_wp2_with fail
    go_at_call 39
    refine HC.out.mono ?_
    rintro e w2 ⟨rfl, hn2⟩
    have HA2 := Lib.hid (show WrAt B b (bs ++ D) w2 by obtain ⟨n, rfl⟩ := hn2; exact HA.out.drewN n)
    have HK2 := Lib.hid (show Wk B b w w2 by obtain ⟨n, rfl⟩ := hn2; exact HK.out.drewN n)
    have HW2 := Lib.hid (write1 ⟨mk.toArray⟩ w2 HA2.out (by have := HL.out; have e1 := size_mk mk; simp at this ⊢; omega))
    clear hn2
    go_wp2_with fail
    go_at_call 20
    refine HW2.out.mono ?_
    rintro e w3 ⟨rfl, h3, g3⟩
    have HA3 := Lib.hid (show WrAt B b (bs ++ D ++ mk) w3 by simpa [data_mk] using h3)
    have HK3 := Lib.hid (HK2.out.trans g3)
    clear h3 g3
    cases em
    case false =>
      have HW4 := Lib.hid (write2 ⟨#[32]⟩ ⟨A2.toArray⟩ w3 HA3.out (by have := HL.out; rw [if_neg (by simp)] at this; have e1 := size_mk A2; simp at this ⊢; show _ + (1 + _) ≤ _; omega))
      go_wp2_with fail
      go_at_call 20
      refine HW4.out.mono ?_
      rintro e w4 ⟨rfl, h4, g4⟩
      have HA4 := Lib.hid (show WrAt B b (bs ++ D ++ mk ++ (if false = true then [] else 32 :: A2)) w4 by simpa [data_mk] using h4)
      have HK4 := Lib.hid (HK3.out.trans g4)
      clear h4 g4
      have HW5 := Lib.hid (write1 ⟨#[10]⟩ w4 HA4.out (by have := HL.out; simp at this ⊢; show _ + 1 ≤ _; omega))
      go_wp2_with fail
      go_at_call 20
      refine HW5.out.mono ?_
      rintro e w5 ⟨rfl, h5, g5⟩
      have HA5 := Lib.hid h5
      have HK5 := Lib.hid (HK4.out.trans g5)
      clear h5 g5
      go_wp2
      go_roundw
      case rel =>
        refine ⟨A2, R2, q2, D ++ (mk ++ ((if false = true then [] else 32 :: A2) ++ [10])), rfl, rfl, rfl, Lib.hid ?_, HK5, Lib.hid ?_, Lib.hid ?_⟩
        · have := HA5.out
          simp at this ⊢
          exact this
        · have := HT.out
          rw [HCm.out] at this
          rw [List.append_assoc]; exact this
        · cases q2
          · exact HRz2.out rfl
          · have := HR2.out rfl; have := HRz.out; omega
      case measure =>
        cases q2
        · simp [msT]
        · have := HR2.out rfl
          simp [msT, size_mk]
          omega
    case true =>
      have HA4 := Lib.hid (show WrAt B b (bs ++ D ++ mk ++ (if true = true then [] else 32 :: A2)) w3 by simpa using HA3.out)
      have HK4 := HK3
      have HW5 := Lib.hid (write1 ⟨#[10]⟩ w3 HA4.out (by have := HL.out; simp at this ⊢; show _ + 1 ≤ _; omega))
      go_wp2_with fail
      go_at_call 20
      refine HW5.out.mono ?_
      rintro e w5 ⟨rfl, h5, g5⟩
      have HA5 := Lib.hid h5
      have HK5 := Lib.hid (HK4.out.trans g5)
      clear h5 g5
      go_wp2
      go_roundw
      case rel =>
        refine ⟨A2, R2, q2, D ++ (mk ++ ((if true = true then [] else 32 :: A2) ++ [10])), rfl, rfl, rfl, Lib.hid ?_, HK5, Lib.hid ?_, Lib.hid ?_⟩
        · have := HA5.out
          simp at this ⊢
          exact this
        · have := HT.out
          rw [HCm.out] at this
          rw [List.append_assoc]; exact this
        · cases q2
          · exact HRz2.out rfl
          · have := HR2.out rfl; have := HRz.out; omega
      case measure =>
        cases q2
        · simp [msT]
        · have := HR2.out rfl
          simp [msT, size_mk]
          omega
end Go.Proofs.YtminidoiaplhjaaDoor
