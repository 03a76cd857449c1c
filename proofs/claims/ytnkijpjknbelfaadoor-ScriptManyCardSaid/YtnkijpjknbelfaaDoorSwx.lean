/-
  Package script: ScriptMany.
-/
import Derived.Test.YtnkijpjknbelfaaDoorSwx0
import Derived.Lib.ConvBytes
import Derived.Laws.MakeOwn
import Derived.IntWalk
namespace Go.Proofs.YtnkijpjknbelfaaDoor
open Go.RowKit
set_option linter.unusedVariables false
set_option linter.unusedSimpArgs false

set_option maxHeartbeats 8000000 in
set_option maxRecDepth 100000 in
theorem lawMany (n0 : Int) (w : World) (hE : Env w) : Calls Tryd.prog 7 #[.int .i64 n0] w fun e w' => e = .returned (.bool true) ∧ Below w.heap.size w w' := by
  obtain ⟨i0, hinf, hz0, hz1, hz2⟩ := info_split infoSt
  obtain ⟨j, hj, hbits⟩ := and7 n0
  obtain ⟨n, hn⟩ : ∃ n : Nat, n = 4093 + j := ⟨_, rfl⟩
  have hw : IntKind.i64.wrap (4093 + (j : Int)) = (n : Int) := by rw [hn]; exact (IntWalk.i64_in _ (by omega)).trans (by omega)
  have hn1 : (n : Int) ≤ 4100 := by omega
  have hn2 : (4093 : Int) ≤ (n : Int) := by omega
  have HE := Lib.hid hE
  clear hE hn hj
  go_enter Tryd.func7, Tryd.ntmps7
  go_wp2_with fail
  go_at_call 9
  refine (head_any _ HE.out).mono ?_
  rintro e w1 ⟨rfl, hb1⟩
  have HB1 := Lib.hid hb1
  clear hb1
  have hmk : (Instr.makeSlice 22 (.int .i64 (n : Int)) (.int .i64 (n : Int))).run Tryd.prog w1 = .ok (.slice (some ⟨w1.heap.size, 0, none⟩) n n) (w1.alloc (.cells (madeCells #[.int .i64 0, .string ⟨#[]⟩, .string ⟨#[]⟩, .bool false, .slice none 0 0, .string ⟨#[]⟩, .string ⟨#[]⟩, .slice none 0 0] (n * 8)) 29)) := by
    have hr := run_make (P := Tryd.prog) w1 22 29 i0 _ Tryd.underlying22 hinf hz0 .i64 .i64 (n : Int) (n : Int) (by omega) (Int.le_refl _) (by rw [hz2]; omega) (by omega)
    rw [Int.toNat_natCast, hz1] at hr
    exact hr
  have HR0 := Lib.hid (RowM.zero w1 n)
  have HB2 := Lib.hid (HB1.out.alloc HB1.out.size (.cells (madeCells #[.int .i64 0, .string ⟨#[]⟩, .string ⟨#[]⟩, .bool false, .slice none 0 0, .string ⟨#[]⟩, .string ⟨#[]⟩, .slice none 0 0] (n * 8)) 29))
  generalize w1.alloc (.cells (madeCells #[.int .i64 0, .string ⟨#[]⟩, .string ⟨#[]⟩, .bool false, .slice none 0 0, .string ⟨#[]⟩, .string ⟨#[]⟩, .slice none 0 0] (n * 8)) 29) = W2 at *
  have hg := HB1.out.size
  generalize w1.heap.size = g at *
  go_wp2_with fail
  go_loopw [4, 20] (fun t4 t20 wr => ∃ (i : Nat) (S : ByteArray), t20 = .int .i64 i ∧ t4 = .string S ∧ i ≤ n ∧ S.size = i * 14 ∧ Hid (S = mkS (encL (List.replicate i aS))) ∧ Hid (RowM wr g n i) ∧ Hid (Below w.heap.size w wr)) (fun _ t20 _ => n - (intOf t20).toNat)
  case atStart => exact ⟨0, ⟨#[]⟩, rfl, rfl, Nat.zero_le _, rfl, Lib.hid rfl, HR0, HB2⟩
  case round =>
    obtain ⟨i, S, rfl, rfl, hi, hS, HS, HR, HB⟩ := hrel
    have hi0 : (i : Int) ≤ 4100 := by omega
    by_cases hlt : i < n
    · have q1 : decide ((i : Int) < (n : Int)) = true := decide_eq_true (by omega)
      have q2 : (i : Int) < (n : Int) := by omega
      have q3 : (0 : Int) ≤ (i : Int) := by omega
      have hcat : ¬ 9223372036854775807 < S.size + 14 := by omega
      obtain ⟨cs, h1, h2, h3⟩ := HR.out
      have c0 : wr.cell? ⟨g, i * 8, none⟩ = some (cellM i (i * 8)) := (h1.cell _).trans (h3 _ (by omega))
      have f0 : wr.frozen? ⟨g, i * 8, none⟩ = false := h1.fz _
      have hgl := h1.lt
      have HR2 := Lib.hid (HR.out.put hlt)
      have HB3 := Lib.hid (HB.out.setCell (p := ⟨g, i * 8, none⟩) hg (.int .i64 2))
      have HS2 := Lib.hid (show S ++ ⟨#[49, 58, 113, 44, 48, 58, 44, 48, 58, 44, 49, 58, 48, 44]⟩ = mkS (encL (List.replicate (i + 1) aS)) from by
        apply bytes_eq
        rw [HS.out, a_snoc, mkS_data]
        simp [mkS, aB])
      have HSz := Lib.hid (show (S ++ ⟨#[49, 58, 113, 44, 48, 58, 44, 48, 58, 44, 49, 58, 48, 44]⟩).size = (i + 1) * 14 from by
        rw [ByteArray.size_append, hS]
        show i * 14 + 14 = _
        omega)
      clear h1 h2 h3
      go_wp2
      go_roundw
      case rel => exact ⟨i + 1, _, by go_num, rfl, hlt, HSz.out, HS2, HR2, HB3⟩
      case measure => simp [intOf]; omega
    · have q1 : decide ((i : Int) < (n : Int)) = false := decide_eq_false (by omega)
      have q2 : ¬ (i : Int) < (n : Int) := by omega
      obtain ⟨hin, hSn⟩ : i = n ∧ S.size = n * 14 := ⟨by omega, by omega⟩
      have hR := HR.out
      have hS2 := HS.out
      rw [hin] at hR hS2
      have hEn := encode_any (A := some ⟨g, 0, none⟩) (c := n) (l := List.replicate n aS) wr (HE.out.below HB.out) hR.sts (fun x hx => by rw [(List.mem_replicate.1 hx).2]; exact a_short.ok) (by rw [List.length_replicate]; omega) (by rw [a_encL]; omega)
      rw [List.length_replicate, a_encR] at hEn
      have hDc := a_dec n (by omega)
      rw [← hS2] at hDc
      clear HS
      have HS := Lib.hid hS2
      have HSz := Lib.hid hSn
      clear hS hSn hS2 hR hmk HR0 hin
      by_cases hbig : 4096 < n
      · rw [if_pos hbig] at hEn hDc
        have HEn := Lib.hid hEn
        have HDc := Lib.hid hDc
        have z1 : decide ((4096 : Int) < (n : Int)) = true := decide_eq_true (by omega)
        have z2 : (4096 : Int) < (n : Int) := by omega
        clear hEn hDc
        go_wp2_with fail
        go_at_call 14
        refine HEn.out.mono ?_
        rintro e w2 ⟨v, rfl, hb2, ho2⟩
        obtain ⟨Ab, cb, rfl⟩ := own_len ho2
        have HB2 := Lib.hid (HB.out.trans (hb2.mono HB.out.size))
        have hs2 := HB2.out.size
        have HO2 := Lib.hid (ho2.later (belowBy w2 S))
        have hcc := Lib.run_convert_string_bytes (P := Tryd.prog) w2 9 32 5 S Tryd.underlying9 Tryd.underlying32 Tryd.underlying5
        have hcv : CvT (.slice (some ⟨w2.heap.size, 0, none⟩) S.size (grownCap w2 S.size 0 5)) S (Lib.bytesWorld w2 5 S) := Lib.run_convert_whole (P := Tryd.prog) (Lib.bytesWorld w2 5 S) 32 5 9 Tryd.underlying32 Tryd.underlying5 Tryd.underlying9 w2.heap.size 0 S (bytesW w2 S) _
        have HB3 := Lib.hid (HB2.out.trans ((belowBy w2 S).mono hs2))
        generalize grownCap w2 S.size 0 5 = cp at *
        generalize Lib.bytesWorld w2 5 S = W3 at *
        generalize w2.heap.size = g2 at *
        have HCv := Lib.hid hcv
        have HD := Lib.hid (decode_any W3 (HE.out.below HB3.out) hcv)
        clear hb2 ho2 hcv
        go_wp2_with fail
        go_at_call 15
        refine HD.out.mono ?_
        rw [HDc.out]
        rintro e w4 ⟨A4, c4, rfl, hb4, _⟩
        have HB4 := Lib.hid (HB3.out.trans (hb4.mono HB3.out.size))
        have hcw : (convert 32 9 (.slice Ab ([] : List UInt8).length cb)).run Tryd.prog w4 = .ok (.string (mkS [])) w4 := by
          exact own_conv (HO2.out.later hb4)
        dsimp only
        rw [List.length_replicate]
        
        have hSi := HSz.out
        have y0 : (S.size : Int) ≤ 60000 := by omega
        skip
        clear hSi hb4
        go_wp2
        go_ret
        exact ⟨by first | rfl | (simp_all; done), HB4.out⟩
      · rw [if_neg hbig] at hEn hDc
        have HEn := Lib.hid hEn
        have HDc := Lib.hid hDc
        have z1 : decide ((4096 : Int) < (n : Int)) = false := decide_eq_false (by omega)
        have z2 : ¬ (4096 : Int) < (n : Int) := by omega
        clear hEn hDc
        go_wp2_with fail
        go_at_call 14
        refine HEn.out.mono ?_
        rintro e w2 ⟨v, rfl, hb2, ho2⟩
        obtain ⟨Ab, cb, rfl⟩ := own_len ho2
        have HB2 := Lib.hid (HB.out.trans (hb2.mono HB.out.size))
        have hs2 := HB2.out.size
        have HO2 := Lib.hid (ho2.later (belowBy w2 S))
        have hcc := Lib.run_convert_string_bytes (P := Tryd.prog) w2 9 32 5 S Tryd.underlying9 Tryd.underlying32 Tryd.underlying5
        have hcv : CvT (.slice (some ⟨w2.heap.size, 0, none⟩) S.size (grownCap w2 S.size 0 5)) S (Lib.bytesWorld w2 5 S) := Lib.run_convert_whole (P := Tryd.prog) (Lib.bytesWorld w2 5 S) 32 5 9 Tryd.underlying32 Tryd.underlying5 Tryd.underlying9 w2.heap.size 0 S (bytesW w2 S) _
        have HB3 := Lib.hid (HB2.out.trans ((belowBy w2 S).mono hs2))
        generalize grownCap w2 S.size 0 5 = cp at *
        generalize Lib.bytesWorld w2 5 S = W3 at *
        generalize w2.heap.size = g2 at *
        have HCv := Lib.hid hcv
        have HD := Lib.hid (decode_any W3 (HE.out.below HB3.out) hcv)
        clear hb2 ho2 hcv
        go_wp2_with fail
        go_at_call 15
        refine HD.out.mono ?_
        rw [HDc.out]
        rintro e w4 ⟨A4, c4, rfl, hb4, _⟩
        have HB4 := Lib.hid (HB3.out.trans (hb4.mono HB3.out.size))
        have hcw : (convert 32 9 (.slice Ab (encL (List.replicate n aS)).length cb)).run Tryd.prog w4 = .ok (.string S) w4 := by
          rw [HS.out]; exact own_conv (HO2.out.later hb4)
        dsimp only
        rw [List.length_replicate]
        rw [a_encL] at hcw ⊢
        have hSi := HSz.out
        have y0 : (S.size : Int) ≤ 60000 := by omega
        have y2 : ((n : Int) * 14 == (S.size : Int)) = true := by rw [beq_iff_eq]; omega
        have y3 : (n : Int) * 14 = (S.size : Int) := by omega
        have Y3 := Lib.hid y3
        clear y3
        clear hSi hb4
        go_wp2
        go_ret
        exact ⟨by first | rfl | (simp_all; done), HB4.out⟩
end Go.Proofs.YtnkijpjknbelfaaDoor
