/-
  Several texts put together (part T6): what the law and the program call, walked; their contracts.
-/
import Derived.Test.YtamghpleajbonaaGreatDoorQT5
import Derived.Deep.CutRange
namespace Go.Proofs.YtamghpleajbonaaGreatDoor
open Go.RowKit Go.ChangeMaps
set_option linter.unusedVariables false
set_option linter.unusedSimpArgs false
theorem MapAt.block {W W' : World} {b c : Nat} {es : Array MapEntry} (h : MapAt W b es c) (g : W'.heap[b]? = W.heap[b]?) : MapAt W' b es c := g.trans h
theorem hy_toList (a : ByteArray) : ((⟨#[45]⟩ : ByteArray) ++ a).size = 1 + a.size := by simp [ByteArray.size_append]; rfl
set_option maxHeartbeats 8000000 in
set_option maxRecDepth 100000 in
theorem model_any {w0 : World} {A : Option Addr} {s : ByteArray} {c0 : Nat} (hr : ResAt w0 A s c0) (hs : s.size ≤ 1500) (g c : Nat) (w : World) (hg : g < w.heap.size) (hc : SrcsAt w g [⟨A, s, c0, true⟩]) (h0 : Below w0.heap.size w0 w) :
    Calls Tryz.prog 18 #[.slice (some ⟨g, 0, none⟩) 1 c] w fun e w' =>
      ∃ (mb : Nat) (vs : List VE), e = .returned (.map (some mb)) ∧ vs.map (·.x) = docS s ∧ MapAt w' mb (mapV (valM (modS vs []))) (valM (modS vs [])).length ∧
        (∀ e ∈ vs, PatF w' (fun k => k < w'.heap.size) e.x.val (.slice e.A e.x.val.length e.c) ∧ AtsF w' (fun k => k < w'.heap.size) e.x.ats (.slice e.B e.x.ats.length e.d)) ∧ Below w.heap.size w w' := by
  have HC := Lib.hid hc
  have HD := Lib.hid (fun W h => dec_doc (w0 := w0) hr hs W h)
  have HP := Lib.hid (fun W => par_doc hs W)
  have H0 := Lib.hid h0
  have h0z := h0.size
  have HOK := Lib.hid (doc_ok hs)
  have hmk := fun W => run_makeMap (P := Tryz.prog) 55 W
  obtain ⟨s0, s1⟩ := hc 0 _ rfl
  simp only [Nat.zero_mul, Nat.zero_add] at s0 s1
  clear hc h0 hr
  generalize hZ : s.size = zz at *
  have HZ := Lib.hid hZ
  clear hZ hs
  go_enter Tryz.func18, Tryz.ntmps18
  go_wp2
  go_loopw [14] (fun t14 wr => (t14 = .int .i64 0 ∧ Hid (MapAt wr w.heap.size #[] 0) ∧ Hid (Below w.heap.size w wr)) ∨ (t14 = .int .i64 1 ∧ Hid (∃ (vs : List VE), vs.map (·.x) = docS s ∧ MapAt wr w.heap.size (mapV (valM (modS vs []))) (valM (modS vs [])).length ∧
        (∀ e ∈ vs, PatF wr (fun k => k < wr.heap.size) e.x.val (.slice e.A e.x.val.length e.c) ∧ AtsF wr (fun k => k < wr.heap.size) e.x.ats (.slice e.B e.x.ats.length e.d)) ∧ Below w.heap.size w wr))) (fun t14 _ => 1 - (intOf t14).toNat)
  case atStart => exact .inl ⟨rfl, Lib.hid (MapAt.new w w.heap.size #[] 0 rfl), Lib.hid ((Below.refl _ _).alloc (Nat.le_refl _) _)⟩
  case round =>
    rcases hrel with ⟨rfl, HM, HB⟩ | ⟨rfl, HE⟩
    · have k0 := (HB.out.cell (p := ⟨g, 0, none⟩) hg).trans s0
      have k1 := (HB.out.cell (p := ⟨g, 1, none⟩) hg).trans s1
      have hgr : g < wr.heap.size := Nat.lt_of_lt_of_le hg HB.out.size
      have hwr := HB.out.size
      have hmb := HM.out.lt
      go_wp2_with fail
      go_at_call 17
      have S1 := Lib.hid (BoxAt.new wr #[.slice A zz c0, .bool true] 38)
      have B1 := Lib.hid (below_new HB.out (Nat.le_refl _) (.cells #[.slice A zz c0, .bool true] 38))
      have M1 := Lib.hid (HM.out.alloc (.cells #[.slice A zz c0, .bool true] 38))
      refine (HD.out _ (H0.out.trans (B1.out.mono h0z))).mono ?_
      rintro e w2 ⟨rfl, b2⟩
      have B2 := Lib.hid (B1.out.trans (b2.mono B1.out.size))
      have S2 := Lib.hid (S1.out.later b2)
      have M2 := Lib.hid (M1.out.later b2)
      clear b2 k0 k1 HM S1 B1 M1
      go_wp2_with fail
      go_at_call 16
      refine (HP.out _).mono ?_
      rintro e w3 ⟨b3, A', c', rfl, hl3⟩
      have B3 := Lib.hid (B2.out.trans (b3.mono B2.out.size))
      have S3 := Lib.hid (S2.out.later b3)
      have M3 := Lib.hid (M2.out.later b3)
      obtain ⟨vs, hv, htr, hcs⟩ := vs_of hl3
      have hvl : vs.length = (docS s).length := by rw [← hv, List.length_map]
      have HV := Lib.hid hv
      have HTr := Lib.hid htr
      have hok : (∀ e ∈ vs, EnOk e.x) ∧ vs.length ≤ 6000 := ⟨fun e he => HOK.out.1 e.x (by rw [← HV.out]; exact List.mem_map.2 ⟨e, he, rfl⟩), by rw [hvl]; exact HOK.out.2⟩
      obtain ⟨LL, hLL⟩ : ∃ n, (docS s).length = n := ⟨_, rfl⟩
      rw [hLL] at hcs ⊢
      have HCs := Lib.hid hcs
      have HVL := Lib.hid (hvl.trans hLL)
      have hL0 : (LL : Int) ≤ 6000 := by have := hok.2; rw [hvl, hLL] at this; omega
      have HOK2 := Lib.hid hok.1
      have w23 : w2.heap.size ≤ w3.heap.size := b3.size
      have hmb3 := M3.out.lt
      have hsb3 := S3.out.lt
      have hw2 := B2.out.size
      have hmb2 := M2.out.lt
      have hsb2 := S2.out.lt
      clear b3 hl3 hv htr hcs hvl hLL hok S2 M2 B2 HD HP
      generalize hww : wr = w1 at *
      clear hww
      go_wp2_with fail
      go_loopw [23] (fun t23 wx => ∃ (j : Nat) (K : List KE), t23 = .int .i64 j ∧ j ≤ LL ∧ Hid (modS (vs.drop j) K = modS vs []) ∧ Hid (MapAt wx w.heap.size (mapV (valM K)) (valM K).length) ∧ Hid (Kp w.heap.size w3 wx)) (fun t23 _ => LL - (intOf t23).toNat)
      case atStart => exact ⟨0, [], rfl, Nat.zero_le _, Lib.hid rfl, M3, Lib.hid (Kp.refl _ _)⟩
      case round =>
        obtain ⟨j, K, rfl, hj, HS, HM, HK⟩ := hrel
        have hj0 : (j : Int) ≤ 6000 := by omega
        by_cases hlt : j < LL
        · have f1 : decide ((j : Int) < (LL : Int)) = true := decide_eq_true (by omega)
          have f2 : (j : Int) < (LL : Int) := by omega
          obtain ⟨bq, oq, rfl, hq1, hq2, hcs⟩ := HCs.out (by omega)
          have hjv : j < vs.length := by rw [HVL.out]; exact hlt
          have hdr : vs.drop j = vs[j] :: vs.drop (j + 1) := List.drop_eq_getElem_cons hjv
          obtain ⟨g0, g1, g2, g3, g4, g5, g6, g7⟩ := hcs j _ (List.getElem?_eq_getElem hjv)
          have hen := HOK2.out _ (List.getElem_mem hjv)
          generalize vs[j] = e at *
          obtain ⟨X, A0, c9, B0, d0⟩ := e
          dsimp only at g0 g1 g2 g3 g4 g5 g6 g7 hen
          have hnm := hen.nm
          have hcell : ∀ (o : Nat) v, w3.cell? ⟨bq, o, none⟩ = some v → wr.cell? ⟨bq, o, none⟩ = some v := fun o v h => (cell_same (HK.out.others bq hq2 (by omega)) o).trans h
          have g0 := hcell _ _ g0
          have g1 := hcell _ _ g1
          have g2 := hcell _ _ g2
          have g3 := hcell _ _ g3
          have g4 := hcell _ _ g4
          have g5 := hcell _ _ g5
          have g6 := hcell _ _ g6
          have g7 := hcell _ _ g7
          have hbqr : bq < wr.heap.size := Nat.lt_of_lt_of_le hq2 HK.out.size
          have hwx := HK.out.size
          have hS4 : BoxAt wr w1.heap.size #[.slice A zz c0, .bool true] 38 := (HK.out.others _ hsb3 (by omega)).trans S3.out
          have k1 : wr.cell? ⟨w1.heap.size, 1, none⟩ = some (.bool true) := hS4.cell 1
          have hsr := hS4.lt
          have hcz : ¬ 9223372036854775807 < 1 + X.nm.size := by omega
          clear hcell hcs hen hS4 hjv
          by_cases t2 : X.ty = 2
          · have e2 : (X.ty == 2) = true := by rw [beq_iff_eq]; exact t2
            have e1 : (X.ty == 1) = false := by rw [beq_eq_false_iff_ne]; omega
            have t1 : True := trivial
            have hkm : keyM X = ⟨#[45]⟩ ++ X.nm := by unfold keyM; rw [if_pos t2]
            have hfa : X.ty = 1 ∨ X.ty = 2 := .inr t2
            have HFA := Lib.hid hfa
            have HKM := Lib.hid hkm
            clear hfa hkm
            cases hlk : lookM (⟨#[45]⟩ ++ X.nm) K with
            | none =>
              have hL1 := run_look_v (t := 55) Tryz.underlying55 Tryz.underlying9 (wr.alloc (.cells #[.int .i64 X.ty, .int .i64 X.lv, .string X.tx, .string X.nm, .slice A0 X.val.length c9, .slice B0 X.ats.length d0, .int .i64 X.fr, .int .i64 X.tu] 26)) (enZero _) w.heap.size (valM K) (HM.out.alloc _) (⟨#[45]⟩ ++ X.nm)
              rw [look_valM, hlk] at hL1
              simp only [Option.map_none, Option.map_some, Option.getD_none, Option.getD_some, Option.isSome_none, Option.isSome_some, VE.v] at hL1
              have hU1 := run_put_v (t := 55) Tryz.underlying55 Tryz.underlying9 ((wr.alloc (.cells #[.int .i64 X.ty, .int .i64 X.lv, .string X.tx, .string X.nm, .slice A0 X.val.length c9, .slice B0 X.ats.length d0, .int .i64 X.fr, .int .i64 X.tu] 26)).alloc (.cells zEnB 26)) w.heap.size (valM K) ((HM.out.alloc _).alloc _) (⟨#[45]⟩ ++ X.nm) (.agg #[.int .i64 X.ty, .int .i64 X.lv, .string X.tx, .string X.nm, .slice A0 X.val.length c9, .slice B0 X.ats.length d0, .int .i64 X.fr, .int .i64 X.tu])
              have hpv := put_valM (⟨#[45]⟩ ++ X.nm) ⟨X, A0, c9, B0, d0⟩ K
              unfold VE.v at hpv
              dsimp only at hpv
              rw [hpv] at hU1
              have HM2 := Lib.hid (((HM.out.alloc (.cells #[.int .i64 X.ty, .int .i64 X.lv, .string X.tx, .string X.nm, .slice A0 X.val.length c9, .slice B0 X.ats.length d0, .int .i64 X.fr, .int .i64 X.tu] 26)).alloc (.cells zEnB 26)).set (mapV (valM (putM (⟨#[45]⟩ ++ X.nm) ⟨X, A0, c9, B0, d0⟩ K))) (valM (putM (⟨#[45]⟩ ++ X.nm) ⟨X, A0, c9, B0, d0⟩ K)).length)
              have HK2 := Lib.hid (((HK.out.alloc (by omega) (.cells #[.int .i64 X.ty, .int .i64 X.lv, .string X.tx, .string X.nm, .slice A0 X.val.length c9, .slice B0 X.ats.length d0, .int .i64 X.fr, .int .i64 X.tu] 26)).alloc (by simp; omega) (.cells zEnB 26)).trans (kp_setBlock (.map (mapV (valM (putM (⟨#[45]⟩ ++ X.nm) ⟨X, A0, c9, B0, d0⟩ K))) (valM (putM (⟨#[45]⟩ ++ X.nm) ⟨X, A0, c9, B0, d0⟩ K)).length)))
              have HS2 := Lib.hid (show modS (vs.drop (j + 1)) (putM (⟨#[45]⟩ ++ X.nm) ⟨X, A0, c9, B0, d0⟩ K) = modS vs [] by rw [← HS.out, hdr, modS]; unfold modE; dsimp only; rw [if_pos HFA.out, HKM.out])
              clear hpv
              clear hlk hdr t1 t2
              go_wp2_with fail
              refine ⟨⟨j + 1, (putM (⟨#[45]⟩ ++ X.nm) ⟨X, A0, c9, B0, d0⟩ K), by go_num, hlt, HS2, HM2, HK2⟩, by simp [intOf]; omega⟩
            | some e' =>
              obtain ⟨Y, A1, c1, B1, d1⟩ := e'
              have hL1 := run_look_v (t := 55) Tryz.underlying55 Tryz.underlying9 (wr.alloc (.cells #[.int .i64 X.ty, .int .i64 X.lv, .string X.tx, .string X.nm, .slice A0 X.val.length c9, .slice B0 X.ats.length d0, .int .i64 X.fr, .int .i64 X.tu] 26)) (enZero _) w.heap.size (valM K) (HM.out.alloc _) (⟨#[45]⟩ ++ X.nm)
              rw [look_valM, hlk] at hL1
              simp only [Option.map_none, Option.map_some, Option.getD_none, Option.getD_some, Option.isSome_none, Option.isSome_some, VE.v] at hL1
              have hU1 := run_put_v (t := 55) Tryz.underlying55 Tryz.underlying9 ((wr.alloc (.cells #[.int .i64 X.ty, .int .i64 X.lv, .string X.tx, .string X.nm, .slice A0 X.val.length c9, .slice B0 X.ats.length d0, .int .i64 X.fr, .int .i64 X.tu] 26)).alloc (.cells #[.int .i64 Y.ty, .int .i64 Y.lv, .string Y.tx, .string Y.nm, .slice A1 Y.val.length c1, .slice B1 Y.ats.length d1, .int .i64 Y.fr, .int .i64 Y.tu] 26)) w.heap.size (valM K) ((HM.out.alloc _).alloc _) (⟨#[45]⟩ ++ X.nm) (.agg #[.int .i64 X.ty, .int .i64 X.lv, .string X.tx, .string X.nm, .slice A0 X.val.length c9, .slice B0 X.ats.length d0, .int .i64 X.fr, .int .i64 X.tu])
              have hpv := put_valM (⟨#[45]⟩ ++ X.nm) ⟨X, A0, c9, B0, d0⟩ K
              unfold VE.v at hpv
              dsimp only at hpv
              rw [hpv] at hU1
              have HM2 := Lib.hid (((HM.out.alloc (.cells #[.int .i64 X.ty, .int .i64 X.lv, .string X.tx, .string X.nm, .slice A0 X.val.length c9, .slice B0 X.ats.length d0, .int .i64 X.fr, .int .i64 X.tu] 26)).alloc (.cells #[.int .i64 Y.ty, .int .i64 Y.lv, .string Y.tx, .string Y.nm, .slice A1 Y.val.length c1, .slice B1 Y.ats.length d1, .int .i64 Y.fr, .int .i64 Y.tu] 26)).set (mapV (valM (putM (⟨#[45]⟩ ++ X.nm) ⟨X, A0, c9, B0, d0⟩ K))) (valM (putM (⟨#[45]⟩ ++ X.nm) ⟨X, A0, c9, B0, d0⟩ K)).length)
              have HK2 := Lib.hid (((HK.out.alloc (by omega) (.cells #[.int .i64 X.ty, .int .i64 X.lv, .string X.tx, .string X.nm, .slice A0 X.val.length c9, .slice B0 X.ats.length d0, .int .i64 X.fr, .int .i64 X.tu] 26)).alloc (by simp; omega) (.cells #[.int .i64 Y.ty, .int .i64 Y.lv, .string Y.tx, .string Y.nm, .slice A1 Y.val.length c1, .slice B1 Y.ats.length d1, .int .i64 Y.fr, .int .i64 Y.tu] 26)).trans (kp_setBlock (.map (mapV (valM (putM (⟨#[45]⟩ ++ X.nm) ⟨X, A0, c9, B0, d0⟩ K))) (valM (putM (⟨#[45]⟩ ++ X.nm) ⟨X, A0, c9, B0, d0⟩ K)).length)))
              have HS2 := Lib.hid (show modS (vs.drop (j + 1)) (putM (⟨#[45]⟩ ++ X.nm) ⟨X, A0, c9, B0, d0⟩ K) = modS vs [] by rw [← HS.out, hdr, modS]; unfold modE; dsimp only; rw [if_pos HFA.out, HKM.out])
              clear hpv
              clear hlk hdr t1 t2
              go_wp2_with fail
              refine ⟨⟨j + 1, (putM (⟨#[45]⟩ ++ X.nm) ⟨X, A0, c9, B0, d0⟩ K), by go_num, hlt, HS2, HM2, HK2⟩, by simp [intOf]; omega⟩
          · have e2 : (X.ty == 2) = false := by rw [beq_eq_false_iff_ne]; exact t2
            have hkm : keyM X = X.nm := by unfold keyM; rw [if_neg t2]
            have HKM := Lib.hid hkm
            clear hkm
            by_cases t1 : X.ty = 1
            · have e1 : (X.ty == 1) = true := by rw [beq_iff_eq]; exact t1
              have hfa : X.ty = 1 ∨ X.ty = 2 := .inl t1
              have HFA := Lib.hid hfa
              clear hfa
              cases hlk : lookM X.nm K with
              | none =>
                have hL1 := run_look_v (t := 55) Tryz.underlying55 Tryz.underlying9 (wr.alloc (.cells #[.int .i64 X.ty, .int .i64 X.lv, .string X.tx, .string X.nm, .slice A0 X.val.length c9, .slice B0 X.ats.length d0, .int .i64 X.fr, .int .i64 X.tu] 26)) (enZero _) w.heap.size (valM K) (HM.out.alloc _) X.nm
                rw [look_valM, hlk] at hL1
                simp only [Option.map_none, Option.map_some, Option.getD_none, Option.getD_some, Option.isSome_none, Option.isSome_some, VE.v] at hL1
                have hU1 := run_put_v (t := 55) Tryz.underlying55 Tryz.underlying9 ((wr.alloc (.cells #[.int .i64 X.ty, .int .i64 X.lv, .string X.tx, .string X.nm, .slice A0 X.val.length c9, .slice B0 X.ats.length d0, .int .i64 X.fr, .int .i64 X.tu] 26)).alloc (.cells zEnB 26)) w.heap.size (valM K) ((HM.out.alloc _).alloc _) X.nm (.agg #[.int .i64 X.ty, .int .i64 X.lv, .string X.tx, .string X.nm, .slice A0 X.val.length c9, .slice B0 X.ats.length d0, .int .i64 X.fr, .int .i64 X.tu])
                have hpv := put_valM X.nm ⟨X, A0, c9, B0, d0⟩ K
                unfold VE.v at hpv
                dsimp only at hpv
                rw [hpv] at hU1
                have HM2 := Lib.hid (((HM.out.alloc (.cells #[.int .i64 X.ty, .int .i64 X.lv, .string X.tx, .string X.nm, .slice A0 X.val.length c9, .slice B0 X.ats.length d0, .int .i64 X.fr, .int .i64 X.tu] 26)).alloc (.cells zEnB 26)).set (mapV (valM (putM X.nm ⟨X, A0, c9, B0, d0⟩ K))) (valM (putM X.nm ⟨X, A0, c9, B0, d0⟩ K)).length)
                have HK2 := Lib.hid (((HK.out.alloc (by omega) (.cells #[.int .i64 X.ty, .int .i64 X.lv, .string X.tx, .string X.nm, .slice A0 X.val.length c9, .slice B0 X.ats.length d0, .int .i64 X.fr, .int .i64 X.tu] 26)).alloc (by simp; omega) (.cells zEnB 26)).trans (kp_setBlock (.map (mapV (valM (putM X.nm ⟨X, A0, c9, B0, d0⟩ K))) (valM (putM X.nm ⟨X, A0, c9, B0, d0⟩ K)).length)))
                have HS2 := Lib.hid (show modS (vs.drop (j + 1)) (putM X.nm ⟨X, A0, c9, B0, d0⟩ K) = modS vs [] by rw [← HS.out, hdr, modS]; unfold modE; dsimp only; rw [if_pos HFA.out, HKM.out])
                clear hpv
                clear hlk hdr t1 t2
                go_wp2_with fail
                refine ⟨⟨j + 1, (putM X.nm ⟨X, A0, c9, B0, d0⟩ K), by go_num, hlt, HS2, HM2, HK2⟩, by simp [intOf]; omega⟩
              | some e' =>
                obtain ⟨Y, A1, c1, B1, d1⟩ := e'
                have hL1 := run_look_v (t := 55) Tryz.underlying55 Tryz.underlying9 (wr.alloc (.cells #[.int .i64 X.ty, .int .i64 X.lv, .string X.tx, .string X.nm, .slice A0 X.val.length c9, .slice B0 X.ats.length d0, .int .i64 X.fr, .int .i64 X.tu] 26)) (enZero _) w.heap.size (valM K) (HM.out.alloc _) X.nm
                rw [look_valM, hlk] at hL1
                simp only [Option.map_none, Option.map_some, Option.getD_none, Option.getD_some, Option.isSome_none, Option.isSome_some, VE.v] at hL1
                have hU1 := run_put_v (t := 55) Tryz.underlying55 Tryz.underlying9 ((wr.alloc (.cells #[.int .i64 X.ty, .int .i64 X.lv, .string X.tx, .string X.nm, .slice A0 X.val.length c9, .slice B0 X.ats.length d0, .int .i64 X.fr, .int .i64 X.tu] 26)).alloc (.cells #[.int .i64 Y.ty, .int .i64 Y.lv, .string Y.tx, .string Y.nm, .slice A1 Y.val.length c1, .slice B1 Y.ats.length d1, .int .i64 Y.fr, .int .i64 Y.tu] 26)) w.heap.size (valM K) ((HM.out.alloc _).alloc _) X.nm (.agg #[.int .i64 X.ty, .int .i64 X.lv, .string X.tx, .string X.nm, .slice A0 X.val.length c9, .slice B0 X.ats.length d0, .int .i64 X.fr, .int .i64 X.tu])
                have hpv := put_valM X.nm ⟨X, A0, c9, B0, d0⟩ K
                unfold VE.v at hpv
                dsimp only at hpv
                rw [hpv] at hU1
                have HM2 := Lib.hid (((HM.out.alloc (.cells #[.int .i64 X.ty, .int .i64 X.lv, .string X.tx, .string X.nm, .slice A0 X.val.length c9, .slice B0 X.ats.length d0, .int .i64 X.fr, .int .i64 X.tu] 26)).alloc (.cells #[.int .i64 Y.ty, .int .i64 Y.lv, .string Y.tx, .string Y.nm, .slice A1 Y.val.length c1, .slice B1 Y.ats.length d1, .int .i64 Y.fr, .int .i64 Y.tu] 26)).set (mapV (valM (putM X.nm ⟨X, A0, c9, B0, d0⟩ K))) (valM (putM X.nm ⟨X, A0, c9, B0, d0⟩ K)).length)
                have HK2 := Lib.hid (((HK.out.alloc (by omega) (.cells #[.int .i64 X.ty, .int .i64 X.lv, .string X.tx, .string X.nm, .slice A0 X.val.length c9, .slice B0 X.ats.length d0, .int .i64 X.fr, .int .i64 X.tu] 26)).alloc (by simp; omega) (.cells #[.int .i64 Y.ty, .int .i64 Y.lv, .string Y.tx, .string Y.nm, .slice A1 Y.val.length c1, .slice B1 Y.ats.length d1, .int .i64 Y.fr, .int .i64 Y.tu] 26)).trans (kp_setBlock (.map (mapV (valM (putM X.nm ⟨X, A0, c9, B0, d0⟩ K))) (valM (putM X.nm ⟨X, A0, c9, B0, d0⟩ K)).length)))
                have HS2 := Lib.hid (show modS (vs.drop (j + 1)) (putM X.nm ⟨X, A0, c9, B0, d0⟩ K) = modS vs [] by rw [← HS.out, hdr, modS]; unfold modE; dsimp only; rw [if_pos HFA.out, HKM.out])
                clear hpv
                clear hlk hdr t1 t2
                go_wp2_with fail
                refine ⟨⟨j + 1, (putM X.nm ⟨X, A0, c9, B0, d0⟩ K), by go_num, hlt, HS2, HM2, HK2⟩, by simp [intOf]; omega⟩
            · have e1 : (X.ty == 1) = false := by rw [beq_eq_false_iff_ne]; exact t1
              have hfa : ¬ (X.ty = 1 ∨ X.ty = 2) := fun k => k.elim t1 t2
              have HFA := Lib.hid hfa
              clear hfa
              cases hlk : lookM X.nm K with
              | none =>
                have hL1 := run_look_v (t := 55) Tryz.underlying55 Tryz.underlying9 (wr.alloc (.cells #[.int .i64 X.ty, .int .i64 X.lv, .string X.tx, .string X.nm, .slice A0 X.val.length c9, .slice B0 X.ats.length d0, .int .i64 X.fr, .int .i64 X.tu] 26)) (enZero _) w.heap.size (valM K) (HM.out.alloc _) X.nm
                rw [look_valM, hlk] at hL1
                simp only [Option.map_none, Option.map_some, Option.getD_none, Option.getD_some, Option.isSome_none, Option.isSome_some, VE.v] at hL1
                have HM2 := Lib.hid ((HM.out.alloc (.cells #[.int .i64 X.ty, .int .i64 X.lv, .string X.tx, .string X.nm, .slice A0 X.val.length c9, .slice B0 X.ats.length d0, .int .i64 X.fr, .int .i64 X.tu] 26)).alloc (.cells zEnB 26))
                have HK2 := Lib.hid ((HK.out.alloc (by omega) (.cells #[.int .i64 X.ty, .int .i64 X.lv, .string X.tx, .string X.nm, .slice A0 X.val.length c9, .slice B0 X.ats.length d0, .int .i64 X.fr, .int .i64 X.tu] 26)).alloc (by simp; omega) (.cells zEnB 26))
                have HS2 := Lib.hid (show modS (vs.drop (j + 1)) K = modS vs [] by rw [← HS.out, hdr, modS]; unfold modE; dsimp only; rw [if_neg HFA.out])
                clear hlk hdr t1 t2
                go_wp2_with fail
                refine ⟨⟨j + 1, K, by go_num, hlt, HS2, HM2, HK2⟩, by simp [intOf]; omega⟩
              | some e' =>
                obtain ⟨Y, A1, c1, B1, d1⟩ := e'
                have hL1 := run_look_v (t := 55) Tryz.underlying55 Tryz.underlying9 (wr.alloc (.cells #[.int .i64 X.ty, .int .i64 X.lv, .string X.tx, .string X.nm, .slice A0 X.val.length c9, .slice B0 X.ats.length d0, .int .i64 X.fr, .int .i64 X.tu] 26)) (enZero _) w.heap.size (valM K) (HM.out.alloc _) X.nm
                rw [look_valM, hlk] at hL1
                simp only [Option.map_none, Option.map_some, Option.getD_none, Option.getD_some, Option.isSome_none, Option.isSome_some, VE.v] at hL1
                have HM2 := Lib.hid ((HM.out.alloc (.cells #[.int .i64 X.ty, .int .i64 X.lv, .string X.tx, .string X.nm, .slice A0 X.val.length c9, .slice B0 X.ats.length d0, .int .i64 X.fr, .int .i64 X.tu] 26)).alloc (.cells #[.int .i64 Y.ty, .int .i64 Y.lv, .string Y.tx, .string Y.nm, .slice A1 Y.val.length c1, .slice B1 Y.ats.length d1, .int .i64 Y.fr, .int .i64 Y.tu] 26))
                have HK2 := Lib.hid ((HK.out.alloc (by omega) (.cells #[.int .i64 X.ty, .int .i64 X.lv, .string X.tx, .string X.nm, .slice A0 X.val.length c9, .slice B0 X.ats.length d0, .int .i64 X.fr, .int .i64 X.tu] 26)).alloc (by simp; omega) (.cells #[.int .i64 Y.ty, .int .i64 Y.lv, .string Y.tx, .string Y.nm, .slice A1 Y.val.length c1, .slice B1 Y.ats.length d1, .int .i64 Y.fr, .int .i64 Y.tu] 26))
                have HS2 := Lib.hid (show modS (vs.drop (j + 1)) K = modS vs [] by rw [← HS.out, hdr, modS]; unfold modE; dsimp only; rw [if_neg HFA.out])
                clear hlk hdr t1 t2
                go_wp2_with fail
                refine ⟨⟨j + 1, K, by go_num, hlt, HS2, HM2, HK2⟩, by simp [intOf]; omega⟩
        · obtain rfl : j = LL := by omega
          have f1 : decide ((j : Int) < (j : Int)) = false := decide_eq_false (by omega)
          have hfin : modS vs [] = K := by
            have := HS.out
            rw [List.drop_eq_nil_of_le (by rw [HVL.out]; exact Nat.le_refl _), modS] at this
            exact this.symm
          have HFin := Lib.hid hfin
          clear hfin
          go_wp2_with fail
          refine ⟨.inr ⟨by go_num, Lib.hid ⟨vs, HV.out, by rw [HFin.out]; exact HM.out, fun e he => ?_, B3.out.trans HK.out.below⟩⟩, by simp [intOf]⟩
          obtain ⟨q1, q2⟩ := HTr.out e he
          have hc : ∀ k, Since w2.heap.size w3 k → k < wr.heap.size ∧ wr.heap[k]? = w3.heap[k]? := fun k hk => ⟨Nat.lt_of_lt_of_le hk.2 HK.out.size, HK.out.others k hk.2 (by have := hk.1; omega)⟩
          exact ⟨PatF.carry hc q1, AtsF.carry hc q2⟩
    · obtain ⟨vs, h1, h2, h3, h4⟩ := HE.out
      have H1 := Lib.hid h1
      have H2 := Lib.hid h2
      have H3 := Lib.hid h3
      have H4 := Lib.hid h4
      clear h1 h2 h3 h4
      go_wp2
      go_ret
      exact ⟨w.heap.size, vs, rfl, H1.out, H2.out, H3.out, H4.out⟩
end Go.Proofs.YtamghpleajbonaaGreatDoor

namespace Go.Proofs.YtamghpleajbonaaGreatDoor
open Go.RowKit Go.ChangeMaps
set_option linter.unusedVariables false
set_option linter.unusedSimpArgs false
theorem srcs_new1 (w : World) (A : Option Addr) (s : ByteArray) (c : Nat) (o : Bool) :
    SrcsAt (w.alloc (.cells #[.slice A s.size c, .bool o] 38)) w.heap.size [⟨A, s, c, o⟩] := by
  have hb : BoxAt (w.alloc (.cells #[.slice A s.size c, .bool o] 38)) w.heap.size #[.slice A s.size c, .bool o] 38 := BoxAt.new _ _ _
  intro j e h
  match j, h with
  | 0, h => simp at h; subst h; exact ⟨hb.cell 0, hb.cell 1⟩
theorem two_take {l : List EN} {j : Nat} (h : j < l.length) : ofTwo (l.take (j + 1)) = ofTwo (l.take j) + (if l[j].ty = 1 ∨ l[j].ty = 2 then 1 else 0) ∧ ofJunk (l.take (j + 1)) = ofJunk (l.take j) + (if l[j].ty = 3 then 1 else 0) := by
  induction l generalizing j with
  | nil => simp at h
  | cons x r ih =>
    cases j with
    | zero => simp [ofTwo, ofJunk]
    | succ j =>
      obtain ⟨h1, h2⟩ := ih (j := j) (by simpa using h)
      rw [List.take_succ_cons, List.take_succ_cons, ofTwo, ofTwo, ofJunk, ofJunk, h1, h2]
      simp only [List.getElem_cons_succ]
      omega
theorem ofTwo_le (l : List EN) : ofTwo l ≤ l.length ∧ ofJunk l ≤ l.length := by
  induction l with
  | nil => exact ⟨Nat.le_refl _, Nat.le_refl _⟩
  | cons x r ih => rw [ofTwo, ofJunk, List.length_cons]; constructor <;> split <;> omega
theorem twice_look {s : ByteArray} (hs : s.size ≤ 1500) {over : Bool} {v1 v2 v3 : List VE} (h1 : v1.map (·.x) = docS s) (h2 : v2.map (·.x) = docS s) (h3 : v3.map (·.x) = docS s) {x : ByteArray} {p : VE} (hp : lookL x (putS 1 over v2 (putS 1 true v1 [])) = some p) :
    ∃ q, lookM x (modS v3 []) = some q ∧ q.x = p.x ∧ q ∈ v3 := by
  have hm := look_some hp
  have hx : ∃ y ∈ docS s, y.ty = 1 ∧ y.nm = x := by
    have hin : x ∈ nms (putS 1 over v2 (putS 1 true v1 [])) := by
      unfold nms
      rw [← hm.2]
      exact List.mem_map.2 ⟨p, hm.1, rfl⟩
    rw [putS_mem, putS_mem, mem_doc h1, mem_doc h2] at hin
    rcases hin with (h | h) | h
    · simp [nms] at h
    · exact h
    · exact h
  obtain ⟨y, hy, hy1, hy2⟩ := hx
  have hok := (doc_ok hs).1
  have hle : leB (at0 x.data.toList 0) = true := by rw [← hy2]; exact ((hok y hy).le (.inl hy1)).1
  have e3 := look_modS hle v3 [] (fun e he => hok e.x (by rw [← h3]; exact List.mem_map.2 ⟨e, he, rfl⟩))
  have z3 : (lookM x ([] : List KE)).map (·.x) = none := rfl
  rw [z3, h3] at e3
  have e1 := look_over 1 x v1 []
  have z1 : (lookL x ([] : List VE)).map (·.x) = none := rfl
  rw [z1, h1] at e1
  have hne : ∃ z, lastT 1 x (docS s) none = some z := by
    rcases last_is 1 x (docS s) none with ⟨_, h⟩ | h
    · exact absurd ⟨hy1, hy2⟩ (h y hy)
    · exact (h none).2
  obtain ⟨z, hz⟩ := hne
  rw [hz] at e1 e3
  have e2 : (lookL x (putS 1 over v2 (putS 1 true v1 []))).map (·.x) = some z := by
    cases over with
    | true =>
      rw [look_over, e1, h2]
      rcases last_is 1 x (docS s) none with ⟨_, h⟩ | h
      · exact absurd ⟨hy1, hy2⟩ (h y hy)
      · rw [(h (some z)).1, hz]
    | false => rw [look_kept, e1]; rfl
  rw [hp] at e2
  obtain ⟨q, hq, hqz⟩ := Option.map_eq_some_iff.1 e3
  simp only [Option.map_some, Option.some.injEq] at e2
  obtain ⟨k, hk⟩ := lookM_mem hq
  refine ⟨q, hq, by rw [hqz, e2], ?_⟩
  rcases modS_mem v3 [] _ hk with h | h
  · simp at h
  · exact h
set_option maxHeartbeats 16000000 in
set_option maxRecDepth 100000 in
theorem lawTwice (Aa : Option Addr) (sa : ByteArray) (ca : Nat) (over : Bool) (w0 : World) (ha : ResAt w0 Aa sa ca) (hsz : sa.size ≤ 9223372036854775807) :
    Calls Tryz.prog 5 #[.slice Aa sa.size ca, .bool over] w0 fun e w' => e = .returned (.bool true) ∧ Below w0.heap.size w0 w' := by
  have HA := Lib.hid ha
  clear ha
  go_enter Tryz.func5, Tryz.ntmps5
  go_wp2_with fail
  go_at_call 6
  refine (head15_any _).mono ?_
  rintro e w1 ⟨rfl, b1⟩
  have B1 := Lib.hid b1
  clear b1
  go_wp2_with fail
  go_at_call 10
  refine (few_any w1.heap.size 1 [⟨Aa, sa, ca, false⟩] _ (by simp) (srcs_new1 w1 Aa sa ca false) (by simp only [totS]; omega) (by simp)).mono ?_
  rintro e w2 ⟨rfl, b2⟩
  have B2 := Lib.hid ((below_new B1.out (Nat.le_refl _) (.cells #[.slice Aa sa.size ca, .bool false] 38)).trans (b2.mono (by have := B1.out.size; simp; omega)))
  clear b2 B1
  by_cases ht : totS [⟨Aa, sa, ca, false⟩] ≤ 1500
  case neg =>
    have f0 : decide (totS [⟨Aa, sa, ca, false⟩] ≤ 1500) = false := decide_eq_false ht
    go_wp2
    go_ret
    exact ⟨rfl, B2.out⟩
  have f0 : decide (totS [⟨Aa, sa, ca, false⟩] ≤ 1500) = true := decide_eq_true ht
  have HSA := Lib.hid (show sa.size ≤ 1500 by simp only [totS] at ht; omega)
  rw [f0]
  clear ht f0
  have hw2 := B2.out.size
  have HDE := Lib.hid (fun W h => dec_doc (w0 := w0) HA.out HSA.out W h)
  have HPA := Lib.hid (fun W => par_doc HSA.out W)
  have HADD := Lib.hid (fun (b mb tb : Nat) (o : Bool) (M T : List VE) W h h1 h2 => addB_at (w0 := w0) HA.out HSA.out b mb tb o ⟨#[101, 110]⟩ ⟨#[]⟩ ⟨#[]⟩ M T W h h1 h2)
  go_wp2_with fail
  go_at_call 13
  refine (new_any _ _ _ _).mono ?_
  rintro e w3 ⟨b, rfl, hb0, hBx, b3⟩
  have B3 := Lib.hid (B2.out.trans (b3.mono B2.out.size))
  have HX3 := Lib.hid hBx
  have hbl := hBx.lt
  clear hBx b3 B2
  go_wp2_with fail
  go_at_call 14
  refine (addB_any (w0 := w0) HA.out HSA.out b true _ _ _ [] [] w3 B3.out (by omega) (.inl ⟨HX3.out, rfl, rfl⟩)).mono ?_
  rintro e w4 ⟨v1, A4, c4, hv1, ⟨mb, tb, hN⟩, rfl, b4⟩
  have HN4 := Lib.hid hN
  have HV1 := Lib.hid hv1
  have hb0w : w0.heap.size ≤ b := by omega
  have B4 := Lib.hid (B3.out.trans (b4.mono hb0w))
  have hw34 : w3.heap.size ≤ w4.heap.size := b4.size
  clear hN hv1 b4 HX3 B3
  generalize hvj : (addS true v1 ⟨[], [], [], 0⟩).tw.length = tl at *
  generalize hvk : (addS true v1 ⟨[], [], [], 0⟩).jk = jl at *
  clear hvj hvk
  generalize hM1 : putS 1 true v1 [] = M1 at *
  generalize hT1 : putS 2 true v1 [] = T1 at *
  have HM1 := Lib.hid hM1
  have HT1 := Lib.hid hT1
  clear hM1 hT1
  have hd1 : (nms M1).Nodup := by rw [← HM1.out]; exact putS_nodup _ _ _ _ nodup_nil9
  have ok1 : ∀ e ∈ M1, EnOk e.x := by rw [← HM1.out]; exact allok_put HSA.out HV1.out (fun e h => by simp at h)
  have hl1 : M1.length ≤ 6000 := by
    rw [← HM1.out]
    have k2 := len_put (ty := 1) (o := true) (L := []) HSA.out HV1.out
    simp at k2
    omega
  have N1 := names_bun HN4.out hd1 ok1 (by omega)
  go_wp2_with fail
  go_at_call 12
  refine N1.mono ?_
  rintro e w5 ⟨g1, cap1, rfl, hc1, ⟨hg0, hg1⟩, b5⟩
  have C5 := Lib.hid hc1
  have B5 := Lib.hid (B4.out.trans (b5.mono B4.out.size))
  have HN5 := Lib.hid (HN4.out.later b5)
  have hb5 := b5.size
  have hml : mb < w4.heap.size := HN4.out.mm.lt
  have htl : tb < w4.heap.size := HN4.out.tm.lt
  have hd2 : ∀ (o : Bool) (v2 : List VE), (nms (putS 1 o v2 M1)).Nodup := fun o v2 => putS_nodup _ _ _ _ hd1
  have hpm : ∀ (o : Bool) (v2 : List VE), v2.map (·.x) = docS sa → (nms M1).Perm (nms (putS 1 o v2 M1)) := fun o v2 h2 => (List.perm_ext_iff_of_nodup hd1 (hd2 o v2)).2 fun n => by
    rw [← HM1.out, putS_mem, putS_mem, putS_mem, mem_doc HV1.out, mem_doc h2]
    constructor
    · exact fun h => .inl h
    · rintro (h | h)
      · exact h
      · exact .inr h
  have hXm : ∀ i, i < M1.length → ∃ x, (sortN (nms M1))[i]? = some x ∧ x ∈ nms M1 := fun i hi => by
    have hp := sortN_mem (nms M1)
    have hl : (sortN (nms M1)).length = M1.length := by rw [hp.length_eq]; unfold nms; rw [List.length_map]
    refine ⟨(sortN (nms M1))[i]'(by omega), List.getElem?_eq_getElem _, ?_⟩
    exact hp.mem_iff.1 (List.getElem_mem _)
  have HPM := Lib.hid hpm
  have HD2 := Lib.hid hd2
  have HOK1 := Lib.hid ok1
  have HXM := Lib.hid hXm
  have hl0 : (M1.length : Int) ≤ 6000 := by omega
  clear hc1 b5 HN4 N1 hd1 hpm hd2 ok1 hXm
  go_wp2_with fail
  go_at_call 14
  refine (HADD.out b mb tb over M1 T1 w5 B5.out hb0w HN5.out).mono ?_
  rintro e w6 ⟨v2, A6, c6, hv2, hN, rfl, b6, hk6⟩
  have htw : (addS over v2 ⟨M1, T1, [], 0⟩).tw.length = ofTwo (docS sa) := by
    rw [addS_tw over v2 ⟨M1, T1, [], 0⟩ (fun e he => ?_), hv2]
    · simp
    · have hd : e.x ∈ docS sa := by rw [← hv2]; exact List.mem_map.2 ⟨e, he, rfl⟩
      constructor
      · intro h
        show e.x.nm ∈ nms M1
        rw [← HM1.out, putS_mem, mem_doc HV1.out]
        exact .inr ⟨e.x, hd, h, rfl⟩
      · intro h
        show e.x.nm ∈ nms T1
        rw [← HT1.out, putS_mem, mem_doc HV1.out]
        exact .inr ⟨e.x, hd, h, rfl⟩
  have hjk : (addS over v2 ⟨M1, T1, [], 0⟩).jk = ofJunk (docS sa) := by rw [addS_jk, hv2]; simp
  rw [htw, hjk]
  have HN6 := Lib.hid hN
  have HV2 := Lib.hid hv2
  have B6 := Lib.hid (B5.out.trans (b6.mono hb0w))
  have h6g : w6.heap[g1]? = w5.heap[g1]? := hk6 g1 ⟨hg1, by omega, by omega, by omega⟩
  have C6 := Lib.hid (fun i x (h : (sortN (nms M1))[i]? = some x) => (cell_same h6g i).trans (C5.out i x h))
  have hg6 : g1 < w6.heap.size := Nat.lt_of_lt_of_le hg1 b6.size
  have hdl := (doc_ok HSA.out).2
  have hle := ofTwo_le (docS sa)
  have hT0 : (ofTwo (docS sa) : Int) ≤ 6000 := by omega
  have hJ0 : (ofJunk (docS sa) : Int) ≤ 6000 := by omega
  have HDL := Lib.hid hdl
  clear hN hv2 b6 hk6 htw hjk h6g C5 HN5 B5 HADD hle hdl
  generalize hnT : ofTwo (docS sa) = nT at *
  generalize hnJ : ofJunk (docS sa) = nJ at *
  have HNT := Lib.hid hnT
  have HNJ := Lib.hid hnJ
  clear hnT hnJ
  go_wp2_with fail
  go_at_call 17
  refine (HDE.out _ B6.out).mono ?_
  rintro e w7 ⟨rfl, b7⟩
  have B7 := Lib.hid b7
  clear b7
  go_wp2_with fail
  go_at_call 16
  refine (HPA.out _).mono ?_
  rintro e w8 ⟨b8, A8, c8, rfl, hl8⟩
  obtain ⟨v8, hv8, _, hcs⟩ := vs_of hl8
  have B8 := Lib.hid (B7.out.trans (b8.mono B7.out.size))
  have HV8 := Lib.hid hv8
  have hw67 := B7.out.size
  have hw78 := b8.size
  obtain ⟨LL, hLL⟩ : ∃ n, (docS sa).length = n := ⟨_, rfl⟩
  rw [hLL] at hcs ⊢
  have HCs := Lib.hid hcs
  have HLL := Lib.hid hLL
  have hL0 : (LL : Int) ≤ 6000 := by have := HDL.out; omega
  clear b8 hl8 hv8 hcs hLL B7
  go_wp2_with fail
  go_loopw [9, 10, 44] (fun t9 t10 t44 wr => ∃ j : Nat, t44 = .int .i64 j ∧ t9 = .int .i64 (ofTwo ((docS sa).take j) : Nat) ∧ t10 = .int .i64 (ofJunk ((docS sa).take j) : Nat) ∧ j ≤ LL ∧ Hid (Below w8.heap.size w8 wr)) (fun _ _ t44 _ => LL - (intOf t44).toNat)
  case atStart => exact ⟨0, rfl, rfl, rfl, Nat.zero_le _, Lib.hid (Below.refl _ _)⟩
  case round =>
    obtain ⟨j, rfl, rfl, rfl, hj, HB⟩ := hrel
    have hj0 : (j : Int) ≤ 6000 := by omega
    by_cases hlt : j < LL
    · have f1 : decide ((j : Int) < (LL : Int)) = true := decide_eq_true (by omega)
      have f2 : (j : Int) < (LL : Int) := by omega
      obtain ⟨bq, oq, rfl, hq1, hq2, hcs⟩ := HCs.out (by omega)
      have hjl : j < (docS sa).length := by rw [HLL.out]; exact hlt
      have hjv : j < v8.length := by have := congrArg List.length HV8.out; rw [List.length_map] at this; omega
      have hvx : v8[j].x = (docS sa)[j] := by
        have h1 : (v8.map (·.x))[j]? = (docS sa)[j]? := by rw [HV8.out]
        rw [List.getElem?_map, List.getElem?_eq_getElem hjv, List.getElem?_eq_getElem hjl] at h1
        simpa using h1
      obtain ⟨g0, g1', g2, g3, g4, g5, g6, g7⟩ := hcs j _ (List.getElem?_eq_getElem hjv)
      have hts := two_take hjl
      have hty := (doc_ok HSA.out).1 _ (List.getElem_mem hjl)
      have hle := ofTwo_le ((docS sa).take j)
      rw [List.length_take] at hle
      rw [← hvx] at hts hty
      generalize v8[j] = e at *
      obtain ⟨X, A0, c9, B0, d0⟩ := e
      dsimp only at g0 g1' g2 g3 g4 g5 g6 g7 hts hty
      have hty2 := hty.ty
      have hbq : bq < wr.heap.size := Nat.lt_of_lt_of_le hq2 HB.out.size
      have hcell : ∀ (o : Nat) v, w8.cell? ⟨bq, o, none⟩ = some v → wr.cell? ⟨bq, o, none⟩ = some v := fun o v h => (HB.out.cell (p := ⟨bq, o, none⟩) hq2).trans h
      have g0 := hcell _ _ g0
      have g1' := hcell _ _ g1'
      have g2 := hcell _ _ g2
      have g3 := hcell _ _ g3
      have g4 := hcell _ _ g4
      have g5 := hcell _ _ g5
      have g6 := hcell _ _ g6
      have g7 := hcell _ _ g7
      have HTs := Lib.hid hts
      obtain ⟨nn, hnn⟩ : ∃ n, ofTwo ((docS sa).take j) = n := ⟨_, rfl⟩
      obtain ⟨mm, hmm⟩ : ∃ n, ofJunk ((docS sa).take j) = n := ⟨_, rfl⟩
      have hn0 : (nn : Int) ≤ 6000 := by omega
      have hm0 : (mm : Int) ≤ 6000 := by omega
      rw [hnn, hmm] at HTs ⊢
      have HBx := Lib.hid (below_new HB.out (Nat.le_refl _) (.cells #[.int .i64 X.ty, .int .i64 X.lv, .string X.tx, .string X.nm, .slice A0 X.val.length c9, .slice B0 X.ats.length d0, .int .i64 X.fr, .int .i64 X.tu] 26))
      clear hcs hjl hjv hvx hts hty hle hcell hnn hmm hq2
      by_cases t1 : X.ty = 1
      · have e1 : (X.ty == 1) = true := by rw [beq_iff_eq]; exact t1
        have hr := Lib.hid (show ofTwo ((docS sa).take (j + 1)) = nn + 1 ∧ ofJunk ((docS sa).take (j + 1)) = mm by
          have h := HTs.out
          rw [if_pos (.inl t1), if_neg (show ¬ X.ty = 3 by omega)] at h
          exact h)
        clear t1 HTs hty2
        go_wp2_with fail
        refine ⟨⟨j + 1, by go_num, by rw [hr.out.1]; go_num, by rw [hr.out.2], hlt, HBx⟩, by simp [intOf]; omega⟩
      · have e1 : (X.ty == 1) = false := by rw [beq_eq_false_iff_ne]; exact t1
        by_cases t2 : X.ty = 2
        · have e2 : (X.ty == 2) = true := by rw [beq_iff_eq]; exact t2
          have hr := Lib.hid (show ofTwo ((docS sa).take (j + 1)) = nn + 1 ∧ ofJunk ((docS sa).take (j + 1)) = mm by
            have h := HTs.out
            rw [if_pos (.inr t2), if_neg (show ¬ X.ty = 3 by omega)] at h
            exact h)
          clear t1 t2 HTs hty2
          go_wp2_with fail
          refine ⟨⟨j + 1, by go_num, by rw [hr.out.1]; go_num, by rw [hr.out.2], hlt, HBx⟩, by simp [intOf]; omega⟩
        · have e2 : (X.ty == 2) = false := by rw [beq_eq_false_iff_ne]; exact t2
          by_cases t3 : X.ty = 3
          · have e3 : (X.ty == 3) = true := by rw [beq_iff_eq]; exact t3
            have hr := Lib.hid (show ofTwo ((docS sa).take (j + 1)) = nn ∧ ofJunk ((docS sa).take (j + 1)) = mm + 1 by
              have h := HTs.out
              rw [if_neg (fun k => k.elim t1 t2), if_pos t3] at h
              exact h)
            clear t1 t2 t3 HTs hty2
            go_wp2_with fail
            refine ⟨⟨j + 1, by go_num, by rw [hr.out.1], by rw [hr.out.2]; go_num, hlt, HBx⟩, by simp [intOf]; omega⟩
          · have e3 : (X.ty == 3) = false := by rw [beq_eq_false_iff_ne]; exact t3
            have hr := Lib.hid (show ofTwo ((docS sa).take (j + 1)) = nn ∧ ofJunk ((docS sa).take (j + 1)) = mm by
              have h := HTs.out
              rw [if_neg (fun k => k.elim t1 t2), if_neg t3] at h
              exact h)
            clear t1 t2 t3 HTs hty2
            go_wp2_with fail
            refine ⟨⟨j + 1, by go_num, by rw [hr.out.1], by rw [hr.out.2], hlt, HBx⟩, by simp [intOf]; omega⟩
    · obtain rfl : j = LL := by omega
      have f1 : decide ((j : Int) < (j : Int)) = false := decide_eq_false (by omega)
      rw [List.take_of_length_le (by rw [HLL.out]; exact Nat.le_refl _), HNT.out, HNJ.out]
      have N2 := names_bun (HN6.out.later (B8.out.trans (HB.out.mono (by omega)))) (HD2.out over v2) (allok_put HSA.out HV2.out HOK1.out) (by have := len_put (ty := 1) (o := over) (L := M1) HSA.out HV2.out; omega)
      have hpp := HPM.out over v2 HV2.out
      have hlen : (putS 1 over v2 M1).length = M1.length := by have := hpp.length_eq; unfold nms at this; rw [List.length_map, List.length_map] at this; exact this.symm
      rw [hlen, ← sortN_perm hpp] at N2
      have HN2 := Lib.hid N2
      clear N2 hlen hpp
      go_wp2_with fail
      go_at_call 12
      refine HN2.out.mono ?_
      rintro e w9 ⟨g2, cap2, rfl, hc2, ⟨_, hg2⟩, b9⟩
      have b69 := Lib.hid ((B8.out.trans (HB.out.mono (by omega))).trans (b9.mono (by have := HB.out.size; omega)))
      have HN9 := Lib.hid (HN6.out.later b69.out)
      have B9 := Lib.hid (B6.out.trans (b69.out.mono B6.out.size))
      have C9 := Lib.hid (fun i x (h : (sortN (nms M1))[i]? = some x) => (b69.out.cell (p := ⟨g1, i, none⟩) hg6).trans (C6.out i x h))
      have D9 := Lib.hid hc2
      have hg19 : g1 < w9.heap.size := Nat.lt_of_lt_of_le hg6 b69.out.size
      have zT : ((nT : Int) != (nT : Int)) = false := bne_self_eq_false _
      have zJ : ((nJ : Int) != (nJ : Int)) = false := bne_self_eq_false _
      have zL : ((M1.length : Int) != (M1.length : Int)) = false := bne_self_eq_false _
      have HLKp := Lib.hid (fun (x : ByteArray) (p : VE) (v3 : List VE) (h3 : v3.map (·.x) = docS sa) (hp : lookL x (putS 1 over v2 M1) = some p) => twice_look HSA.out HV1.out HV2.out h3 (by rw [HM1.out]; exact hp))
      have HOK2 := Lib.hid (allok_put (ty := 1) (o := over) HSA.out HV2.out HOK1.out)
      have HXM2 := Lib.hid (fun x (h : x ∈ nms M1) => ((HPM.out over v2 HV2.out).mem_iff (a := x)).1 h)
      clear hc2 b9 HN2 HB B8 HN6 B6 C6 HCs HV8 b69 HDE HPA
      generalize putS 1 over v2 M1 = M2 at *
      generalize putS 2 over v2 T1 = T2 at *
      go_wp2_with fail
      go_at_call 18
      have M9 := model_any (w0 := w0) HA.out HSA.out w9.heap.size 1 (w9.alloc (.cells #[.slice Aa sa.size ca, .bool true] 38)) (by simp) (srcs_new1 w9 Aa sa ca true) (below_new B9.out (Nat.le_refl _) _)
      refine M9.mono ?_
      rintro e w10 ⟨mm, v3, rfl, hv3, hmm, htr, b10⟩
      have b910 : Below w9.heap.size w9 w10 := (Below.refl w9.heap.size w9).alloc (Nat.le_refl _) (.cells #[.slice Aa sa.size ca, .bool true] 38) |>.trans (b10.mono (by simp))
      have HN10 := Lib.hid (HN9.out.later b910)
      have B10 := Lib.hid (B9.out.trans (b910.mono B9.out.size))
      have C10 := Lib.hid (fun i x (h : (sortN (nms M1))[i]? = some x) => (b910.cell (p := ⟨g1, i, none⟩) hg19).trans (C9.out i x h))
      have D10 := Lib.hid (fun i x (h : (sortN (nms M1))[i]? = some x) => (b910.cell (p := ⟨g2, i, none⟩) hg2).trans (D9.out i x h))
      have hg110 : g1 < w10.heap.size := Nat.lt_of_lt_of_le hg19 b910.size
      have hg210 : g2 < w10.heap.size := Nat.lt_of_lt_of_le hg2 b910.size
      have HM10 := Lib.hid hmm
      have HTr := Lib.hid htr
      have HV3 := Lib.hid hv3
      clear hmm htr hv3 b10 b910 M9 HN9 B9 C9 D9 hg19 hg2
      go_wp2_with fail
      go_loopw [84] (fun t84 wx => ∃ i : Nat, t84 = .int .i64 i ∧ i ≤ M1.length ∧ Hid (Below w10.heap.size w10 wx)) (fun t84 _ => M1.length - (intOf t84).toNat)
      case atStart => exact ⟨0, rfl, Nat.zero_le _, Lib.hid (Below.refl _ _)⟩
      case round =>
        obtain ⟨i, rfl, hi, HBl⟩ := hrel
        have hi0 : (i : Int) ≤ 6000 := by omega
        by_cases hlt : i < M1.length
        · have f1 : decide ((i : Int) < (M1.length : Int)) = true := decide_eq_true (by omega)
          have f2 : (i : Int) < (M1.length : Int) := by omega
          obtain ⟨x, hx, hxm⟩ := HXM.out i hlt
          obtain ⟨⟨PX, PA, PC, PB, PD⟩, hp, hpm, hnn⟩ := look_is (HXM2.out x hxm)
          obtain ⟨⟨QX, QA, QC, QB, QD⟩, hq, hqx, hqm⟩ := HLKp.out x _ v3 HV3.out hp
          dsimp only at hqx
          subst hqx
          have k1 := (HBl.out.cell (p := ⟨g1, i, none⟩) hg110).trans (C10.out i x hx)
          have k2 := (HBl.out.cell (p := ⟨g2, i, none⟩) hg210).trans (D10.out i x hx)
          have hgr1 : g1 < wr.heap.size := Nat.lt_of_lt_of_le hg110 HBl.out.size
          have hgr2 : g2 < wr.heap.size := Nat.lt_of_lt_of_le hg210 HBl.out.size
          have zx : (x.toList != x.toList) = false := bne_self_eq_false _
          have HMp := Lib.hid (fun W (h : Below wr.heap.size wr W) => message_is ((HN10.out.later HBl.out).later h) hp)
          have hOk : EnOk QX := HOK2.out _ hpm
          have hpt := HN10.out.later HBl.out |>.tr _ (.inl hpm)
          have hqt := HTr.out _ hqm
          have hc : ∀ k, k < w10.heap.size → k < wr.heap.size ∧ wr.heap[k]? = w10.heap[k]? := fun k hk => ⟨Nat.lt_of_lt_of_le hk HBl.out.size, HBl.out.block k hk⟩
          have HE := fun W (h : Below wr.heap.size wr W) => entry_same (W0 := wr) QX.ty QX.lv QX.tx QX.nm QX.val QX.ats QX.fr QX.tu QX.fr QX.tu (PatF.at9 (fun k hk => hk.1) hpt.1) (PatF.at9 (fun k hk => hk) (PatF.carry hc hqt.1)) (AtsF.at9 (fun k hk => hk.1) hpt.2) (AtsF.at9 (fun k hk => hk) (AtsF.carry hc hqt.2)) (by have := hOk.sz; omega) (by have := hOk.sz; omega) W h
          unfold entV at HE
          have HEE := Lib.hid HE
          have hMr : MapAt wr mm (mapV (valM (modS v3 []))) (valM (modS v3 [])).length := HM10.out.later HBl.out
          have hLw := fun (W : World) (h : MapAt W mm (mapV (valM (modS v3 []))) (valM (modS v3 [])).length) => run_look_w (t := 55) Tryz.underlying55 Tryz.underlying9 W (enZero W) mm (valM (modS v3 [])) h x
          rw [look_valM, hq] at hLw
          simp only [Option.map_some, Option.getD_some, VE.v] at hLw
          have HLw := Lib.hid hLw
          have HMr := Lib.hid hMr
          clear hpm hxm hnn hqm hp hq hc hpt hqt HE hMr hLw
          go_wp2_with fail
          go_at_call 15
          refine (HMp.out _ (by first | exact Below.refl _ _ | exact (Below.refl _ _).drew)).mono ?_
          rintro e w11 ⟨rfl, b11⟩
          have b11' : Below wr.heap.size wr w11 := by first | exact b11 | exact (Below.refl _ _).drew.trans b11
          have B11 := Lib.hid (below_new b11' (Nat.le_refl _) (.cells #[.int .i64 QX.ty, .int .i64 QX.lv, .string QX.tx, .string QX.nm, .slice PA QX.val.length PC, .slice PB QX.ats.length PD, .int .i64 QX.fr, .int .i64 QX.tu] 26))
          have E11 := Lib.hid (BoxAt.new w11 #[.int .i64 QX.ty, .int .i64 QX.lv, .string QX.tx, .string QX.nm, .slice PA QX.val.length PC, .slice PB QX.ats.length PD, .int .i64 QX.fr, .int .i64 QX.tu] 26)
          have hl1 := HLw.out _ (HMr.out.later B11.out)
          have c11 := (b11'.cell (p := ⟨g1, i, none⟩) hgr1).trans k1
          have hgr3 : g1 < w11.heap.size := Nat.lt_of_lt_of_le hgr1 b11'.size
          clear b11 b11' k1 k2
          go_wp2_with fail
          go_at_call 9
          refine (HEE.out _ (by first | exact B11.out | exact B11.out.drew)).mono ?_
          rintro e w12 ⟨rfl, b12⟩
          have b12' : Below wr.heap.size wr w12 := by first | exact B11.out.trans (b12.mono B11.out.size) | exact B11.out.drew.trans (b12.mono B11.out.size)
          have B12 := Lib.hid b12'
          clear b12 b12'
          go_wp2_with fail
          refine ⟨⟨i + 1, by go_num, hlt, Lib.hid (HBl.out.trans (B12.out.mono HBl.out.size))⟩, by simp [intOf]; omega⟩
        · obtain rfl : i = M1.length := by omega
          have f3 : decide ((M1.length : Int) < (M1.length : Int)) = false := decide_eq_false (by omega)
          go_wp2
          go_ret
          exact ⟨rfl, B10.out.trans (HBl.out.mono B10.out.size)⟩
end Go.Proofs.YtamghpleajbonaaGreatDoor
