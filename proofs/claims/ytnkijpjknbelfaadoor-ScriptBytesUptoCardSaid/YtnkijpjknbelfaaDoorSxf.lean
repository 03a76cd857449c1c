/-
  Package script: the law's Bytes of an Ask (written by bin/gen_sxf.py).
-/
import Derived.Test.YtnkijpjknbelfaaDoorSxe
import Derived.Deep.RegionHeld3
namespace Go.Proofs.YtnkijpjknbelfaaDoor
open Go.RowKit
set_option linter.unusedVariables false
set_option linter.unusedSimpArgs false

theorem held_weaken {P : Program} {md : Region.Mode} {ops : Array Oper} {Q : Exit → Act → World → Prop} {S S2 : World → Prop} (hS : ∀ w, S2 w → S w) : ∀ (fuel : Nat) (l : Array Bool) (a : Act) (w : World), wpAnyH P md ops Q S2 fuel l a w → wpAnyH P md ops Q S fuel l a w
  | 0, _, _, _, h => h
  | fuel + 1, l, a, w, h => ⟨h.1, fun i hi => wpOp_mono (fun a' w' h' => ⟨hS _ h'.1, held_weaken hS fuel _ a' w' h'.2⟩) (h.2 i hi)⟩
def encY (l : List SA) : List UInt8 := l.flatMap encA
theorem encY_take (l : List SA) (i : Nat) (x : SA) (h : l[i]? = some x) : encY (l.take (i + 1)) = encY (l.take i) ++ encA x := by
  unfold encY
  rw [take_snoc l i x h, List.flatMap_append, List.flatMap_singleton]
theorem encY_le (l : List SA) (i : Nat) : (encY (l.take i)).length ≤ (encY l).length := by
  have : encY l = encY (l.take i) ++ encY (l.drop i) := by unfold encY; rw [← List.flatMap_append, List.take_append_drop]
  rw [this, List.length_append]
  omega
theorem sign_at {kd : Int} (h : kd = 0 ∨ kd = 1 ∨ kd = 2) : ∃ (k : Nat) (sg : ByteArray), kd = (k : Int) ∧ k < 3 ∧ sg.size = 1 ∧ (#[.string ⟨#[116]⟩, .string ⟨#[110]⟩, .string ⟨#[109]⟩] : Array Value)[k]? = some (.string sg) ∧ sg.data.toList = [signA kd] := by
  rcases h with rfl | rfl | rfl
  · exact ⟨0, ⟨#[116]⟩, rfl, by decide, rfl, rfl, rfl⟩
  · exact ⟨1, ⟨#[110]⟩, rfl, by decide, rfl, rfl, rfl⟩
  · exact ⟨2, ⟨#[109]⟩, rfl, by decide, rfl, rfl, rfl⟩
theorem encA_tS (s : SA) (sg : ByteArray) (h : sg.data.toList = [signA s.kind]) (P : ByteArray) : P ++ tS s.name ++ tS sg ++ tS s.text = P ++ mkS (encA s) := by
  refine bytes_eq ?_
  unfold encA textsA tS mkS
  rw [h]
  simp
set_option maxHeartbeats 40000000 in
set_option maxRecDepth 100000 in
theorem lbytes_2 (tag by_ nm at_ : ByteArray) (ov : Bool) (A1 A2 : Option Addr) (ar : List SA) (n1 c1 c2 : Nat) (w : World) (hE : Env w) (hin : AsIn w (Old w) ar A2) (ht : nm.size ≤ 300000) (ha : at_.size ≤ 300000) (hn : ar.length ≤ 300000) (hx : ∀ a ∈ ar, (a.kind = 0 ∨ a.kind = 1 ∨ a.kind = 2) ∧ a.name.size ≤ 300000 ∧ a.text.size ≤ 300000) (hl : (encY ar).length ≤ 100000000) :
    Calls Tryd.prog 13 #[.agg #[.int .i64 2, .string tag, .string by_, .bool ov, .slice A1 n1 c1, .string nm, .string at_, .slice A2 ar.length c2]] w fun e w' => e = .returned (.string ((((tS ⟨#[113]⟩ ++ tS nm) ++ tS at_) ++ tS (mkS (Lib.decDigits ar.length))) ++ mkS (encY ar))) ∧ Below w.heap.size w w' := by
  have t4' : (mkS (Lib.decDigits ar.length)).size ≤ 7 := digs_le (by omega)
  have q1 : (tS ⟨#[113]⟩).size ≤ 300009 := Nat.le_trans (tS_size (by decide)) (by decide)
  have q2 : (tS nm).size ≤ 300009 := Nat.le_trans (tS_size (by omega)) (by omega)
  have q3 : (tS at_).size ≤ 300009 := Nat.le_trans (tS_size (by omega)) (by omega)
  have q4 : (tS (mkS (Lib.decDigits ar.length))).size ≤ 300009 := Nat.le_trans (tS_size (by omega)) (by omega)
  have z1 : ¬ 9223372036854775807 < (tS ⟨#[113]⟩).size + (tS nm).size := by omega
  have z2 : ¬ 9223372036854775807 < (tS ⟨#[113]⟩).size + (tS nm).size + (tS at_).size := by omega
  have z3 : ¬ 9223372036854775807 < (tS ⟨#[113]⟩).size + (tS nm).size + (tS at_).size + (tS (mkS (Lib.decDigits ar.length))).size := by omega
  have t1 : (⟨#[113]⟩ : ByteArray).size ≤ 1000000 := by decide
  have t2 : nm.size ≤ 1000000 := by omega
  have t3 : at_.size ≤ 1000000 := by omega
  have t4 : (mkS (Lib.decDigits ar.length)).size ≤ 1000000 := by omega
  have HH := Lib.hid (show ((((tS ⟨#[113]⟩ ++ tS nm) ++ tS at_) ++ tS (mkS (Lib.decDigits ar.length)))).size ≤ 2000000 by rw [app_size, app_size, app_size]; omega)
  have HE := Lib.hid hE
  have HI := Lib.hid hin
  have HN := Lib.hid hn
  have HXs := Lib.hid hx
  have HL := Lib.hid hl
  have n0 : (ar.length : Int) ≤ 300000 := by omega
  clear hE q1 q2 q3 q4 ht ha t4' hin hn hx hl
  go_enter Tryd.func13, Tryd.ntmps13
  go_upto_region 1 with fail
  have X0 := BoxAt.new w #[.int .i64 2, .string tag, .string by_, .bool ov, .slice A1 n1 c1, .string nm, .string at_, .slice A2 ar.length c2] 29
  have K0 := Lib.hid ((Below.refl w.heap.size w).alloc (Nat.le_refl _) (.cells #[.int .i64 2, .string tag, .string by_, .bool ov, .slice A1 n1 c1, .string nm, .string at_, .slice A2 ar.length c2] 29))
  generalize w.alloc (.cells #[.int .i64 2, .string tag, .string by_, .bool ov, .slice A1 n1 c1, .string nm, .string at_, .slice A2 ar.length c2] 29) = W at *
  have HX := Lib.hid X0
  obtain ⟨a0, a1, a2, a3, a4, a5, a6, a7, _⟩ := cellsB8 X0
  have hk := X0.lt
  clear X0
  go_upto_region 14 with fail
  clear a0 a1 a2 a3 a4
  have HT := Lib.hid (fun (V : World) (q : Below W.heap.size W V) (x : ByteArray) (hx : x.size ≤ 1000000) => ltext_any x hx V (HE.out.below (K0.out.trans (q.mono K0.out.size))))
  have HIt := Lib.hid (fun (V : World) (q : Below W.heap.size W V) => itT ar.length (by have := HN.out; omega) V (HE.out.below (K0.out.trans (q.mono K0.out.size))))
  have HS := Lib.hid (show ∀ w', Below W.heap.size W w' → (w'.cell? ⟨w.heap.size, 5, none⟩ = some (.string nm) ∧ w'.cell? ⟨w.heap.size, 6, none⟩ = some (.string at_) ∧ w'.cell? ⟨w.heap.size, 7, none⟩ = some (.slice A2 ar.length c2) ∧ w.heap.size < w'.heap.size) from fun w' q => by
    have t := HX.out.later q
    exact ⟨t.cell 5, t.cell 6, t.cell 7, t.lt⟩)
  go_region_held3 (fun w' => w'.cell? ⟨w.heap.size, 5, none⟩ = some (.string nm) ∧ w'.cell? ⟨w.heap.size, 6, none⟩ = some (.string at_) ∧ w'.cell? ⟨w.heap.size, 7, none⟩ = some (.slice A2 ar.length c2) ∧ w.heap.size < w'.heap.size) (first | exact HS.out _ (by repeat' first | assumption | with_reducible exact Below.refl _ _ | with_reducible apply Below.drew)) (first
    | (go_at_call 20; with_reducible refine (HT.out _ (by repeat' first | assumption | with_reducible exact Below.refl _ _ | with_reducible apply Below.drew) _ (by assumption)).mono ?_; rintro e wN ⟨rfl, bN⟩; have qN : Below W.heap.size W wN := bstep (by repeat' first | assumption | with_reducible exact Below.refl _ _ | with_reducible apply Below.drew) bN; clear bN)
    | (go_at_call 21; with_reducible refine (HIt.out _ (by repeat' first | assumption | with_reducible exact Below.refl _ _ | with_reducible apply Below.drew)).mono ?_; rintro e wN ⟨rfl, bN⟩; have qN : Below W.heap.size W wN := bstep (by repeat' first | assumption | with_reducible exact Below.refl _ _ | with_reducible apply Below.drew) bN; clear bN))
  all_goals
    have HB7 := Lib.hid qN
    obtain ⟨_, _, _, _, _, _, _, b7, _⟩ := cellsB8 (HX.out.later qN)
    obtain ⟨H, hH⟩ : ∃ H, (((tS ⟨#[113]⟩ ++ tS nm) ++ tS at_) ++ tS (mkS (Lib.decDigits ar.length))) = H := ⟨_, rfl⟩
    rw [hH] at HH ⊢
    have HHq := Lib.hid hH
    clear hH
    clear z1 z2 z3 t1 t2 t3 t4 a5 a6 a7 hk
    go_wp2_with fail
    go_loopw [7, 72] (fun t7 t72 wr => ∃ (i : Nat) (P : ByteArray), t7 = .string P ∧ t72 = .int .i64 i ∧ i ≤ ar.length ∧ Hid (P = H ++ mkS (encY (ar.take i))) ∧ Hid (Below W.heap.size W wr)) (fun _ t72 _ => ar.length - (intOf t72).toNat)
    case atStart => exact ⟨0, H, rfl, rfl, Nat.zero_le _, Lib.hid (by rw [List.take_zero]; exact (mkS_nil H).symm), HB7⟩
    case round =>
      generalize wr = w1 at *
      obtain ⟨i, P, rfl, rfl, hi, HP, HB⟩ := hrel
      have i0 : (i : Int) ≤ 300000 := by omega
      by_cases hlt : i < ar.length
      · have d1 : decide ((i : Int) < (ar.length : Int)) = true := decide_eq_true (by omega)
        have d2 : (i : Int) < (ar.length : Int) := by omega
        obtain ⟨b, o, rfl, hb, hcs⟩ := HI.out (by omega)
        obtain ⟨s, hs⟩ : ∃ s, ar[i]? = some s := ⟨_, List.getElem?_eq_getElem hlt⟩
        have hBw : Below w.heap.size w w1 := K0.out.trans (HB.out.mono K0.out.size)
        obtain ⟨k0, k1, k2⟩ := hcs i s hs
        have k0 := (hBw.cell (p := ⟨b, o + i * 3, none⟩) hb).trans k0
        have k1 := (hBw.cell (p := ⟨b, o + i * 3 + 1, none⟩) hb).trans k1
        have k2 := (hBw.cell (p := ⟨b, o + i * 3 + 2, none⟩) hb).trans k2
        have hbr : b < w1.heap.size := Nat.lt_of_lt_of_le hb hBw.size
        obtain ⟨hkd, hs1, hs2⟩ := HXs.out s (List.mem_of_getElem? hs)
        obtain ⟨k, sg, hkk, hk3, hsg1, hsg, hsg2⟩ := sign_at hkd
        have hps := congrArg ByteArray.size HP.out
        rw [app_size, size_mkS] at hps
        have hle := encY_le ar i
        have hL := HL.out
        have hHH := HH.out
        have hts1 := tS_size (t := s.name) (by omega)
        have hts2 := tS_size (t := sg) (by omega)
        have hts3 := tS_size (t := s.text) (by omega)
        have y1 : ¬ 9223372036854775807 < P.size + (tS s.name).size := by omega
        have y2 : ¬ 9223372036854775807 < P.size + (tS s.name).size + (tS sg).size := by omega
        have y3 : ¬ 9223372036854775807 < P.size + (tS s.name).size + (tS sg).size + (tS s.text).size := by omega
        have y1' := y1
        have y2' : ¬ 9223372036854775807 < (P ++ tS s.name).size + (tS sg).size := by rw [app_size]; omega
        have y3' : ¬ 9223372036854775807 < (P ++ tS s.name ++ tS sg).size + (tS s.text).size := by rw [app_size, app_size]; omega
        have u1 : s.name.size ≤ 1000000 := by omega
        have u2 : sg.size ≤ 1000000 := by omega
        have u3 : s.text.size ≤ 1000000 := by omega
        have kk0 : (0 : Int) ≤ (k : Int) := by omega
        have kk1 : (k : Int) < 3 := by omega
        have HNx := Lib.hid (show P ++ tS s.name ++ tS sg ++ tS s.text = H ++ mkS (encY (ar.take (i + 1))) by rw [encA_tS s sg hsg2, encY_take ar i s hs, HP.out, mkS_app, asm])
        rw [hkk] at k1
        clear hcs hs hBw hs1 hs2 hps hle hL hHH hts1 hts2 hts3 hsg1 hsg2 hkd hkk
        go_upto_region 18 with fail
        have hvx := BoxAt.new w1 #[.string s.name, .int .i64 (k : Int), .string s.text] 44
        have hV0 : Below w1.heap.size w1 (w1.alloc (.cells #[.string s.name, .int .i64 (k : Int), .string s.text] 44)) := (Below.refl _ _).alloc (Nat.le_refl _) _
        have hvb : w1.heap.size < (w1.alloc (.cells #[.string s.name, .int .i64 (k : Int), .string s.text] 44)).heap.size := hvx.lt
        generalize w1.alloc (.cells #[.string s.name, .int .i64 (k : Int), .string s.text] 44) = V at *
        have HTv := Lib.hid (fun (w' : World) (q : Below V.heap.size V w') (x : ByteArray) (hx : x.size ≤ 1000000) => HT.out w' (bstep HB.out (bstep hV0 q)) x hx)
        have HBV := Lib.hid (bstep HB.out hV0)
        have x0 : V.cell? ⟨w1.heap.size, 0, none⟩ = some (.string s.name) := hvx.cell 0
        have x1 : V.cell? ⟨w1.heap.size, 1, none⟩ = some (.int .i64 (k : Int)) := hvx.cell 1
        have x2 : V.cell? ⟨w1.heap.size, 2, none⟩ = some (.string s.text) := hvx.cell 2
        generalize hvbn : w1.heap.size = vb at *
        clear hvx k0 k1 k2 hbr
        have hS0 : Below V.heap.size V V.drew := (Below.refl _ _).drew
        refine wp_region_held_drew (S := (fun w' : World => Below V.heap.size V w')) (by kernel_rfl) hS0 (fun hHeld => ?_)
        refine wpAnyH_take (i := 0) (v := .string P) rfl (by kernel_rfl) (by kernel_rfl) (by kernel_rfl) (fun _ _ _ h => h) (Or.inl ⟨by kernel_rfl, ?_⟩) hS0 ?_
        · intro w0 hSw; go_simp <;> first | (with_reducible rfl)
        try simp only [Act.put, List.setIfInBounds_toArray, List.set_cons_zero, List.set_cons_succ]
        refine wpAnyH_take (i := 1) (v := ?_) rfl (by kernel_rfl) (by kernel_rfl) (by kernel_rfl) (fun _ _ _ h => h) (Or.inl ⟨by kernel_rfl, ?_⟩) hS0 ?_
        rotate_left
        · intro w0 hSw; go_simp <;> first | (with_reducible rfl)
        try simp only [Act.put, List.setIfInBounds_toArray, List.set_cons_zero, List.set_cons_succ]
        refine wpAnyH_take (i := 2) (v := .string s.name) rfl (by kernel_rfl) (by kernel_rfl) (by kernel_rfl) (fun _ _ _ h => h) (Or.inl ⟨by kernel_rfl, ?_⟩) hS0 ?_
        · intro w0 hSw; have kq := (Below.cell hSw (p := ⟨vb, 0, none⟩) hvb).trans x0; go_simp <;> first | (with_reducible rfl)
        try simp only [Act.put, List.setIfInBounds_toArray, List.set_cons_zero, List.set_cons_succ]
        refine wpAnyH_take (i := 6) (v := ?_) rfl (by kernel_rfl) (by kernel_rfl) (by kernel_rfl) (fun _ _ _ h => h) (Or.inl ⟨by kernel_rfl, ?_⟩) hS0 ?_
        rotate_left
        · intro w0 hSw; go_simp <;> first | (with_reducible rfl)
        try simp only [Act.put, List.setIfInBounds_toArray, List.set_cons_zero, List.set_cons_succ]
        refine wpAnyH_take (i := 7) (v := .int .i64 (k : Int)) rfl (by kernel_rfl) (by kernel_rfl) (by kernel_rfl) (fun _ _ _ h => h) (Or.inl ⟨by kernel_rfl, ?_⟩) hS0 ?_
        · intro w0 hSw; have kq := (Below.cell hSw (p := ⟨vb, 1, none⟩) hvb).trans x1; go_simp <;> first | (with_reducible rfl)
        try simp only [Act.put, List.setIfInBounds_toArray, List.set_cons_zero, List.set_cons_succ]
        refine wpAnyH_take (i := 12) (v := ?_) rfl (by kernel_rfl) (by kernel_rfl) (by kernel_rfl) (fun _ _ _ h => h) (Or.inl ⟨by kernel_rfl, ?_⟩) hS0 ?_
        rotate_left
        · intro w0 hSw; go_simp <;> first | (with_reducible rfl)
        try simp only [Act.put, List.setIfInBounds_toArray, List.set_cons_zero, List.set_cons_succ]
        refine wpAnyH_take (i := 13) (v := .string s.text) rfl (by kernel_rfl) (by kernel_rfl) (by kernel_rfl) (fun _ _ _ h => h) (Or.inl ⟨by kernel_rfl, ?_⟩) hS0 ?_
        · intro w0 hSw; have kq := (Below.cell hSw (p := ⟨vb, 2, none⟩) hvb).trans x2; go_simp <;> first | (with_reducible rfl)
        try simp only [Act.put, List.setIfInBounds_toArray, List.set_cons_zero, List.set_cons_succ]
        refine wpAnyH_ready (rs := [3, 5]) (by kernel_rfl) (by simp) ?_
        refine AllReadyH.cons rfl (fun K hK => ?_) (AllReadyH.cons rfl (fun K hK => ?_) AllReadyH.nil)
        · go_simp
          go_at_call 20
          with_reducible refine (HTv.out _ hS0 _ (by assumption)).mono ?_
          rintro e w1 ⟨rfl, bN⟩
          have hB1 : Below V.heap.size V w1 := bstep hS0 bN
          clear bN
          refine hK.out _ _ hB1 (fun _ => ?_)
          clear hK K
          try simp only [Act.put, List.setIfInBounds_toArray, List.set_cons_zero, List.set_cons_succ]
          have hS1 : (fun w' : World => Below V.heap.size V w') w1 := hB1
          refine wpAnyH_take (i := 4) (v := .string (P ++ tS s.name)) rfl (by kernel_rfl) (by kernel_rfl) (by kernel_rfl) (fun _ _ _ h => h) (Or.inl ⟨by kernel_rfl, ?_⟩) hS1 ?_
          · intro w0 hSw; go_simp <;> first | (with_reducible rfl) | (rw [if_neg y1]) | (rw [if_neg y1'])
          try simp only [Act.put, List.setIfInBounds_toArray, List.set_cons_zero, List.set_cons_succ]
          refine wpAnyH_ready (rs := [5]) (by kernel_rfl) (by simp) ?_
          refine AllReadyH.cons rfl (fun K hK => ?_) AllReadyH.nil
          go_simp
          have hB2 : Below V.heap.size V (w1.alloc (.cells #[.string ⟨#[116]⟩, .string ⟨#[110]⟩, .string ⟨#[109]⟩] 9)) := hB1.alloc hB1.size _
          have hG2 : BoxAt (w1.alloc (.cells #[.string ⟨#[116]⟩, .string ⟨#[110]⟩, .string ⟨#[109]⟩] 9)) w1.heap.size #[.string ⟨#[116]⟩, .string ⟨#[110]⟩, .string ⟨#[109]⟩] 9 := BoxAt.new _ _ _
          refine hK.out _ _ hB2 (fun _ => ?_)
          clear hK K
          try simp only [Act.put, List.setIfInBounds_toArray, List.set_cons_zero, List.set_cons_succ]
          refine held_weaken (S2 := fun w' : World => Below V.heap.size V w' ∧ BoxAt w' w1.heap.size #[.string ⟨#[116]⟩, .string ⟨#[110]⟩, .string ⟨#[109]⟩] 9) (fun _ h => h.1) _ _ _ _ ?_
          have hS2 : (fun w' : World => Below V.heap.size V w' ∧ BoxAt w' w1.heap.size #[.string ⟨#[116]⟩, .string ⟨#[110]⟩, .string ⟨#[109]⟩] 9) (w1.alloc (.cells #[.string ⟨#[116]⟩, .string ⟨#[110]⟩, .string ⟨#[109]⟩] 9)) := ⟨hB2, hG2⟩
          refine wpAnyH_take (i := 8) (v := .pointer (some ⟨w1.heap.size, k, none⟩)) rfl (by kernel_rfl) (by kernel_rfl) (by kernel_rfl) (fun _ _ _ h => h) (Or.inl ⟨by kernel_rfl, ?_⟩) hS2 ?_
          · intro w0 hSw; go_simp <;> first | (with_reducible rfl) | (simp; done) | (simp; omega)
          try simp only [Act.put, List.setIfInBounds_toArray, List.set_cons_zero, List.set_cons_succ]
          refine wpAnyH_take (i := 9) (v := .string sg) rfl (by kernel_rfl) (by kernel_rfl) (by kernel_rfl) (fun _ _ _ h => h) (Or.inl ⟨by kernel_rfl, ?_⟩) hS2 ?_
          · intro w0 hSw; have kq : w0.cell? ⟨w1.heap.size, k, none⟩ = some (.string sg) := (hSw.2.cell k).trans hsg; go_simp <;> first | (with_reducible rfl)
          try simp only [Act.put, List.setIfInBounds_toArray, List.set_cons_zero, List.set_cons_succ]
          refine wpAnyH_ready (rs := [10]) (by kernel_rfl) (by simp) ?_
          refine AllReadyH.cons rfl (fun K hK => ?_) AllReadyH.nil
          go_simp
          go_at_call 20
          with_reducible refine (HTv.out _ hB2 _ (by assumption)).mono ?_
          rintro e w3 ⟨rfl, bN⟩
          have hB3 : Below V.heap.size V w3 := bstep hB2 bN
          have hG3 : BoxAt w3 w1.heap.size #[.string ⟨#[116]⟩, .string ⟨#[110]⟩, .string ⟨#[109]⟩] 9 := BoxAt.later hG2 bN
          clear bN
          refine hK.out _ _ ⟨hB3, hG3⟩ (fun _ => ?_)
          clear hK K
          try simp only [Act.put, List.setIfInBounds_toArray, List.set_cons_zero, List.set_cons_succ]
          have hS3 : (fun w' : World => Below V.heap.size V w' ∧ BoxAt w' w1.heap.size #[.string ⟨#[116]⟩, .string ⟨#[110]⟩, .string ⟨#[109]⟩] 9) w3 := ⟨hB3, hG3⟩
          refine wpAnyH_take (i := 11) (v := .string (P ++ tS s.name ++ tS sg)) rfl (by kernel_rfl) (by kernel_rfl) (by kernel_rfl) (fun _ _ _ h => h) (Or.inl ⟨by kernel_rfl, ?_⟩) hS3 ?_
          · intro w0 hSw; go_simp <;> first | (with_reducible rfl) | (rw [if_neg y2]) | (rw [if_neg y2'])
          try simp only [Act.put, List.setIfInBounds_toArray, List.set_cons_zero, List.set_cons_succ]
          refine wpAnyH_ready (rs := [14]) (by kernel_rfl) (by simp) ?_
          refine AllReadyH.cons rfl (fun K hK => ?_) AllReadyH.nil
          go_simp
          go_at_call 20
          with_reducible refine (HTv.out _ hB3 _ (by assumption)).mono ?_
          rintro e w4 ⟨rfl, bN⟩
          have hB4 : Below V.heap.size V w4 := bstep hB3 bN
          have hG4 : BoxAt w4 w1.heap.size #[.string ⟨#[116]⟩, .string ⟨#[110]⟩, .string ⟨#[109]⟩] 9 := BoxAt.later hG3 bN
          clear bN
          refine hK.out _ _ ⟨hB4, hG4⟩ (fun _ => ?_)
          clear hK K
          try simp only [Act.put, List.setIfInBounds_toArray, List.set_cons_zero, List.set_cons_succ]
          have hS4 : (fun w' : World => Below V.heap.size V w' ∧ BoxAt w' w1.heap.size #[.string ⟨#[116]⟩, .string ⟨#[110]⟩, .string ⟨#[109]⟩] 9) w4 := ⟨hB4, hG4⟩
          refine wpAnyH_take (i := 15) (v := .string (P ++ tS s.name ++ tS sg ++ tS s.text)) rfl (by kernel_rfl) (by kernel_rfl) (by kernel_rfl) (fun _ _ _ h => h) (Or.inl ⟨by kernel_rfl, ?_⟩) hS4 ?_
          · intro w0 hSw; go_simp <;> first | (with_reducible rfl) | (rw [if_neg y3]) | (rw [if_neg y3'])
          try simp only [Act.put, List.setIfInBounds_toArray, List.set_cons_zero, List.set_cons_succ]
          refine wpAnyH_take (i := 16) (v := ?_) rfl (by kernel_rfl) (by kernel_rfl) (by kernel_rfl) (fun _ _ _ h => h) (Or.inl ⟨by kernel_rfl, ?_⟩) hS4 ?_
          rotate_left
          · intro w0 hSw; go_simp <;> first | (with_reducible rfl)
          try simp only [Act.put, List.setIfInBounds_toArray, List.set_cons_zero, List.set_cons_succ]
          refine wpAnyH_done (by kernel_rfl) ?_ _
          have HB2 := Lib.hid (bstep HBV.out hB4)
          clear hS0
          go_wp2
          go_roundw
          case rel => exact ⟨i + 1, _, rfl, by go_num, hlt, HNx, HB2⟩
          case measure => simp [intOf]; omega
        · go_simp
          have hB5 : Below V.heap.size V (V.alloc (.cells #[.string ⟨#[116]⟩, .string ⟨#[110]⟩, .string ⟨#[109]⟩] 9)).drew := ((Below.refl _ _).alloc (Nat.le_refl _) _).drew
          have hG5 : BoxAt (V.alloc (.cells #[.string ⟨#[116]⟩, .string ⟨#[110]⟩, .string ⟨#[109]⟩] 9)).drew V.heap.size #[.string ⟨#[116]⟩, .string ⟨#[110]⟩, .string ⟨#[109]⟩] 9 := (show BoxAt (V.alloc (.cells #[.string ⟨#[116]⟩, .string ⟨#[110]⟩, .string ⟨#[109]⟩] 9)) V.heap.size #[.string ⟨#[116]⟩, .string ⟨#[110]⟩, .string ⟨#[109]⟩] 9 from BoxAt.new _ _ _)
          refine hK.out _ _ hB5 (fun _ => ?_)
          clear hK K
          try simp only [Act.put, List.setIfInBounds_toArray, List.set_cons_zero, List.set_cons_succ]
          refine held_weaken (S2 := fun w' : World => Below V.heap.size V w' ∧ BoxAt w' V.heap.size #[.string ⟨#[116]⟩, .string ⟨#[110]⟩, .string ⟨#[109]⟩] 9) (fun _ h => h.1) _ _ _ _ ?_
          have hS5 : (fun w' : World => Below V.heap.size V w' ∧ BoxAt w' V.heap.size #[.string ⟨#[116]⟩, .string ⟨#[110]⟩, .string ⟨#[109]⟩] 9) (V.alloc (.cells #[.string ⟨#[116]⟩, .string ⟨#[110]⟩, .string ⟨#[109]⟩] 9)).drew := ⟨hB5, hG5⟩
          refine wpAnyH_take (i := 8) (v := .pointer (some ⟨V.heap.size, k, none⟩)) rfl (by kernel_rfl) (by kernel_rfl) (by kernel_rfl) (fun _ _ _ h => h) (Or.inl ⟨by kernel_rfl, ?_⟩) hS5 ?_
          · intro w0 hSw; go_simp <;> first | (with_reducible rfl) | (simp; done) | (simp; omega)
          try simp only [Act.put, List.setIfInBounds_toArray, List.set_cons_zero, List.set_cons_succ]
          refine wpAnyH_take (i := 9) (v := .string sg) rfl (by kernel_rfl) (by kernel_rfl) (by kernel_rfl) (fun _ _ _ h => h) (Or.inl ⟨by kernel_rfl, ?_⟩) hS5 ?_
          · intro w0 hSw; have kq : w0.cell? ⟨V.heap.size, k, none⟩ = some (.string sg) := (hSw.2.cell k).trans hsg; go_simp <;> first | (with_reducible rfl)
          try simp only [Act.put, List.setIfInBounds_toArray, List.set_cons_zero, List.set_cons_succ]
          refine wpAnyH_ready (rs := [3]) (by kernel_rfl) (by simp) ?_
          refine AllReadyH.cons rfl (fun K hK => ?_) AllReadyH.nil
          go_simp
          go_at_call 20
          with_reducible refine (HTv.out _ hB5 _ (by assumption)).mono ?_
          rintro e w6 ⟨rfl, bN⟩
          have hB6 : Below V.heap.size V w6 := bstep hB5 bN
          have hG6 : BoxAt w6 V.heap.size #[.string ⟨#[116]⟩, .string ⟨#[110]⟩, .string ⟨#[109]⟩] 9 := BoxAt.later hG5 bN
          clear bN
          refine hK.out _ _ ⟨hB6, hG6⟩ (fun _ => ?_)
          clear hK K
          try simp only [Act.put, List.setIfInBounds_toArray, List.set_cons_zero, List.set_cons_succ]
          have hS6 : (fun w' : World => Below V.heap.size V w' ∧ BoxAt w' V.heap.size #[.string ⟨#[116]⟩, .string ⟨#[110]⟩, .string ⟨#[109]⟩] 9) w6 := ⟨hB6, hG6⟩
          refine wpAnyH_take (i := 4) (v := .string (P ++ tS s.name)) rfl (by kernel_rfl) (by kernel_rfl) (by kernel_rfl) (fun _ _ _ h => h) (Or.inl ⟨by kernel_rfl, ?_⟩) hS6 ?_
          · intro w0 hSw; go_simp <;> first | (with_reducible rfl) | (rw [if_neg y1]) | (rw [if_neg y1'])
          try simp only [Act.put, List.setIfInBounds_toArray, List.set_cons_zero, List.set_cons_succ]
          refine wpAnyH_ready (rs := [10]) (by kernel_rfl) (by simp) ?_
          refine AllReadyH.cons rfl (fun K hK => ?_) AllReadyH.nil
          go_simp
          go_at_call 20
          with_reducible refine (HTv.out _ hB6 _ (by assumption)).mono ?_
          rintro e w7 ⟨rfl, bN⟩
          have hB7 : Below V.heap.size V w7 := bstep hB6 bN
          have hG7 : BoxAt w7 V.heap.size #[.string ⟨#[116]⟩, .string ⟨#[110]⟩, .string ⟨#[109]⟩] 9 := BoxAt.later hG6 bN
          clear bN
          refine hK.out _ _ ⟨hB7, hG7⟩ (fun _ => ?_)
          clear hK K
          try simp only [Act.put, List.setIfInBounds_toArray, List.set_cons_zero, List.set_cons_succ]
          have hS7 : (fun w' : World => Below V.heap.size V w' ∧ BoxAt w' V.heap.size #[.string ⟨#[116]⟩, .string ⟨#[110]⟩, .string ⟨#[109]⟩] 9) w7 := ⟨hB7, hG7⟩
          refine wpAnyH_take (i := 11) (v := .string (P ++ tS s.name ++ tS sg)) rfl (by kernel_rfl) (by kernel_rfl) (by kernel_rfl) (fun _ _ _ h => h) (Or.inl ⟨by kernel_rfl, ?_⟩) hS7 ?_
          · intro w0 hSw; go_simp <;> first | (with_reducible rfl) | (rw [if_neg y2]) | (rw [if_neg y2'])
          try simp only [Act.put, List.setIfInBounds_toArray, List.set_cons_zero, List.set_cons_succ]
          refine wpAnyH_ready (rs := [14]) (by kernel_rfl) (by simp) ?_
          refine AllReadyH.cons rfl (fun K hK => ?_) AllReadyH.nil
          go_simp
          go_at_call 20
          with_reducible refine (HTv.out _ hB7 _ (by assumption)).mono ?_
          rintro e w8 ⟨rfl, bN⟩
          have hB8 : Below V.heap.size V w8 := bstep hB7 bN
          have hG8 : BoxAt w8 V.heap.size #[.string ⟨#[116]⟩, .string ⟨#[110]⟩, .string ⟨#[109]⟩] 9 := BoxAt.later hG7 bN
          clear bN
          refine hK.out _ _ ⟨hB8, hG8⟩ (fun _ => ?_)
          clear hK K
          try simp only [Act.put, List.setIfInBounds_toArray, List.set_cons_zero, List.set_cons_succ]
          have hS8 : (fun w' : World => Below V.heap.size V w' ∧ BoxAt w' V.heap.size #[.string ⟨#[116]⟩, .string ⟨#[110]⟩, .string ⟨#[109]⟩] 9) w8 := ⟨hB8, hG8⟩
          refine wpAnyH_take (i := 15) (v := .string (P ++ tS s.name ++ tS sg ++ tS s.text)) rfl (by kernel_rfl) (by kernel_rfl) (by kernel_rfl) (fun _ _ _ h => h) (Or.inl ⟨by kernel_rfl, ?_⟩) hS8 ?_
          · intro w0 hSw; go_simp <;> first | (with_reducible rfl) | (rw [if_neg y3]) | (rw [if_neg y3'])
          try simp only [Act.put, List.setIfInBounds_toArray, List.set_cons_zero, List.set_cons_succ]
          refine wpAnyH_take (i := 16) (v := ?_) rfl (by kernel_rfl) (by kernel_rfl) (by kernel_rfl) (fun _ _ _ h => h) (Or.inl ⟨by kernel_rfl, ?_⟩) hS8 ?_
          rotate_left
          · intro w0 hSw; go_simp <;> first | (with_reducible rfl)
          try simp only [Act.put, List.setIfInBounds_toArray, List.set_cons_zero, List.set_cons_succ]
          refine wpAnyH_done (by kernel_rfl) ?_ _
          have HB2 := Lib.hid (bstep HBV.out hB8)
          clear hS0
          go_wp2
          go_roundw
          case rel => exact ⟨i + 1, _, rfl, by go_num, hlt, HNx, HB2⟩
          case measure => simp [intOf]; omega
      · have d1 : decide ((i : Int) < (ar.length : Int)) = false := decide_eq_false (by omega)
        have d2 : ¬ (i : Int) < (ar.length : Int) := by omega
        have hp := HP.out
        rw [List.take_of_length_le (l := ar) (by omega)] at hp
        have HP2 := Lib.hid hp
        clear hp
        go_wp2
        go_ret
        exact ⟨by rw [HP2.out, ← HHq.out]; rfl, K0.out.trans (HB.out.mono K0.out.size)⟩
end Go.Proofs.YtnkijpjknbelfaaDoor
