/-
  Several texts put together (part 25): what the law and the program call, walked; their contracts.
-/
import Derived.Test.YtpgiboblonlddaaGreatDoorQ23
import Derived.Test.YtpgiboblonlddaaGreatDoorQ21
import Derived.Deep.DeepCutAuto
import Derived.StillTailTactics
import Derived.Deep.RegionHeld3
namespace Go.Proofs.YtpgiboblonlddaaGreatDoor
open Go.RowKit Go.ChangeMaps
set_option linter.unusedVariables false
set_option linter.unusedSimpArgs false
theorem err_run {R : RL} (F : R.Far) {op : List ByteArray} {s : RSt} {W : World} (h : WrAt R W op s) (hlen : s.er.length < 100000) (c : Int) (n : ByteArray) {A : Option Addr} {c1 : Nat} (hbx : BoxAt W R.wb (wrC R s.pl (.slice A s.er.length c1)) 96) (hrow : W.ownsRow R.w0.heap.size 59 2 (.slice A s.er.length c1) s.er.length (erC s.er)) :
    ∃ g c' W2, ((Builtin.append_ #[34, 34] 34 #[.slice A s.er.length c1, .slice (some ⟨W.heap.size, 0, none⟩) 1 1]).run Tryz.prog (W.alloc (.cells #[.int .i64 c, .string n] 59)) = .ok (.slice (some ⟨g, 0, none⟩) (s.er.length + 1) c') W2) ∧
      W2.cell? ⟨R.wb, 5, none⟩ = some (.slice A s.er.length c1) ∧ W2.frozen? ⟨R.wb, 5, none⟩ = false ∧
      WrAt R (W2.setCell ⟨R.wb, 5, none⟩ (.slice (some ⟨g, 0, none⟩) (s.er.length + 1) c')) op ⟨s.pl, s.er ++ [(c, n)], s.ask⟩ ∧ WK R W (W2.setCell ⟨R.wb, 5, none⟩ (.slice (some ⟨g, 0, none⟩) (s.er.length + 1) c')) := by
  obtain ⟨i0, hi, hz0, hz1, hz2⟩ := info_parts erInfo
  have HA := (Below.refl W.heap.size W).alloc (Nat.le_refl _) (.cells #[.int .i64 c, .string n] 59)
  have HRA := hrow.alloc (.cells #[.int .i64 c, .string n] 59)
  have hB := h.bf.size
  obtain ⟨v', W2, hap, hown', hgrow, _⟩ := run_append_own (P := Tryz.prog) (w := W.alloc (.cells #[.int .i64 c, .string n] 59)) R.w0.heap.size 34 34 59 i0 (.agg #[.int .i64 0, .string ⟨#[]⟩]) 2 24 Tryz.underlying34 hi hz0 hz1 hz2 rfl (by decide) _ _ _ HRA ⟨W.heap.size, 0, none⟩ 1 1 [.int .i64 c, .string n] rfl (er_news W c n) (er_one c n) (by unfold maxLen; omega) (by omega) (by simp; omega)
  obtain ⟨g2, cap2, rfl⟩ := Joins.ownsRow_form hown' (by omega)
  have hbx2 := box_grown hbx hrow (by decide) HA hgrow
  have hE := WrAt.err F (h.later HA) (hbx.later HA) HRA c n hgrow hown'
  exact ⟨g2, cap2, W2, hap, hbx2.cell 5, hbx2.z 5, hE.1, (h.wk HA).trans hE.2⟩
attribute [-go_sem] Builtin.append_
set_option maxHeartbeats 8000000 in
set_option maxRecDepth 100000 in
theorem wrong_any {R : RL} (F : R.Far) {op : List ByteArray} {s s' : RSt} (c k : Int) (n a : ByteArray) (b o : Nat) (W : World) (h : WrAt R W op s) (hb : badG c (nameK k n a) s = some s')
    (c0 : W.cell? ⟨b, o, none⟩ = some (.int .i64 k)) (c2 : W.cell? ⟨b, o + 2, none⟩ = some (.string n)) (c3 : W.cell? ⟨b, o + 3, none⟩ = some (.string a)) (hs : n.size + a.size ≤ 900000000) :
    Calls Tryz.prog 170 #[.pointer (some ⟨R.wb, 0, none⟩), .int .i64 c, .pointer (some ⟨b, o, none⟩)] W fun e w' => e = .returned (.tuple #[(strV ⟨#[]⟩).v, .bool false]) ∧ WrAt R w' op s' ∧ WK R W w' := by
  unfold badG at hb
  split at hb
  case isFalse => cases hb
  case isTrue hlen =>
    cases hb
    obtain ⟨ev, hbx, hrow⟩ := h.box
    obtain ⟨A, c1, rfl⟩ : ∃ A c, ev = .slice A s.er.length c := by
      rcases Joins.ownsRow_forms hrow with ⟨rfl, h0⟩ | ⟨g, cap, rfl⟩
      · exact ⟨none, 0, by rw [h0]⟩
      · exact ⟨_, _, rfl⟩
    have hbl : b < W.heap.size := cell_lt c0
    have HF := Lib.hid F
    have HL := Lib.hid hlen
    have HN := Lib.hid (fun V d0 d2 d3 => nameOf_any k n a b o V d0 d2 d3 hs)
    clear F hlen
    go_enter Tryz.func170, Tryz.ntmps170
    go_upto_region 1 with fail
    have HA := Lib.hid ((Below.refl W.heap.size W).alloc (Nat.le_refl _) (.cells zVal 69))
    have HO := Lib.hid (BoxAt.new' W W.heap.size zVal 69 rfl)
    have hK0 := Lib.hid (h.wk HA.out)
    have H := Lib.hid (h.later HA.out)
    have HX := Lib.hid (hbx.later HA.out)
    have HR := Lib.hid (hrow.alloc (.cells zVal 69))
    have d0 := (HA.out.cell (p := ⟨b, o, none⟩) hbl).trans c0
    have d2 := (HA.out.cell (p := ⟨b, o + 2, none⟩) hbl).trans c2
    have d3 := (HA.out.cell (p := ⟨b, o + 3, none⟩) hbl).trans c3
    have hwb : R.wb < W.heap.size := hbx.lt
    have hw0 : R.w0.heap.size ≤ W.heap.size := h.bf.size
    have hob : R.ob < W.heap.size := h.om.lt
    have hkm : R.km < W.heap.size := by obtain ⟨m0, h0⟩ := h.ms; exact h0.lt
    have hVs : (W.alloc (.cells zVal 69)).heap.size = W.heap.size + 1 := by simp
    clear h hbx hrow c0 c2 c3
    generalize W.alloc (.cells zVal 69) = V at *
    have c5 : V.cell? ⟨R.wb, 5, none⟩ = some (.slice A s.er.length c1) := HX.out.cell 5
    have z5 := HX.out.z 5
    refine wp_region_held_drew (S := (fun _ => True)) (by kernel_rfl) trivial (fun hHeld => ?_)
    refine wpAnyH_take (i := 0) (v := ?_) rfl (by kernel_rfl) (by kernel_rfl) (by kernel_rfl) (fun _ _ _ h => h) (Or.inl ⟨by kernel_rfl, ?_⟩) (by assumption) ?_
    rotate_left
    · intro w0 hSw; (try dsimp only at hSw); (go_simp <;> with_reducible rfl)
    try simp only [Act.put, List.setIfInBounds_toArray, List.set_cons_zero, List.set_cons_succ]
    refine wpAnyH_take (i := 1) (v := ?_) rfl (by kernel_rfl) (by kernel_rfl) (by kernel_rfl) (fun _ _ _ h => h) (Or.inl ⟨by kernel_rfl, ?_⟩) (by assumption) ?_
    rotate_left
    · intro w0 hSw; (try dsimp only at hSw); (go_simp <;> with_reducible rfl)
    try simp only [Act.put, List.setIfInBounds_toArray, List.set_cons_zero, List.set_cons_succ]
    refine wpAnyH_take (i := 2) (v := ?_) rfl (by kernel_rfl) (by kernel_rfl) (by kernel_rfl) (fun _ _ _ h => h) (Or.inl ⟨by kernel_rfl, ?_⟩) (by assumption) ?_
    rotate_left
    · intro w0 hSw; (try dsimp only at hSw); (go_simp <;> with_reducible rfl)
    try simp only [Act.put, List.setIfInBounds_toArray, List.set_cons_zero, List.set_cons_succ]
    refine wpAnyH_take (i := 3) (v := ?_) rfl (by kernel_rfl) (by kernel_rfl) (by kernel_rfl) (fun _ _ _ h => h) (Or.inl ⟨by kernel_rfl, ?_⟩) (by assumption) ?_
    rotate_left
    · intro w0 hSw; (try dsimp only at hSw); (go_simp <;> with_reducible rfl)
    try simp only [Act.put, List.setIfInBounds_toArray, List.set_cons_zero, List.set_cons_succ]
    refine wpAnyH_take (i := 5) (v := ?_) rfl (by kernel_rfl) (by kernel_rfl) (by kernel_rfl) (fun _ _ _ h => h) (Or.inl ⟨by kernel_rfl, ?_⟩) (by assumption) ?_
    rotate_left
    · intro w0 hSw; (try dsimp only at hSw); (go_simp <;> with_reducible rfl)
    try simp only [Act.put, List.setIfInBounds_toArray, List.set_cons_zero, List.set_cons_succ]
    refine wpAnyH_take (i := 6) (v := ?_) rfl (by kernel_rfl) (by kernel_rfl) (by kernel_rfl) (fun _ _ _ h => h) (Or.inl ⟨by kernel_rfl, ?_⟩) (by assumption) ?_
    rotate_left
    · intro w0 hSw; (try dsimp only at hSw); (go_simp <;> with_reducible rfl)
    try simp only [Act.put, List.setIfInBounds_toArray, List.set_cons_zero, List.set_cons_succ]
    refine wpAnyH_ready (rs := [4, 7]) (by kernel_rfl) (by simp) ?_
    refine AllReadyH.cons rfl (fun K hK => ?_) (AllReadyH.cons rfl (fun K hK => ?_) AllReadyH.nil)
    · go_simp
      refine hK.out _ _ trivial (fun _ => ?_)
      clear hK K
      try simp only [Act.put, List.setIfInBounds_toArray, List.set_cons_zero, List.set_cons_succ]
      refine wpAnyH_ready (rs := [7]) (by kernel_rfl) (by simp) ?_
      refine AllReadyH.cons rfl (fun K hK => ?_) AllReadyH.nil
      go_simp
      go_at_call 146
      refine (HN.out V.drew d0 d2 d3).mono ?_
      rintro e w1 ⟨rfl, hb1⟩
      have hbV := (Below.refl V.heap.size V).drew.trans hb1
      have K1 := Lib.hid (hK0.out.trans (H.out.wk hbV))
      have O1 := HO.out.later hbV
      obtain ⟨g2, cap2, W2, hap, e5, f5, hE, hKE⟩ := err_run HF.out (H.out.later hbV) HL.out c (nameK k n a) (HX.out.later hbV) (row_later HR.out (fun g hg hc => by obtain ⟨cs, fz, hc⟩ := hc; exact hbV.block g (Array.getElem?_eq_some_iff.1 hc).1))
      have c51 := (hbV.cell (p := ⟨R.wb, 5, none⟩) HX.out.lt).trans c5
      have c52 := (((Below.refl w1.heap.size w1).alloc (Nat.le_refl _) (.cells #[.int .i64 c, .string (nameK k n a)] 59)).cell (p := ⟨R.wb, 5, none⟩) (cell_lt c51)).trans c51
      have O3 := Lib.hid (hKE.own W.heap.size O1.lt (by omega) (by omega) (by omega) (fun cs fz e => by have e2 : w1.heap[W.heap.size]? = some _ := O1; rw [e2] at e; exact absurd (Obj.cells.inj (Option.some.inj e)).2.1 (by decide)))
      have O2 := Lib.hid (O3.out.trans O1)
      have HE := Lib.hid hE
      have HKE := Lib.hid hKE
      clear hE hKE hb1 hbV O1
      go_wp2_with fail
      refine hK.out _ _ trivial (fun _ => ?_)
      clear hK K
      try simp only [Act.put, List.setIfInBounds_toArray, List.set_cons_zero, List.set_cons_succ]
      refine wpAnyH_ready (rs := [8]) (by kernel_rfl) (by simp) ?_
      refine AllReadyH.cons rfl (fun K hK => ?_) AllReadyH.nil
      go_simp
      refine hK.out _ _ trivial (fun _ => ?_)
      clear hK K
      try simp only [Act.put, List.setIfInBounds_toArray, List.set_cons_zero, List.set_cons_succ]
      refine wpAnyH_ready (rs := [9]) (by kernel_rfl) (by simp) ?_
      refine AllReadyH.cons rfl (fun K hK => ?_) AllReadyH.nil
      go_simp
      refine hK.out _ _ trivial (fun _ => ?_)
      clear hK K
      try simp only [Act.put, List.setIfInBounds_toArray, List.set_cons_zero, List.set_cons_succ]
      refine wpAnyH_ready (rs := [10]) (by kernel_rfl) (by simp) ?_
      refine AllReadyH.cons rfl (fun K hK => ?_) AllReadyH.nil
      go_simp
      refine hK.out _ _ trivial (fun _ => ?_)
      clear hK K
      try simp only [Act.put, List.setIfInBounds_toArray, List.set_cons_zero, List.set_cons_succ]
      refine wpAnyH_ready (rs := [11]) (by kernel_rfl) (by simp) ?_
      refine AllReadyH.cons rfl (fun K hK => ?_) AllReadyH.nil
      go_simp
      refine hK.out _ _ trivial (fun _ => ?_)
      clear hK K
      try simp only [Act.put, List.setIfInBounds_toArray, List.set_cons_zero, List.set_cons_succ]
      refine wpAnyH_ready (rs := [12]) (by kernel_rfl) (by simp) ?_
      refine AllReadyH.cons rfl (fun K hK => ?_) AllReadyH.nil
      go_simp
      refine hK.out _ _ trivial (fun _ => ?_)
      clear hK K
      try simp only [Act.put, List.setIfInBounds_toArray, List.set_cons_zero, List.set_cons_succ]
      refine wpAnyH_ready (rs := [13]) (by kernel_rfl) (by simp) ?_
      refine AllReadyH.cons rfl (fun K hK => ?_) AllReadyH.nil
      go_simp
      refine hK.out _ _ trivial (fun _ => ?_)
      clear hK K
      try simp only [Act.put, List.setIfInBounds_toArray, List.set_cons_zero, List.set_cons_succ]
      refine wpAnyH_done (by kernel_rfl) ?_ _
      generalize W2.setCell ⟨R.wb, 5, none⟩ (.slice (some ⟨g2, 0, none⟩) (s.er.length + 1) cap2) = W3 at *
      have ol := BoxAt.lt O2.out
      have o0 := fun j => BoxAt.cell O2.out j
      have oz := fun j => BoxAt.z O2.out j
      go_wp2
      refine end12w rfl O2.out rfl (by rfl) (by rfl) rfl ⟨rfl, ?_, ?_⟩
      · exact WrAt.set12 HF.out HE.out O2.out (by omega) (by omega) (by omega) (by decide) _ _ _ _ _ _ _ _ _ _ _ _
      · exact WK.set12 (K1.out.trans HKE.out) (by omega) (Nat.le_refl _) _ _ _ _ _ _ _ _ _ _ _ _
    · go_simp
      go_at_call 146
      refine (HN.out V.drew d0 d2 d3).mono ?_
      rintro e w1 ⟨rfl, hb1⟩
      have hbV := (Below.refl V.heap.size V).drew.trans hb1
      have K1 := Lib.hid (hK0.out.trans (H.out.wk hbV))
      have O1 := HO.out.later hbV
      obtain ⟨g2, cap2, W2, hap, e5, f5, hE, hKE⟩ := err_run HF.out (H.out.later hbV) HL.out c (nameK k n a) (HX.out.later hbV) (row_later HR.out (fun g hg hc => by obtain ⟨cs, fz, hc⟩ := hc; exact hbV.block g (Array.getElem?_eq_some_iff.1 hc).1))
      have c51 := (hbV.cell (p := ⟨R.wb, 5, none⟩) HX.out.lt).trans c5
      have c52 := (((Below.refl w1.heap.size w1).alloc (Nat.le_refl _) (.cells #[.int .i64 c, .string (nameK k n a)] 59)).cell (p := ⟨R.wb, 5, none⟩) (cell_lt c51)).trans c51
      have O3 := Lib.hid (hKE.own W.heap.size O1.lt (by omega) (by omega) (by omega) (fun cs fz e => by have e2 : w1.heap[W.heap.size]? = some _ := O1; rw [e2] at e; exact absurd (Obj.cells.inj (Option.some.inj e)).2.1 (by decide)))
      have O2 := Lib.hid (O3.out.trans O1)
      have HE := Lib.hid hE
      have HKE := Lib.hid hKE
      clear hE hKE hb1 hbV O1
      go_wp2_with fail
      refine hK.out _ _ trivial (fun _ => ?_)
      clear hK K
      try simp only [Act.put, List.setIfInBounds_toArray, List.set_cons_zero, List.set_cons_succ]
      refine wpAnyH_ready (rs := [4, 8]) (by kernel_rfl) (by simp) ?_
      refine AllReadyH.cons rfl (fun K hK => ?_) (AllReadyH.cons rfl (fun K hK => ?_) AllReadyH.nil)
      · go_simp
        refine hK.out _ _ trivial (fun _ => ?_)
        clear hK K
        try simp only [Act.put, List.setIfInBounds_toArray, List.set_cons_zero, List.set_cons_succ]
        refine wpAnyH_ready (rs := [8]) (by kernel_rfl) (by simp) ?_
        refine AllReadyH.cons rfl (fun K hK => ?_) AllReadyH.nil
        go_simp
        refine hK.out _ _ trivial (fun _ => ?_)
        clear hK K
        try simp only [Act.put, List.setIfInBounds_toArray, List.set_cons_zero, List.set_cons_succ]
        refine wpAnyH_ready (rs := [9]) (by kernel_rfl) (by simp) ?_
        refine AllReadyH.cons rfl (fun K hK => ?_) AllReadyH.nil
        go_simp
        refine hK.out _ _ trivial (fun _ => ?_)
        clear hK K
        try simp only [Act.put, List.setIfInBounds_toArray, List.set_cons_zero, List.set_cons_succ]
        refine wpAnyH_ready (rs := [10]) (by kernel_rfl) (by simp) ?_
        refine AllReadyH.cons rfl (fun K hK => ?_) AllReadyH.nil
        go_simp
        refine hK.out _ _ trivial (fun _ => ?_)
        clear hK K
        try simp only [Act.put, List.setIfInBounds_toArray, List.set_cons_zero, List.set_cons_succ]
        refine wpAnyH_ready (rs := [11]) (by kernel_rfl) (by simp) ?_
        refine AllReadyH.cons rfl (fun K hK => ?_) AllReadyH.nil
        go_simp
        refine hK.out _ _ trivial (fun _ => ?_)
        clear hK K
        try simp only [Act.put, List.setIfInBounds_toArray, List.set_cons_zero, List.set_cons_succ]
        refine wpAnyH_ready (rs := [12]) (by kernel_rfl) (by simp) ?_
        refine AllReadyH.cons rfl (fun K hK => ?_) AllReadyH.nil
        go_simp
        refine hK.out _ _ trivial (fun _ => ?_)
        clear hK K
        try simp only [Act.put, List.setIfInBounds_toArray, List.set_cons_zero, List.set_cons_succ]
        refine wpAnyH_ready (rs := [13]) (by kernel_rfl) (by simp) ?_
        refine AllReadyH.cons rfl (fun K hK => ?_) AllReadyH.nil
        go_simp
        refine hK.out _ _ trivial (fun _ => ?_)
        clear hK K
        try simp only [Act.put, List.setIfInBounds_toArray, List.set_cons_zero, List.set_cons_succ]
        refine wpAnyH_done (by kernel_rfl) ?_ _
        generalize W2.setCell ⟨R.wb, 5, none⟩ (.slice (some ⟨g2, 0, none⟩) (s.er.length + 1) cap2) = W3 at *
        have ol := BoxAt.lt O2.out
        have o0 := fun j => BoxAt.cell O2.out j
        have oz := fun j => BoxAt.z O2.out j
        go_wp2
        refine end12w rfl O2.out rfl (by rfl) (by rfl) rfl ⟨rfl, ?_, ?_⟩
        · exact WrAt.set12 HF.out HE.out O2.out (by omega) (by omega) (by omega) (by decide) _ _ _ _ _ _ _ _ _ _ _ _
        · exact WK.set12 (K1.out.trans HKE.out) (by omega) (Nat.le_refl _) _ _ _ _ _ _ _ _ _ _ _ _
      · go_simp
        refine hK.out _ _ trivial (fun _ => ?_)
        clear hK K
        try simp only [Act.put, List.setIfInBounds_toArray, List.set_cons_zero, List.set_cons_succ]
        refine wpAnyH_ready (rs := [4, 9]) (by kernel_rfl) (by simp) ?_
        refine AllReadyH.cons rfl (fun K hK => ?_) (AllReadyH.cons rfl (fun K hK => ?_) AllReadyH.nil)
        · go_simp
          refine hK.out _ _ trivial (fun _ => ?_)
          clear hK K
          try simp only [Act.put, List.setIfInBounds_toArray, List.set_cons_zero, List.set_cons_succ]
          refine wpAnyH_ready (rs := [9]) (by kernel_rfl) (by simp) ?_
          refine AllReadyH.cons rfl (fun K hK => ?_) AllReadyH.nil
          go_simp
          refine hK.out _ _ trivial (fun _ => ?_)
          clear hK K
          try simp only [Act.put, List.setIfInBounds_toArray, List.set_cons_zero, List.set_cons_succ]
          refine wpAnyH_ready (rs := [10]) (by kernel_rfl) (by simp) ?_
          refine AllReadyH.cons rfl (fun K hK => ?_) AllReadyH.nil
          go_simp
          refine hK.out _ _ trivial (fun _ => ?_)
          clear hK K
          try simp only [Act.put, List.setIfInBounds_toArray, List.set_cons_zero, List.set_cons_succ]
          refine wpAnyH_ready (rs := [11]) (by kernel_rfl) (by simp) ?_
          refine AllReadyH.cons rfl (fun K hK => ?_) AllReadyH.nil
          go_simp
          refine hK.out _ _ trivial (fun _ => ?_)
          clear hK K
          try simp only [Act.put, List.setIfInBounds_toArray, List.set_cons_zero, List.set_cons_succ]
          refine wpAnyH_ready (rs := [12]) (by kernel_rfl) (by simp) ?_
          refine AllReadyH.cons rfl (fun K hK => ?_) AllReadyH.nil
          go_simp
          refine hK.out _ _ trivial (fun _ => ?_)
          clear hK K
          try simp only [Act.put, List.setIfInBounds_toArray, List.set_cons_zero, List.set_cons_succ]
          refine wpAnyH_ready (rs := [13]) (by kernel_rfl) (by simp) ?_
          refine AllReadyH.cons rfl (fun K hK => ?_) AllReadyH.nil
          go_simp
          refine hK.out _ _ trivial (fun _ => ?_)
          clear hK K
          try simp only [Act.put, List.setIfInBounds_toArray, List.set_cons_zero, List.set_cons_succ]
          refine wpAnyH_done (by kernel_rfl) ?_ _
          generalize W2.setCell ⟨R.wb, 5, none⟩ (.slice (some ⟨g2, 0, none⟩) (s.er.length + 1) cap2) = W3 at *
          have ol := BoxAt.lt O2.out
          have o0 := fun j => BoxAt.cell O2.out j
          have oz := fun j => BoxAt.z O2.out j
          go_wp2
          refine end12w rfl O2.out rfl (by rfl) (by rfl) rfl ⟨rfl, ?_, ?_⟩
          · exact WrAt.set12 HF.out HE.out O2.out (by omega) (by omega) (by omega) (by decide) _ _ _ _ _ _ _ _ _ _ _ _
          · exact WK.set12 (K1.out.trans HKE.out) (by omega) (Nat.le_refl _) _ _ _ _ _ _ _ _ _ _ _ _
        · go_simp
          refine hK.out _ _ trivial (fun _ => ?_)
          clear hK K
          try simp only [Act.put, List.setIfInBounds_toArray, List.set_cons_zero, List.set_cons_succ]
          refine wpAnyH_ready (rs := [4]) (by kernel_rfl) (by simp) ?_
          refine AllReadyH.cons rfl (fun K hK => ?_) AllReadyH.nil
          go_simp
          refine hK.out _ _ trivial (fun _ => ?_)
          clear hK K
          try simp only [Act.put, List.setIfInBounds_toArray, List.set_cons_zero, List.set_cons_succ]
          refine wpAnyH_ready (rs := [10]) (by kernel_rfl) (by simp) ?_
          refine AllReadyH.cons rfl (fun K hK => ?_) AllReadyH.nil
          go_simp
          refine hK.out _ _ trivial (fun _ => ?_)
          clear hK K
          try simp only [Act.put, List.setIfInBounds_toArray, List.set_cons_zero, List.set_cons_succ]
          refine wpAnyH_ready (rs := [11]) (by kernel_rfl) (by simp) ?_
          refine AllReadyH.cons rfl (fun K hK => ?_) AllReadyH.nil
          go_simp
          refine hK.out _ _ trivial (fun _ => ?_)
          clear hK K
          try simp only [Act.put, List.setIfInBounds_toArray, List.set_cons_zero, List.set_cons_succ]
          refine wpAnyH_ready (rs := [12]) (by kernel_rfl) (by simp) ?_
          refine AllReadyH.cons rfl (fun K hK => ?_) AllReadyH.nil
          go_simp
          refine hK.out _ _ trivial (fun _ => ?_)
          clear hK K
          try simp only [Act.put, List.setIfInBounds_toArray, List.set_cons_zero, List.set_cons_succ]
          refine wpAnyH_ready (rs := [13]) (by kernel_rfl) (by simp) ?_
          refine AllReadyH.cons rfl (fun K hK => ?_) AllReadyH.nil
          go_simp
          refine hK.out _ _ trivial (fun _ => ?_)
          clear hK K
          try simp only [Act.put, List.setIfInBounds_toArray, List.set_cons_zero, List.set_cons_succ]
          refine wpAnyH_done (by kernel_rfl) ?_ _
          generalize W2.setCell ⟨R.wb, 5, none⟩ (.slice (some ⟨g2, 0, none⟩) (s.er.length + 1) cap2) = W3 at *
          have ol := BoxAt.lt O2.out
          have o0 := fun j => BoxAt.cell O2.out j
          have oz := fun j => BoxAt.z O2.out j
          go_wp2
          refine end12w rfl O2.out rfl (by rfl) (by rfl) rfl ⟨rfl, ?_, ?_⟩
          · exact WrAt.set12 HF.out HE.out O2.out (by omega) (by omega) (by omega) (by decide) _ _ _ _ _ _ _ _ _ _ _ _
          · exact WK.set12 (K1.out.trans HKE.out) (by omega) (Nat.le_refl _) _ _ _ _ _ _ _ _ _ _ _ _
end Go.Proofs.YtpgiboblonlddaaGreatDoor
