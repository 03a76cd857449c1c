/-
  Several texts put together (part 42): what the law and the program call, walked; their contracts.
-/
import Derived.Test.YtamghpleajbonaaGreatDoorQ41
import Derived.Shelf.SlicesE.Clone
namespace Go.Proofs.YtamghpleajbonaaGreatDoor
open Go.RowKit Go.ChangeMaps
set_option linter.unusedVariables false
set_option linter.unusedSimpArgs false
def laysCl_ren : Go.Shelf.Ren := ⟨fun | 41 => 21 | n => n, fun | 22 => 23 | 23 => 60 | 4 => 4 | n => n, fun | n => n⟩
theorem laysCl : Go.Proofs.SlLaysE0.n41 Tryz.prog laysCl_ren := {
  mixed := by kernel_rfl
  f41 := ⟨Tryz.f21.name, by decide, Tryz.func21.trans (congrArg some (by kernel_rfl))⟩
  t4 := Tryz.underlying4
  a4 := Tryz.isAgg4
  z4 := Tryz.sizeOf4
  v4 := Tryz.zeroValue4
  t22 := Tryz.underlying23
  a22 := Tryz.isAgg23
  z22 := Tryz.sizeOf23
  v22 := Tryz.zeroValue23 }
theorem elInfo : (Tryz.prog.info? 60).map (fun i => (i.zero, i.size, i.bytes)) = some (some (.agg #[.string ⟨#[]⟩, .pointer none]), 2, 24) := by kernel_rfl
theorem es_cells {W : World} : ∀ (l : List EL) (b o : Nat), EsAt W l b o → ∃ news : List Value, news.length = l.length * 2 ∧ (∀ j u, news[j]? = some u → W.cell? ⟨b, o + j, none⟩ = some u) ∧ (∀ u ∈ news, u.oneCell' = true) ∧
    ∀ (W' : World) (g q : Nat), Below W.heap.size W W' → g < W'.heap.size → (∀ j u, news[j]? = some u → W'.cell? ⟨g, q + j, none⟩ = some u) → EsAt W' l g q
  | [], b, o, h => ⟨[], rfl, fun j u hj => by simp at hj, fun u hu => by simp at hu, fun W' g q _ _ _ => by rw [EsAt]; trivial⟩
  | .mk t p :: r, b, o, h => by
    rw [EsAt] at h
    obtain ⟨hb, h1, ⟨u, h2, h3⟩, h4⟩ := h
    obtain ⟨news, n1, n2, n3, n4⟩ := es_cells r b (o + 2) h4
    refine ⟨.string t :: u :: news, by simp [n1, Nat.add_mul], fun j x hj => ?_, fun x hx => ?_, fun W' g q hB hg hc => ?_⟩
    · match j, hj with
      | 0, hj => simp at hj; subst hj; exact h1
      | 1, hj => simp at hj; subst hj; exact h2
      | j + 2, hj =>
        have := n2 j x (by simpa using hj)
        rw [show o + (j + 2) = o + 2 + j by omega]
        exact this
    · rcases List.mem_cons.1 hx with rfl | hx
      · rfl
      rcases List.mem_cons.1 hx with rfl | hx
      · cases p with
        | none => simp only [OAt] at h3; subst h3; rfl
        | some e => simp only [OAt] at h3; obtain ⟨_, _, _, rfl, _⟩ := h3; rfl
      · exact n3 x hx
    · rw [EsAt]
      exact ⟨hg, hc 0 _ rfl, ⟨u, hc 1 _ rfl, OAt.later hB p u h3⟩, n4 W' g (q + 2) hB hg (fun j x hj => by
        have := hc (j + 2) x (by simpa using hj)
        rw [show q + (j + 2) = q + 2 + j by omega] at this
        exact this)⟩
theorem clone_pat (l : List EL) (b o c : Nat) (W : World) (hp : PatAt W l (.slice (some ⟨b, o, none⟩) l.length c)) (h0 : 0 < l.length) (hl : l.length ≤ 4000000) :
    Calls Tryz.prog 21 #[.slice (some ⟨b, o, none⟩) l.length c] W fun e w' => ∃ A c', e = .returned (.slice A l.length c') ∧ PatAt w' l (.slice A l.length c') ∧ Below W.heap.size W w' := by
  obtain ⟨A', c', e, _, _, h2⟩ := hp
  simp only [Value.slice.injEq] at e
  obtain ⟨rfl, _, rfl⟩ := e
  obtain ⟨b', o', e2, hE⟩ := h2 h0
  cases e2
  obtain ⟨news, n1, n2, n3, n4⟩ := es_cells l b o hE
  obtain ⟨i0, hi, hz0, hz1, hz2⟩ := info_parts elInfo
  refine (AnyE.slices_Clone laysCl i0 (.agg #[.string ⟨#[]⟩, .pointer none]) 2 24 hi hz0 hz1 hz2 rfl (by decide) (Tryz.sizeOf60) b o l.length c news W n1 (by unfold maxLen; omega) (by omega) n2 n3).mono ?_
  rintro e w' ⟨v', rfl, hown, hnn, hB⟩
  rcases hown.2 with ⟨rfl, hq⟩ | ⟨g, cap, cur, rfl, hgb, hg, hc1, hc2, hcs, htk⟩
  · exact absurd rfl hnn
  · refine ⟨_, _, rfl, ⟨_, _, rfl, hc1, hc2, fun _ => ⟨g, 0, rfl, n4 w' g 0 hB (Array.getElem?_eq_some_iff.1 hg).1 (fun j u hj => ?_)⟩⟩, hB⟩
    have := hown.cells (g := g) rfl j u hj
    rw [Addr.add_mid] at this
    exact this
end Go.Proofs.YtamghpleajbonaaGreatDoor

namespace Go.Proofs.YtamghpleajbonaaGreatDoor
open Go.RowKit Go.ChangeMaps
set_option linter.unusedVariables false
set_option linter.unusedSimpArgs false
theorem clone_nil (n c : Nat) (W : World) : Calls Tryz.prog 21 #[.slice none n c] W fun e w' => e = .returned (.slice none 0 0) ∧ w' = W := AnyE.slices_Clone_nil laysCl n c W
theorem slice_nil (a : Addr) (c : Nat) (w : World) : (binOp .eql 23 (.slice (some a) 0 c) (.slice none 0 0)).run Tryz.prog w = .ok (.bool false) w := by kernel_rfl
set_option maxHeartbeats 2000000 in
set_option maxRecDepth 100000 in
theorem clone_zero (a : Addr) (c : Nat) (W : World) : Calls Tryz.prog 21 #[.slice (some a) 0 c] W fun e w' => ∃ A c', e = .returned (.slice A 0 c') ∧ c' ≤ maxLen ∧ Below W.heap.size W w' := by
  obtain ⟨i0, hi, hz0, hz1, hz2⟩ := info_parts elInfo
  have hown : (W.alloc (.cells #[] 60)).ownsRow W.heap.size 60 2 (.slice (some ⟨W.heap.size, 0, none⟩) 0 0) 0 [] := by
    refine ⟨rfl, Or.inr ⟨W.heap.size, 0, #[], rfl, Nat.le_refl _, heap_alloc_new W _, Nat.le_refl _, by decide, rfl, ?_⟩⟩
    simp
  have Hown := Lib.hid hown
  have hq := fun w => slice_nil a c w
  clear hown
  go_enter Tryz.func21, Tryz.ntmps21
  go_wp2_with (at_builtin; refine wpList_append_own _ rfl _ _ 23 rfl W.heap.size 60 i0 (.agg #[.string ⟨#[]⟩, .pointer none]) 2 24 Tryz.underlying23 hi hz0 hz1 hz2 rfl (by decide) _ _ _ rfl Hown.out a 0 c [] rfl rfl (by simp) (by simp) (by unfold maxLen; omega) (by omega) (by simp) ?_; intro v' w1 hown' hgrow _)
  have hb := Hown.out
  have hB := ((Below.refl W.heap.size W).alloc (Nat.le_refl _) (.cells #[] 60)).grown hgrow (by simp) (fun k hk => (Hown.out.lt k hk).1)
  have Ho := Lib.hid hown'
  have HB := Lib.hid hB
  clear hown' hB hgrow hb
  go_wp2
  go_ret
  rcases Ho.out.2 with ⟨rfl, _⟩ | ⟨g, cap, cur, rfl, _, _, _, hcap, _⟩
  · exact ⟨none, 0, rfl, Nat.zero_le _, HB.out⟩
  · exact ⟨_, _, rfl, hcap, HB.out⟩
def CP (w : World) (B : Nat) (l : List EL) (W : World) (A : Option Addr) (c : Nat) : Prop :=
  l.length ≤ c ∧ c ≤ maxLen ∧ (0 < l.length → ∃ g news, A = some ⟨g, 0, none⟩ ∧ B ≤ g ∧ g < W.heap.size ∧ (∀ j u, (news : List Value)[j]? = some u → W.cell? ⟨g, j, none⟩ = some u) ∧
    ∀ (W2 : World), Below w.heap.size w W2 → g < W2.heap.size → (∀ j u, news[j]? = some u → W2.cell? ⟨g, j, none⟩ = some u) → EsAt W2 l g 0)
theorem CP.pat {w W : World} {B : Nat} {l : List EL} {A : Option Addr} {c : Nat} (h : CP w B l W A c) (hb : Below w.heap.size w W) : PatAt W l (.slice A l.length c) := by
  obtain ⟨h1, h2, h3⟩ := h
  refine ⟨A, c, rfl, h1, h2, fun h0 => ?_⟩
  obtain ⟨g, news, rfl, _, hg, hc, hr⟩ := h3 h0
  exact ⟨g, 0, rfl, hr W hb hg hc⟩
theorem CP.set {w W : World} {B : Nat} {l : List EL} {A : Option Addr} {c : Nat} (h : CP w B l W A c) (p : Addr) (hp : p.block < B) (v : Value) : CP w B l (W.setCell p v) A c := by
  obtain ⟨h1, h2, h3⟩ := h
  refine ⟨h1, h2, fun h0 => ?_⟩
  obtain ⟨g, news, rfl, hB, hg, hc, hr⟩ := h3 h0
  exact ⟨g, news, rfl, hB, by simpa [World.setCell] using hg, fun j u hj => (World.cell?_of_block (Below.heap_setCell W p v g (by omega))).trans (hc j u hj), hr⟩
theorem clone_any {w : World} (l : List EL) (A : Option Addr) (c : Nat) (hp : PatAt w l (.slice A l.length c)) (hl : l.length ≤ 4000000) (W : World) (hW : Below w.heap.size w W) :
    Calls Tryz.prog 21 #[.slice A l.length c] W fun e w' => ∃ A' c', e = .returned (.slice A' l.length c') ∧ CP w W.heap.size l w' A' c' ∧ Below W.heap.size W w' := by
  by_cases h0 : 0 < l.length
  · obtain ⟨A', c', e, _, _, h2⟩ := hp
    simp only [Value.slice.injEq] at e
    obtain ⟨rfl, _, rfl⟩ := e
    obtain ⟨b, o, rfl, hE⟩ := h2 h0
    obtain ⟨news, n1, n2, n3, n4⟩ := es_cells l b o hE
    obtain ⟨i0, hi, hz0, hz1, hz2⟩ := info_parts elInfo
    have hbw : b < w.heap.size := by
      cases l with
      | nil => exact absurd h0 (by simp)
      | cons x r =>
        obtain ⟨t, p⟩ := x
        rw [EsAt] at hE
        exact hE.1
    refine (AnyE.slices_Clone laysCl i0 (.agg #[.string ⟨#[]⟩, .pointer none]) 2 24 hi hz0 hz1 hz2 rfl (by decide) (Tryz.sizeOf60) b o l.length c news W n1 (by unfold maxLen; omega) (by omega) (fun j u hj => (hW.cell (p := ⟨b, o + j, none⟩) hbw).trans (n2 j u hj)) n3).mono ?_
    rintro e w' ⟨v', rfl, hown, hnn, hB⟩
    rcases hown.2 with ⟨rfl, hq⟩ | ⟨g, cap, cur, rfl, hgb, hg, hc1, hc2, hcs, htk⟩
    · exact absurd rfl hnn
    · refine ⟨_, _, rfl, ⟨hc1, hc2, fun _ => ⟨g, news, rfl, hgb, (Array.getElem?_eq_some_iff.1 hg).1, fun j u hj => ?_, fun W2 hb2 hg2 hc2 => n4 W2 g 0 hb2 hg2 (fun j u hj => by rw [Nat.zero_add]; exact hc2 j u hj)⟩⟩, hB⟩
      have := hown.cells (g := g) rfl j u hj
      rw [Addr.add_mid, Nat.zero_add] at this
      exact this
  · have hn : l.length = 0 := by omega
    rw [hn]
    cases A with
    | none =>
      refine (clone_nil 0 c W).mono ?_
      rintro e w' ⟨rfl, rfl⟩
      exact ⟨none, 0, rfl, ⟨by omega, Nat.zero_le _, fun h => absurd h h0⟩, Below.refl _ _⟩
    | some a =>
      refine (clone_zero a c W).mono ?_
      rintro e w' ⟨A', c', rfl, hc, hB⟩
      exact ⟨A', c', rfl, ⟨by omega, hc, fun h => absurd h h0⟩, hB⟩
end Go.Proofs.YtamghpleajbonaaGreatDoor

namespace Go.Proofs.YtamghpleajbonaaGreatDoor
open Go.RowKit Go.ChangeMaps
set_option linter.unusedVariables false
set_option linter.unusedSimpArgs false
set_option maxHeartbeats 8000000 in
set_option maxRecDepth 100000 in
theorem attr_empty {w : World} (ty lv fr tu : Int) (tx nm0 nm : ByteArray) (val : List EL) (A1 A2 : Option Addr) (c1 n2 c2 : Nat) (hp : PatAt w val (.slice A1 val.length c1)) (hl : val.length ≤ 4000000) (W : World) (hW : Below w.heap.size w W) (z2 : (nm.toList == []) = true) (z3 : nm.toList.isEmpty = true) :
    Calls Tryz.prog 8 #[entV ty lv tx nm0 (.slice A1 val.length c1) (.slice A2 n2 c2) fr tu, .string nm] W fun e w' => ∃ A n c, e = .returned (.tuple #[.slice A n c, .bool (decide (0 < val.length))]) ∧ PatAt w' val (.slice A n c) ∧ Below W.heap.size W w' := by
  have hC := fun V (h : Below w.heap.size w V) => clone_any val A1 c1 hp hl V h
  have HC := Lib.hid hC
  have hlI : (val.length : Int) ≤ 4000000 := by omega
  have d1 : decide ((0 : Int) < (val.length : Int)) = decide (0 < val.length) := by apply decide_eq_decide.2; omega
  have HW := Lib.hid hW
  have hWs := hW.size
  clear hC hp hW
  unfold entV
  go_enter Tryz.func8, Tryz.ntmps8
  go_upto_region 2 with fail
  have hV0 := Lib.hid ((((Below.refl W.heap.size W).alloc (Nat.le_refl _) (.cells #[.int .i64 ty, .int .i64 lv, .string tx, .string nm0, .slice A1 val.length c1, .slice A2 n2 c2, .int .i64 fr, .int .i64 tu] 26)).alloc (by simp) (.cells #[.string nm] 9)).alloc (by simp; omega) (.cells #[.slice none 0 0] 23) |>.alloc (by simp; omega) (.cells #[.bool false] 4))
  have E0 := Lib.hid ((((BoxAt.new W #[.int .i64 ty, .int .i64 lv, .string tx, .string nm0, .slice A1 val.length c1, .slice A2 n2 c2, .int .i64 fr, .int .i64 tu] 26).alloc (.cells #[.string nm] 9)).alloc (.cells #[.slice none 0 0] 23)).alloc (.cells #[.bool false] 4))
  have R0 := Lib.hid ((BoxAt.new' ((W.alloc (.cells #[.int .i64 ty, .int .i64 lv, .string tx, .string nm0, .slice A1 val.length c1, .slice A2 n2 c2, .int .i64 fr, .int .i64 tu] 26)).alloc (.cells #[.string nm] 9)) (W.heap.size + 1 + 1) #[.slice none 0 0] 23 (by simp)).alloc (.cells #[.bool false] 4))
  have K0 := Lib.hid (BoxAt.new' (((W.alloc (.cells #[.int .i64 ty, .int .i64 lv, .string tx, .string nm0, .slice A1 val.length c1, .slice A2 n2 c2, .int .i64 fr, .int .i64 tu] 26)).alloc (.cells #[.string nm] 9)).alloc (.cells #[.slice none 0 0] 23)) (W.heap.size + 1 + 1 + 1) #[.bool false] 4 (by simp))
  generalize ((((W.alloc (.cells #[.int .i64 ty, .int .i64 lv, .string tx, .string nm0, .slice A1 val.length c1, .slice A2 n2 c2, .int .i64 fr, .int .i64 tu] 26)).alloc (.cells #[.string nm] 9)).alloc (.cells #[.slice none 0 0] 23)).alloc (.cells #[.bool false] 4)) = V at *
  have e4 : V.cell? ⟨W.heap.size, 4, none⟩ = some (.slice A1 val.length c1) := E0.out.cell 4
  have r4 : V.cell? ⟨W.heap.size + 1 + 1, 0, none⟩ = some (.slice none 0 0) := R0.out.cell 0
  have k4 : V.cell? ⟨W.heap.size + 1 + 1 + 1, 0, none⟩ = some (.bool false) := K0.out.cell 0
  have zk := K0.out.lt
  go_region_with (go_at_call 21; refine (HC.out _ (HW.out.trans ((hV0.out.drew).mono hWs))).mono ?_; rintro e x1 ⟨A3, c3, rfl, hcp, hb1⟩; have q0 := (E0.out.later (show Below V.heap.size V x1 from (Below.refl V.heap.size V).drew.trans hb1)).cell 4; have q1 := (R0.out.later (show Below V.heap.size V x1 from (Below.refl V.heap.size V).drew.trans hb1)); have q2 := (K0.out.later (show Below V.heap.size V x1 from (Below.refl V.heap.size V).drew.trans hb1)); have s0 : x1.cell? ⟨W.heap.size, 4, none⟩ = some (.slice A1 val.length c1) := q0; have s1 : x1.cell? ⟨W.heap.size + 1 + 1, 0, none⟩ = some (.slice none 0 0) := q1.cell 0; have s2 : x1.cell? ⟨W.heap.size + 1 + 1 + 1, 0, none⟩ = some (.bool false) := q2.cell 0; have s3 := Lib.frozen_of_heap q1 0; have s4 := Lib.frozen_of_heap q2 0; have hx1 := hb1.size; have hx0 : Below V.heap.size V x1 := (Below.refl V.heap.size V).drew.trans hb1)
  all_goals
    go_wp2
    have P1 : ((x1.setCell ⟨W.heap.size + 1 + 1, 0, none⟩ (.slice A3 val.length c3)).setCell ⟨W.heap.size + 1 + 1 + 1, 0, none⟩ (.bool (decide (0 < val.length)))).cell? ⟨W.heap.size + 1 + 1, 0, none⟩ = some (.slice A3 val.length c3) :=
      (World.cell?_of_block (Below.heap_setCell _ _ _ _ (by show W.heap.size + 1 + 1 ≠ W.heap.size + 1 + 1 + 1; omega))).trans (World.cell?_setCell_same' x1 _ _ (by rw [s1]; rfl))
    have P2 : ((x1.setCell ⟨W.heap.size + 1 + 1, 0, none⟩ (.slice A3 val.length c3)).setCell ⟨W.heap.size + 1 + 1 + 1, 0, none⟩ (.bool (decide (0 < val.length)))).cell? ⟨W.heap.size + 1 + 1 + 1, 0, none⟩ = some (.bool (decide (0 < val.length))) :=
      World.cell?_setCell_same' _ _ _ (by rw [World.cell?_of_block (Below.heap_setCell x1 ⟨W.heap.size + 1 + 1, 0, none⟩ (.slice A3 val.length c3) (W.heap.size + 1 + 1 + 1) (by show W.heap.size + 1 + 1 + 1 ≠ W.heap.size + 1 + 1; omega)), s2]; rfl)
    have hcp2 := (hcp.set ⟨W.heap.size + 1 + 1, 0, none⟩ (by show W.heap.size + 1 + 1 < V.heap.size; omega) (.slice A3 val.length c3)).set ⟨W.heap.size + 1 + 1 + 1, 0, none⟩ (by show W.heap.size + 1 + 1 + 1 < V.heap.size; omega) (.bool (decide (0 < val.length)))
    have hBZ : Below W.heap.size W ((x1.setCell ⟨W.heap.size + 1 + 1, 0, none⟩ (.slice A3 val.length c3)).setCell ⟨W.heap.size + 1 + 1 + 1, 0, none⟩ (.bool (decide (0 < val.length)))) :=
      ((hV0.out.trans (hx0.mono (by omega))).setCell (p := ⟨W.heap.size + 1 + 1, 0, none⟩) (by show W.heap.size ≤ W.heap.size + 1 + 1; omega) _).setCell (p := ⟨W.heap.size + 1 + 1 + 1, 0, none⟩) (by show W.heap.size ≤ W.heap.size + 1 + 1 + 1; omega) _
    have hpt := hcp2.pat (HW.out.trans (hBZ.mono hWs))
    generalize ((x1.setCell ⟨W.heap.size + 1 + 1, 0, none⟩ (.slice A3 val.length c3)).setCell ⟨W.heap.size + 1 + 1 + 1, 0, none⟩ (.bool (decide (0 < val.length)))) = Z at *
    exact bodyPost_ret (v := .tuple #[.slice A3 val.length c3, .bool (decide (0 < val.length))]) (by simp [results, Tryz.results8, go_sem, P1, P2]) rfl ⟨A3, val.length, c3, rfl, hpt, hBZ⟩
end Go.Proofs.YtamghpleajbonaaGreatDoor
