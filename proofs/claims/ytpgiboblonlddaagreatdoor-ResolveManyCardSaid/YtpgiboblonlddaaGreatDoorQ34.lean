/-
  Several texts put together (part 34): what the law and the program call, walked; their contracts.
-/
import Derived.Test.YtpgiboblonlddaaGreatDoorQ5
import Derived.Shelf.SlicesE.Clone
import Derived.Deep.MidRow
namespace Go.Proofs.YtpgiboblonlddaaGreatDoor
open Go.RowKit Go.ChangeMaps
set_option linter.unusedVariables false
set_option linter.unusedSimpArgs false
def laysCl_ren : Go.Shelf.Ren := ⟨fun | 41 => 44 | n => n, fun | 22 => 86 | 23 => 123 | 4 => 4 | n => n, fun | n => n⟩
theorem laysCl : Go.Proofs.SlLaysE0.n41 Tryz.prog laysCl_ren := {
  mixed := by kernel_rfl
  f41 := ⟨Tryz.f44.name, by decide, Tryz.func44.trans (congrArg some (by kernel_rfl))⟩
  t4 := Tryz.underlying4
  a4 := Tryz.isAgg4
  z4 := Tryz.sizeOf4
  v4 := Tryz.zeroValue4
  t22 := Tryz.underlying86
  a22 := Tryz.isAgg86
  z22 := Tryz.sizeOf86
  v22 := Tryz.zeroValue86 }
theorem elInfo : (Tryz.prog.info? 123).map (fun i => (i.zero, i.size, i.bytes)) = some (some (.agg #[.string ⟨#[]⟩, .pointer none]), 2, 24) := by kernel_rfl
theorem es_cells {W : World} : ∀ (l : List EL) (b o : Nat), EsAt W l b o → ∃ news : List Value, news.length = l.length * 2 ∧ (∀ j u, news[j]? = some u → W.cell? ⟨b, o + j, none⟩ = some u) ∧ (∀ u ∈ news, u.oneCell' = true) ∧
    ∀ (W' : World) (g q : Nat), Below W.heap.size W W' → g < W'.heap.size → (∀ j u, news[j]? = some u → W'.cell? ⟨g, q + j, none⟩ = some u) → EsAt W' l g q
  | [], b, o, h => ⟨[], rfl, fun j u hj => by simp at hj, fun u hu => by simp at hu, fun W' g q _ _ _ => by rw [EsAt]; trivial⟩
  | .mk t p :: r, b, o, h => by
    rw [EsAt] at h
    obtain ⟨hb, h1, ⟨u, h2, h3⟩, h4⟩ := h
    obtain ⟨news, n1, n2, n3, n4⟩ := es_cells r b (o + 2) h4
    refine ⟨.string t :: u :: news, by simp [n1, Nat.add_mul], fun j x hj => ?_, fun x hx => ?_, fun W' g q hB hg hc => ?_⟩
    · match j, hj with
      | 0, hj => simp at hj; subst hj; exact h1
      | 1, hj => simp at hj; subst hj; exact h2
      | j + 2, hj =>
        have := n2 j x (by simpa using hj)
        rw [show o + (j + 2) = o + 2 + j by omega]
        exact this
    · rcases List.mem_cons.1 hx with rfl | hx
      · rfl
      rcases List.mem_cons.1 hx with rfl | hx
      · cases p with
        | none => simp only [OAt] at h3; subst h3; rfl
        | some e => simp only [OAt] at h3; obtain ⟨_, _, _, rfl, _⟩ := h3; rfl
      · exact n3 x hx
    · rw [EsAt]
      exact ⟨hg, hc 0 _ rfl, ⟨u, hc 1 _ rfl, OAt.later hB p u h3⟩, n4 W' g (q + 2) hB hg (fun j x hj => by
        have := hc (j + 2) x (by simpa using hj)
        rw [show q + (j + 2) = q + 2 + j by omega] at this
        exact this)⟩
end Go.Proofs.YtpgiboblonlddaaGreatDoor

namespace Go.Proofs.YtpgiboblonlddaaGreatDoor
open Go.RowKit Go.ChangeMaps
set_option linter.unusedVariables false
set_option linter.unusedSimpArgs false
theorem clone_nil (n c : Nat) (W : World) : Calls Tryz.prog 44 #[.slice none n c] W fun e w' => e = .returned (.slice none 0 0) ∧ w' = W := AnyE.slices_Clone_nil laysCl n c W
theorem slice_nil (a : Addr) (c : Nat) (w : World) : (binOp .eql 86 (.slice (some a) 0 c) (.slice none 0 0)).run Tryz.prog w = .ok (.bool false) w := by kernel_rfl
set_option maxHeartbeats 2000000 in
set_option maxRecDepth 100000 in
theorem clone_zero (a : Addr) (c : Nat) (W : World) : Calls Tryz.prog 44 #[.slice (some a) 0 c] W fun e w' => ∃ A c', e = .returned (.slice A 0 c') ∧ c' ≤ maxLen ∧ Below W.heap.size W w' := by
  obtain ⟨i0, hi, hz0, hz1, hz2⟩ := info_parts elInfo
  have hown : (W.alloc (.cells #[] 123)).ownsRow W.heap.size 123 2 (.slice (some ⟨W.heap.size, 0, none⟩) 0 0) 0 [] := by
    refine ⟨rfl, Or.inr ⟨W.heap.size, 0, #[], rfl, Nat.le_refl _, heap_alloc_new W _, Nat.le_refl _, by decide, rfl, ?_⟩⟩
    simp
  have Hown := Lib.hid hown
  have hq := fun w => slice_nil a c w
  clear hown
  go_enter Tryz.func44, Tryz.ntmps44
  go_wp2_with (at_builtin; refine wpList_append_own _ rfl _ _ 86 rfl W.heap.size 123 i0 (.agg #[.string ⟨#[]⟩, .pointer none]) 2 24 Tryz.underlying86 hi hz0 hz1 hz2 rfl (by decide) _ _ _ rfl Hown.out a 0 c [] rfl rfl (by simp) (by simp) (by unfold maxLen; omega) (by omega) (by simp) ?_; intro v' w1 hown' hgrow _)
  have hb := Hown.out
  have hB := ((Below.refl W.heap.size W).alloc (Nat.le_refl _) (.cells #[] 123)).grown hgrow (by simp) (fun k hk => (Hown.out.lt k hk).1)
  have Ho := Lib.hid hown'
  have HB := Lib.hid hB
  clear hown' hB hgrow hb
  go_wp2
  go_ret
  rcases Ho.out.2 with ⟨rfl, _⟩ | ⟨g, cap, cur, rfl, _, _, _, hcap, _⟩
  · exact ⟨none, 0, rfl, Nat.zero_le _, HB.out⟩
  · exact ⟨_, _, rfl, hcap, HB.out⟩
def CP (w : World) (B : Nat) (l : List EL) (W : World) (A : Option Addr) (c : Nat) : Prop :=
  l.length ≤ c ∧ c ≤ maxLen ∧ (0 < l.length → ∃ g news, A = some ⟨g, 0, none⟩ ∧ B ≤ g ∧ g < W.heap.size ∧ (∀ j u, (news : List Value)[j]? = some u → W.cell? ⟨g, j, none⟩ = some u) ∧
    (∀ (W2 : World), Below w.heap.size w W2 → g < W2.heap.size → (∀ j u, news[j]? = some u → W2.cell? ⟨g, j, none⟩ = some u) → EsAt W2 l g 0) ∧
    (∃ cs fz, W.heap[g]? = some (.cells cs 123 fz)) ∧ news.length = l.length * 2 ∧ ∃ b0 o0, EsAt w l b0 o0 ∧ ∀ j u, news[j]? = some u → w.cell? ⟨b0, o0 + j, none⟩ = some u)
theorem CP.pat {w W : World} {B : Nat} {l : List EL} {A : Option Addr} {c : Nat} (h : CP w B l W A c) (hb : Below w.heap.size w W) : PatAt W l (.slice A l.length c) := by
  obtain ⟨h1, h2, h3⟩ := h
  refine ⟨A, c, rfl, h1, h2, fun h0 => ?_⟩
  obtain ⟨g, news, rfl, _, hg, hc, hr, _⟩ := h3 h0
  exact ⟨g, 0, rfl, hr W hb hg hc⟩
theorem CP.mono {w W : World} {B B' : Nat} {l : List EL} {A : Option Addr} {c : Nat} (h : CP w B l W A c) (hb : B' ≤ B) : CP w B' l W A c := by
  obtain ⟨h1, h2, h3⟩ := h
  refine ⟨h1, h2, fun h0 => ?_⟩
  obtain ⟨g, news, rfl, hB, hr⟩ := h3 h0
  exact ⟨g, news, rfl, Nat.le_trans hb hB, hr⟩
theorem CP.same {w W W' : World} {B : Nat} {l : List EL} {A : Option Addr} {c : Nat} (h : CP w B l W A c) (hk : ∀ g, B ≤ g → g < W.heap.size → (∃ cs fz, W.heap[g]? = some (.cells cs 123 fz)) → W'.heap[g]? = W.heap[g]?) : CP w B l W' A c := by
  obtain ⟨h1, h2, h3⟩ := h
  refine ⟨h1, h2, fun h0 => ?_⟩
  obtain ⟨g, news, rfl, hB, hg, hc, hr, ht, hx⟩ := h3 h0
  have hs := hk g hB hg ht
  obtain ⟨cs, fz, ht⟩ := ht
  refine ⟨g, news, rfl, hB, ?_, fun j u hj => (World.cell?_of_block hs).trans (hc j u hj), hr, ⟨cs, fz, hs.trans ht⟩, hx⟩
  rw [ht] at hs
  exact (Array.getElem?_eq_some_iff.1 hs).1
theorem CP.set {w W : World} {B : Nat} {l : List EL} {A : Option Addr} {c : Nat} (h : CP w B l W A c) (p : Addr) (hp : p.block < B) (v : Value) : CP w B l (W.setCell p v) A c :=
  h.same fun g hg _ _ => Below.heap_setCell W p v g (by omega)
theorem clone_any {w : World} (l : List EL) (A : Option Addr) (c : Nat) (hp : PatAt w l (.slice A l.length c)) (hl : l.length ≤ 4000000) (W : World) (hW : Below w.heap.size w W) :
    Calls Tryz.prog 44 #[.slice A l.length c] W fun e w' => ∃ A' c', e = .returned (.slice A' l.length c') ∧ CP w W.heap.size l w' A' c' ∧ Below W.heap.size W w' := by
  by_cases h0 : 0 < l.length
  · obtain ⟨A', c', e, _, _, h2⟩ := hp
    simp only [Value.slice.injEq] at e
    obtain ⟨rfl, _, rfl⟩ := e
    obtain ⟨b, o, rfl, hE⟩ := h2 h0
    obtain ⟨news, n1, n2, n3, n4⟩ := es_cells l b o hE
    obtain ⟨i0, hi, hz0, hz1, hz2⟩ := info_parts elInfo
    have hbw : b < w.heap.size := by
      cases l with
      | nil => exact absurd h0 (by simp)
      | cons x r =>
        obtain ⟨t, p⟩ := x
        rw [EsAt] at hE
        exact hE.1
    refine (AnyE.slices_Clone laysCl i0 (.agg #[.string ⟨#[]⟩, .pointer none]) 2 24 hi hz0 hz1 hz2 rfl (by decide) (Tryz.sizeOf123) b o l.length c news W n1 (by unfold maxLen; omega) (by omega) (fun j u hj => (hW.cell (p := ⟨b, o + j, none⟩) hbw).trans (n2 j u hj)) n3).mono ?_
    rintro e w' ⟨v', rfl, hown, hnn, hB⟩
    rcases hown.2 with ⟨rfl, hq⟩ | ⟨g, cap, cur, rfl, hgb, hg, hc1, hc2, hcs, htk⟩
    · exact absurd rfl hnn
    · refine ⟨_, _, rfl, ⟨hc1, hc2, fun _ => ⟨g, news, rfl, hgb, (Array.getElem?_eq_some_iff.1 hg).1, fun j u hj => ?_, fun W2 hb2 hg2 hc2 => n4 W2 g 0 hb2 hg2 (fun j u hj => by rw [Nat.zero_add]; exact hc2 j u hj), ⟨_, _, hg⟩, n1, b, o, hE, n2⟩⟩, hB⟩
      have := hown.cells (g := g) rfl j u hj
      rw [Addr.add_mid, Nat.zero_add] at this
      exact this
  · have hn : l.length = 0 := by omega
    rw [hn]
    cases A with
    | none =>
      refine (clone_nil 0 c W).mono ?_
      rintro e w' ⟨rfl, rfl⟩
      exact ⟨none, 0, rfl, ⟨by omega, Nat.zero_le _, fun h => absurd h h0⟩, Below.refl _ _⟩
    | some a =>
      refine (clone_zero a c W).mono ?_
      rintro e w' ⟨A', c', rfl, hc, hB⟩
      exact ⟨A', c', rfl, ⟨by omega, hc, fun h => absurd h h0⟩, hB⟩
end Go.Proofs.YtpgiboblonlddaaGreatDoor
