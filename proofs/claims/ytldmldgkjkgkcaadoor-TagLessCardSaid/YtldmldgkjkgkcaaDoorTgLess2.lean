/-
  Less and the law's split again: what they give stands in new memory.
-/
import Derived.Test.YtldmldgkjkgkcaaDoorTgLess
import Derived.Test.YtldmldgkjkgkcaaDoorTgLaw3
import Derived.Test.YtldmldgkjkgkcaaDoorTgLessM
namespace Go.Proofs.YtldmldgkjkgkcaaDoor
open Go.RowKit Go.Shelf
set_option linter.unusedVariables false
set_option linter.unusedSimpArgs false

theorem row_fresh {W : World} {m : Nat} {e : TypeId} {size : Nat} {A0 : Option Addr} {n0 c0 k : Nat} {xs : List Value} (h : W.ownsRow (m + 1 + 1 + 1) e size (.slice A0 n0 c0) k xs) : ∀ A n c, Value.slice A0 n0 c0 = .slice A n c → ∀ x, A = some x → m ≤ x.block := by
  intro A n c e1 x hx
  cases e1
  rcases h.2 with ⟨e2, _⟩ | ⟨g, cap, cur, e2, hb, _⟩
  · cases e2; cases hx
  · cases e2; cases hx; simp; omega
theorem row_fresh2 {W : World} {m : Nat} {e : TypeId} {size : Nat} {v : Value} {k : Nat} {xs : List Value} (h : W.ownsRow m e size v k xs) : ∀ x n c, v = .slice (some x) n c → m ≤ x.block := by
  intro x n c e1
  rcases h.2 with ⟨e2, _⟩ | ⟨g, cap, cur, e2, hb, _⟩
  · rw [e2] at e1; cases e1
  · rw [e2] at e1; cases e1; exact hb

set_option maxRecDepth 100000 in
set_option maxHeartbeats 8000000 in
theorem less_vars2 (L S R : ByteArray) (sv : Value) (vs : List ByteArray) (hne : vs ≠ []) (hvs : vs.length ≤ 1000) (w : World) (hI : StrsAt w.heap.size w sv vs) (hC : CapOk sv) :
    Calls Tryd.prog 13 #[tagV L S R sv] w fun e W' => ∃ sv', e = .returned (.tuple #[tagV L S R sv', .bool true]) ∧ CapOk sv' ∧ StrsAt W'.heap.size W' sv' vs.dropLast ∧ Below w.heap.size w W' ∧ (∀ A n c, sv' = .slice A n c → ∀ x, A = some x → w.heap.size ≤ x.block) := by
  obtain ⟨i0, hi, hz0, hz1, hz2⟩ := info_parts infoStr
  rcases hI with ⟨_, rfl⟩ | ⟨b, off, cap, rfl, hb, hcs⟩
  · exact absurd rfl hne
  have hcap : vs.length ≤ cap := by
    obtain ⟨a, n, c, e, h⟩ := hC
    cases e; exact h
  have hcap1 : vs.length - 1 ≤ cap := by omega
  have hcap2 : (vs.length : Int) - 1 ≤ (cap : Int) := by omega
  clear hC
  have hl0 : 0 < vs.length := List.length_pos_iff.2 hne
  have hdl : vs.dropLast.length = vs.length - 1 := List.length_dropLast
  have hnews : ∀ j u, (vs.dropLast.map Value.string)[j]? = some u → w.cell? ((⟨b, off, none⟩ : Addr).add j) = some u := by
    intro j u hu
    obtain ⟨hj, hu'⟩ := List.getElem?_eq_some_iff.1 hu
    have hj' : j < vs.length - 1 := by simpa using hj
    rw [add_off, hcs j (by omega), ← hu']
    simp [show j < vs.length by omega]
  have H := Lib.hid hnews
  have HD := Lib.hid hdl
  clear hnews hcs hdl
  have e1 : ((vs.length : Int) - 1).toNat = vs.length - 1 := by omega
  have e2 : (0 : Int) ≤ (vs.length : Int) - 1 := by omega
  have e4 : (1 : Int) ≤ (vs.length : Int) := by omega
  have e3 : IntKind.i64.wrap ((vs.length : Int) - 1) = (vs.length : Int) - 1 := IntWalk.i64_in _ (by omega)
  have b1 := Lib.hid (show 0 + (vs.length - 1) ≤ maxLen by unfold maxLen; omega)
  have b2 := Lib.hid (show (0 + (vs.length - 1)) * 16 ≤ 140737488355328 by omega)
  unfold tagV
  go_enter Tryd.func13, Tryd.ntmps13
  go_wp2_with fail
  go_region_law (refine step_append_own rfl (.tmp 19) (.tmp 26) 23 rfl (w.heap.size + 1 + 1 + 1) 9 i0 (.string ByteArray.empty) 1 16 Tryd.underlying23 hi hz0 hz1 hz2 rfl (by decide) (.slice none 0 0) 0 [] (by simp [Act.eval, Act.put]) (World.ownsRow_nil _ _ _ _) ⟨b, off, none⟩ (vs.length - 1) cap (vs.dropLast.map Value.string) (by simp [Act.eval, Act.put]) (by simp) (fun j u hu => ((below_a3 w _ _ _).drew.cell (p := (⟨b, off, none⟩ : Addr).add j) (by rw [add_off]; exact hb)).trans (H.out j u hu)) (one_strs _) b1.out b2.out (by simp) ?_; intro v' w' hown hgrow; obtain ⟨A', c', rfl, hle'⟩ := row_out hown; obtain ⟨hc, hf⟩ := bcell (((Below.refl _ _).grown hgrow (Nat.le_refl _) (fun k e => by cases e)) : Below _ _ w'); have hgr := Lib.hid hgrow; have hro := Lib.hid hown; clear hgrow hown)
  all_goals
    go_wp2_with fail
    refine bodyPost_ret (v := .tuple #[tagV L S R (.slice A' (0 + (vs.length - 1)) c'), .bool true]) (by simp [results, Tryd.results13, go_sem, tagV, hc]) rfl ⟨_, rfl, ⟨_, _, _, rfl, hle'⟩, ?_, ?_, ?_⟩
    · exact less_strs hgr.out hro.out HD.out
    · exact less_below hgr.out
    · exact row_fresh hro.out
set_option maxRecDepth 100000 in
set_option maxHeartbeats 4000000 in
theorem split_new (s : ByteArray) (w : World) (hs : s.size ≤ 100000) :
    Calls Tryd.prog 11 #[.string s] w fun e W' => ∃ v, e = .returned v ∧ StandsS W' v ((splitH s.data.toList).map mk) ∧ Below w.heap.size w W' ∧ (∀ x n c, v = .slice (some x) n c → w.heap.size ≤ x.block) := by
  obtain ⟨i0, hi, hz0, hz1, hz2⟩ := info_parts infoStr
  have hsl : s.data.toList.length = s.size := by simp
  obtain ⟨l, hl⟩ : ∃ l, s.data.toList = l := ⟨_, rfl⟩
  rw [hl] at hsl ⊢
  have HL := Lib.hid hl
  have HZ := Lib.hid hsl
  clear hl hsl
  go_enter Tryd.func11, Tryd.ntmps11
  go_wp2
  go_loopw [3, 4, 5] (fun v f i wr => ∃ (D : List (List UInt8)) (f' k : Nat), k ≤ s.size + 1 ∧ i = .int .i64 k ∧ f = .int .i64 f' ∧ SplitInv l D f' k ∧ SplitAt w D v wr) (fun _ _ i _ => s.size + 1 - (intOf i).toNat)
  case atStart => exact ⟨[], 0, 0, by omega, rfl, rfl, SplitInv.start l, ownsRow_empty w _, (Below.refl _ w).alloc (Nat.le_refl _) _⟩
  case round =>
    obtain ⟨D, f, k, hk, rfl, rfl, hI, hrow, hb⟩ := hrel
    have hDl := hI.le
    rw [HZ.out] at hDl
    have HI := Lib.hid hI
    have HW := Lib.hid hrow
    have HB := Lib.hid hb
    have hsz := hb.size
    clear hI hrow hb
    by_cases hle : k ≤ s.size
    · have hf : f ≤ k := HI.out.f_le (by rw [HZ.out]; exact hle)
      have b1 := Lib.hid (show D.length + 1 ≤ maxLen by unfold maxLen; omega)
      have b2 := Lib.hid (show (D.length + 1) * 16 ≤ 140737488355328 by omega)
      by_cases heq : k = s.size
      · subst heq
        have hx0 := ext_mk s f s.size
        rw [HL.out] at hx0
        have hx := Lib.hid hx0
        have hN := HI.out
        rw [← HZ.out] at hN
        have hN := hN.last
        rw [HZ.out] at hN
        have HN := Lib.hid hN
        clear hN hx0
        go_wp2_with (at_builtin; refine wpList_append_own _ rfl _ _ 23 rfl w.heap.size 9 i0 (.string ByteArray.empty) 1 16 Tryd.underlying23 hi hz0 hz1 hz2 rfl (by decide) _ _ _ rfl (HW.out.alloc _) ⟨wr.heap.size, 0, none⟩ 1 1 [.string _] rfl rfl (cell_one_new _ _ _) (by simp [Value.oneCell']) b1.out b2.out (by simp; omega) ?_; intro v' w1 hown' hgrow _; have HO := Lib.hid (SplitAt.more HW.out HB.out hown' hgrow hx.out); clear hown' hgrow)
        go_roundw
        case rel => exact ⟨_, _, _, Nat.le_refl _, by go_num, by go_num, HN.out, HO.out⟩
        case measure => first | (simp [intOf]; done) | (simp [intOf]; omega)
      · have hlt : k < s.size := by omega
        have hltl : k < l.length := by rw [HZ.out]; exact hlt
        have hgk : s[k] = l[k] := by
          have := HL.out
          subst this
          rfl
        have hkb : ((k : Int) == (s.size : Int)) = false := by simp; omega
        obtain ⟨c, hc⟩ : ∃ c, s[k] = c := ⟨_, rfl⟩
        by_cases h45 : c = 45
        · have hN := HI.out.cut hltl (by rw [← hgk, hc]; exact h45)
          have hx0 := ext_mk s f k
          rw [HL.out] at hx0
          have hx := Lib.hid hx0
          have HN := Lib.hid hN
          have hcb : ((c.toNat : Int) == 45) = true := by rw [h45]; rfl
          clear hN hx0 hgk h45 hltl
          go_wp2_with (at_builtin; refine wpList_append_own _ rfl _ _ 23 rfl w.heap.size 9 i0 (.string ByteArray.empty) 1 16 Tryd.underlying23 hi hz0 hz1 hz2 rfl (by decide) _ _ _ rfl (HW.out.alloc _) ⟨wr.heap.size, 0, none⟩ 1 1 [.string _] rfl rfl (cell_one_new _ _ _) (by simp [Value.oneCell']) b1.out b2.out (by simp; omega) ?_; intro v' w1 hown' hgrow _; have HO := Lib.hid (SplitAt.more HW.out HB.out hown' hgrow hx.out); clear hown' hgrow)
          go_roundw
          case rel => exact ⟨_, _, _, by omega, by go_num, by go_num, HN.out, HO.out⟩
          case measure => first | (simp [intOf]; done) | (simp [intOf]; omega)
        · have hN := HI.out.same hltl (by rw [← hgk, hc]; exact h45)
          have HN := Lib.hid hN
          have hcb : ((c.toNat : Int) == 45) = false := by
            cases e : ((c.toNat : Int) == 45)
            · rfl
            · exact absurd (UInt8.toNat_inj.1 (by have := beq_iff_eq.1 e; show c.toNat = 45; omega)) h45
          clear hN hgk h45 hltl
          go_wp2_with fail
          go_roundw
          case rel => exact ⟨D, f, k + 1, by omega, by go_num, rfl, HN.out, HW.out, HB.out⟩
          case measure => first | (simp [intOf]; done) | (simp [intOf]; omega)
    · obtain rfl : k = s.size + 1 := by omega
      go_wp2_with fail
      go_ret
      have hD := HI.out
      rw [← HZ.out] at hD
      have e := hD.done
      refine ⟨_, rfl, ?_, HB.out, row_fresh2 HW.out⟩
      rw [e]
      refine StandsS.of_row (n₀ := w.heap.size) ?_ (by rw [← e]; simp [splitH_ne])
      rw [List.length_map]; exact HW.out

/-- The variants stand elsewhere than in this block. -/
def Off (A : Option Addr) (b : Nat) : Prop := ∀ x, A = some x → x.block ≠ b
theorem lessY2 {t : TagT} (k : t.Ok) (h : 1 < t.pieces.length) {A : Option Addr} {c : Nat} {W : World} (hv : VarsAt W t A c) {b : Nat} (hb0 : b < W.heap.size) :
    Calls Tryd.prog 13 #[.agg #[.string (mk t.L), .string (mk t.S), .string (mk t.R), .slice A t.vs.length c]] W fun e W' => ∃ A' c', e = .returned (.tuple #[.agg #[.string (mk t.less.L), .string (mk t.less.S), .string (mk t.less.R), .slice A' t.less.vs.length c'], .bool true]) ∧ (VarsAt W' t.less A' c' ∧ Off A' b) ∧ Below W.heap.size W W' := by
  have hnil : ∀ W', VarsAt W' ⟨t.L, t.S, [], []⟩ none 0 ∧ Off none b := fun W' => ⟨⟨Nat.le_refl _, .inl ⟨rfl, rfl⟩⟩, fun x e => by cases e⟩
  have hnil2 : ∀ W', VarsAt W' ⟨t.L, [], [], []⟩ none 0 ∧ Off none b := fun W' => ⟨⟨Nat.le_refl _, .inl ⟨rfl, rfl⟩⟩, fun x e => by cases e⟩
  by_cases hvs : t.vs = []
  · have hl : t.vs.length = 0 := by rw [hvs]; rfl
    by_cases hR : t.R = []
    · have hS : t.S ≠ [] := by
        intro e
        have : t.pieces = [t.L] := by
          unfold TagT.pieces; simp [lang_ne k.good.hL, e, hR, hvs]
        rw [this] at h; simp at h
      have e : t.less = ⟨t.L, [], [], []⟩ := by unfold TagT.less; simp [hvs, hR]
      rw [hl, hR, mk_nil, e]
      refine (less_script (mk t.L) (mk t.S) (isEmpty_mk hS) c A W).mono ?_
      rintro e' W' ⟨rfl, hb⟩
      exact ⟨none, 0, rfl, hnil2 W', hb⟩
    · have e : t.less = ⟨t.L, t.S, [], []⟩ := by unfold TagT.less; simp [hvs, hR]
      rw [hl, e]
      refine (less_region (mk t.L) (mk t.S) (mk t.R) (isEmpty_mk hR) c A W).mono ?_
      rintro e' W' ⟨rfl, hb⟩
      exact ⟨none, 0, rfl, hnil W', hb⟩
  · have e : t.less = ⟨t.L, t.S, t.R, t.vs.dropLast⟩ := by unfold TagT.less; simp [hvs]
    rw [e]
    refine (less_vars2 (mk t.L) (mk t.S) (mk t.R) (.slice A t.vs.length c) (t.vs.map mk) (by simpa using hvs) (by rw [List.length_map]; exact k.vs) W hv.2 ⟨_, _, _, rfl, hv.1⟩).mono ?_
    rintro e' W' ⟨sv, rfl, h1, h2, hb, hf⟩
    rw [← List.map_dropLast] at h2
    obtain ⟨A', c', rfl, hv'⟩ := VarsAt.of (t := ⟨t.L, t.S, t.R, t.vs.dropLast⟩) h1 h2
    refine ⟨A', c', rfl, ⟨hv', fun x hx => ?_⟩, hb⟩
    have := hf _ _ _ rfl x hx
    omega
theorem splitT2 {t : TagT} (k : t.Ok) (w : World) {b3 : Nat} (hb3 : b3 < w.heap.size) : Calls Tryd.prog 11 #[.string (mk t.text)] w fun e W' => ∃ b c, e = .returned (.slice (some ⟨b, 0, none⟩) t.pieces.length c) ∧ (b < W'.heap.size ∧ b ≠ b3 ∧ ∀ j p, t.pieces[j]? = some p → W'.cell? ⟨b, j, none⟩ = some (.string (mk p))) ∧ Below w.heap.size w W' := by
  have h := split_new (mk t.text) w (by rw [mk_size]; have := k.text; omega)
  rw [mk_data, split_text k.good] at h
  refine h.mono ?_
  rintro e W' ⟨v, rfl, ⟨b, c, rfl, h1, h2, h3⟩, hb, hf⟩
  rw [List.length_map] at h3 ⊢
  refine ⟨b, c, rfl, ⟨h2, ?_, fun j p hp => ?_⟩, hb⟩
  · have := hf _ _ _ rfl
    simp only at this
    omega
  · obtain ⟨hlt, hq⟩ := List.getElem?_eq_some_iff.1 hp
    have := h3 j hlt
    rw [Nat.zero_add] at this
    rw [this]
    simp [hp]
end Go.Proofs.YtldmldgkjkgkcaaDoor
