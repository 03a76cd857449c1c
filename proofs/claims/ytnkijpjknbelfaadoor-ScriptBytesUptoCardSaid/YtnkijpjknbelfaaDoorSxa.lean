/-
  Package script: ScriptJoins.
-/
import Derived.Test.YtnkijpjknbelfaaDoorSws
import Derived.Test.YtnkijpjknbelfaaDoorSwz
namespace Go.Proofs.YtnkijpjknbelfaaDoor
open Go.RowKit
set_option linter.unusedVariables false
set_option linter.unusedSimpArgs false

theorem sts_row {W : World} {F : Nat → Prop} {b : Nat} : ∀ (l : List ST) (o : Nat), (∀ j x, l[j]? = some x → ∃ A1 c1 A2 c2, (∀ i u, (stL x A1 c1 A2 c2)[i]? = some u → W.cell? ⟨b, o + j * 8 + i, none⟩ = some u) ∧ StF W F x A1 A2) →
    ∃ news, SZip W F l news ∧ news.length = l.length * 8 ∧ (∀ j u, news[j]? = some u → W.cell? ⟨b, o + j, none⟩ = some u) ∧ ∀ u ∈ news, u.oneCell' = true
  | [], o, _ => ⟨[], rfl, rfl, fun j u h => by simp at h, fun u h => by cases h⟩
  | x :: l, o, h => by
    obtain ⟨A1, c1, A2, c2, h1, h2⟩ := h 0 x rfl
    obtain ⟨news, n1, n2, n3, n4⟩ := sts_row l (o + 8) (fun j y hy => by
      obtain ⟨A1, c1, A2, c2, h1, h2⟩ := h (j + 1) y (by simpa using hy)
      refine ⟨A1, c1, A2, c2, fun i u hu => ?_, h2⟩
      have := h1 i u hu
      rw [show o + 8 + j * 8 + i = o + (j + 1) * 8 + i by omega]
      exact this)
    refine ⟨stL x A1 c1 A2 c2 ++ news, ⟨A1, c1, A2, c2, news, rfl, h2, n1⟩, by rw [List.length_append, n2, stL_len, List.length_cons]; omega, fun j u hj => ?_, fun u hu => ?_⟩
    · by_cases h8 : j < 8
      · rw [List.getElem?_append_left (by rw [stL_len]; exact h8)] at hj
        have := h1 j u hj
        rw [Nat.zero_mul, Nat.add_zero] at this
        exact this
      · rw [List.getElem?_append_right (by rw [stL_len]; omega), stL_len] at hj
        have := n3 _ u hj
        rw [show o + 8 + (j - 8) = o + j by omega] at this
        exact this
    · rcases List.mem_append.1 hu with hu | hu
      · unfold stL at hu
        simp only [List.mem_cons, List.not_mem_nil, or_false] at hu
        rcases hu with rfl | rfl | rfl | rfl | rfl | rfl | rfl | rfl <;> rfl
      · exact n4 u hu
/-- The cells of a list of steps, for append. -/
theorem sts_news {W : World} {F : Nat → Prop} {l : List ST} {A : Option Addr} (h : StsIn W F l A) :
    ∃ news, SZip W F l news ∧ news.length = l.length * 8 ∧ (0 < l.length → ∃ ad, A = some ad ∧ ∀ j u, news[j]? = some u → W.cell? (ad.add j) = some u) ∧ ∀ u ∈ news, u.oneCell' = true := by
  by_cases h0 : 0 < l.length
  · obtain ⟨b, o, rfl, _, hc⟩ := h h0
    obtain ⟨news, n1, n2, n3, n4⟩ := sts_row (b := b) l o hc
    exact ⟨news, n1, n2, fun _ => ⟨_, rfl, fun j u hj => by rw [addMid]; exact n3 j u hj⟩, n4⟩
  · obtain rfl : l = [] := List.eq_nil_of_length_eq_zero (by omega)
    exact ⟨[], rfl, rfl, fun h => absurd h h0, fun u h => by cases h⟩
theorem SZip.app {W : World} {F : Nat → Prop} : ∀ (a b : List ST) (xs ys : List Value), SZip W F a xs → SZip W F b ys → SZip W F (a ++ b) (xs ++ ys)
  | [], b, xs, ys, h, g => by
    rw [SZip] at h
    subst h
    exact g
  | x :: a, b, xs, ys, h, g => by
    rw [SZip] at h
    obtain ⟨A1, c1, A2, c2, zs, rfl, h2, h3⟩ := h
    exact ⟨A1, c1, A2, c2, zs ++ ys, by rw [List.append_assoc], h2, SZip.app a b zs ys h3 g⟩
theorem own_list {B n : Nat} {W : World} {F : Nat → Prop} {v : Value} {l : List ST} {xs : List Value} (h1 : W.ownsRow B 29 8 v n xs) (hn : n = l.length) (h2 : SZip W F l xs) (hF : ∀ g, v.ownBlock = some g → F g) : ∃ A c, v = .slice A l.length c ∧ StsIn W F l A := by
  rcases h1.2 with ⟨rfl, h0⟩ | ⟨g, cap, cur, rfl, hb, hg, hc1, hc2, hcs, htk⟩
  · have : l = [] := List.eq_nil_of_length_eq_zero (by omega)
    subst this
    exact ⟨none, 0, rfl, fun h => absurd h (by simp)⟩
  · refine ⟨_, _, by rw [hn], fun _ => ⟨g, 0, rfl, hF g rfl, fun j x hx => ?_⟩⟩
    obtain ⟨A1, c1, A2, c2, h4, h5⟩ := SZip.get l xs j x h2 hx
    refine ⟨A1, c1, A2, c2, fun i u hu => ?_, h5⟩
    have := World.ownsRow.cells (g := g) h1 rfl _ u (h4 i u hu)
    rw [addMid] at this
    rw [show 0 + j * 8 + i = 0 + (j * 8 + i) by omega]
    exact this
theorem StsIn.later {W W' : World} {l : List ST} {A : Option Addr} (h : StsIn W (Old W) l A) (g : Below W.heap.size W W') : StsIn W' (Old W') l A :=
  h.carry fun b hb => ⟨Nat.lt_of_lt_of_le hb g.size, g.block b hb⟩
theorem few_enc {l : List ST} (h : fewB l = true) : (encL l).length ≤ 100000 := by
  obtain ⟨h1, h2⟩ := few_short h
  have hd : ∀ u : Nat, u ≤ 1000000 → (Lib.decDigits u).length ≤ 7 := fun u hu => by
    rw [Lib.decDigits_length]
    exact nDigits_le 6 u (by omega)
  have ht : ∀ t : List UInt8, t.length ≤ 3000 → (encT t).length ≤ t.length + 9 := fun t ht => by
    unfold encT
    have := hd t.length (by omega)
    simp only [List.length_append, List.length_cons, List.length_nil]
    omega
  have hs : ∀ x ∈ l, (encS x).length ≤ 5000 := fun x hx => by
    obtain ⟨_, hw, ha, hf⟩ := h2 x hx
    unfold fwS at hf
    have sw : ∀ ws : List ByteArray, sumOf fwW ws ≤ 3000 → (ws.flatMap fun w => encT w.data.toList).length ≤ sumOf fwW ws + ws.length * 9 := by
      intro ws
      induction ws with
      | nil => intro _; simp
      | cons w r ih =>
        intro hle
        rw [sumOf] at hle ⊢
        have h0 : fwW w = w.data.toList.length := (size_data w).symm
        have := ht w.data.toList (by omega)
        have := ih (by omega)
        rw [List.flatMap_cons, List.length_append, List.length_cons]
        omega
    have sa : ∀ ys : List SA, sumOf fwA ys ≤ 3000 → (ys.flatMap encA).length ≤ sumOf fwA ys + ys.length * 30 := by
      intro ys
      induction ys with
      | nil => intro _; simp
      | cons a r ih =>
        intro hle
        rw [sumOf] at hle ⊢
        have h0 : fwA a = a.name.data.toList.length + a.text.data.toList.length := by rw [size_data, size_data]; rfl
        have t1 := ht a.name.data.toList (by omega)
        have t2 := ht a.text.data.toList (by omega)
        have t3 := ht [signA a.kind] (by simp)
        have := ih (by omega)
        have tA : (encA a).length = (encT a.name.data.toList).length + ((encT [signA a.kind]).length + (encT a.text.data.toList).length) := by
          unfold encA textsA
          simp only [List.flatMap_cons, List.flatMap_nil, List.length_append, List.length_nil, Nat.add_zero]
        rw [List.flatMap_cons, List.length_append, List.length_cons, tA]
        simp only [List.length_nil, List.length_cons] at t3
        omega
    have e1 := size_data x.tag
    have e2 := size_data x.bytes
    have e3 := size_data x.name
    have e4 := size_data x.attr
    have w1 := sw x.wishes (by omega)
    have a1 := sa x.args (by omega)
    unfold encS textsS
    split
    · have t1 := ht [97] (by simp)
      have t2 := ht x.tag.data.toList (by omega)
      have t3 := ht [if x.over = true then 49 else 48] (by simp)
      have t4 := ht x.bytes.data.toList (by omega)
      simp only [List.flatMap_cons, List.flatMap_nil, List.length_append, List.length_nil, List.length_cons] at t1 t3 ⊢
      omega
    · split
      · have t1 := ht [99] (by simp)
        have t2 := ht x.tag.data.toList (by omega)
        have t3 := ht (Lib.decDigits x.wishes.length) (by have := hd x.wishes.length (by omega); omega)
        have := hd x.wishes.length (by omega)
        simp only [List.flatMap_cons, flat_map, List.length_append, List.length_nil, List.length_cons] at t1 w1 ⊢
        omega
      · have t1 := ht [113] (by simp)
        have t2 := ht x.name.data.toList (by omega)
        have t4 := ht x.attr.data.toList (by omega)
        have t3 := ht (Lib.decDigits x.args.length) (by have := hd x.args.length (by omega); omega)
        have := hd x.args.length (by omega)
        simp only [List.flatMap_cons, flat_args, List.length_append, List.length_nil, List.length_cons] at t1 a1 ⊢
        omega
  have : ∀ l : List ST, (∀ x ∈ l, (encS x).length ≤ 5000) → (encL l).length ≤ l.length * 5000 := by
    intro l
    induction l with
    | nil => intro _; simp [encL]
    | cons x r ih =>
      intro h
      rw [encL_cons, List.length_append, List.length_cons]
      have := h x (List.mem_cons_self ..)
      have := ih (fun y hy => h y (List.mem_cons_of_mem _ hy))
      omega
  have := this l hs
  omega
theorem encL_app (a b : List ST) : encL (a ++ b) = encL a ++ encL b := by unfold encL; rw [List.flatMap_append]
theorem encR_few {l : List ST} (h : l.length ≤ 4096) : encR l = if l.all rightS = true then (encL l, 0) else ([], 1) := by
  unfold encR
  rw [if_neg (by omega)]
set_option maxHeartbeats 8000000 in
set_option maxRecDepth 100000 in
theorem joins_noa (a b : List ST) (A B : Option Addr) (c d : Nat) (w : World) (hE : Env w) (ha : StsIn w (Old w) a A) (hb : StsIn w (Old w) b B) (za : sumOf szS a ≤ 2000000) (zb : sumOf szS b ≤ 2000000) (fa : fewB a = false) :
    Calls Tryd.prog 8 #[.slice A a.length c, .slice B b.length d] w fun e w' => e = .returned (.bool true) ∧ Below w.heap.size w w' := by
  have HE := Lib.hid hE
  have HA := Lib.hid ha
  have HBs := Lib.hid hb
  have HZa := Lib.hid za
  have HZb := Lib.hid zb
  clear hE ha hb za zb
  go_enter Tryd.func8, Tryd.ntmps8
  go_wp2_with fail
  go_at_call 9
  refine (head_any _ HE.out).mono ?_
  rintro e w1 ⟨rfl, hb1⟩
  have HB1 := Lib.hid hb1
  clear hb1
  go_wp2_with fail
  go_at_call 10
  refine (few_any _ (HA.out.later HB1.out) HZa.out).mono ?_
  rw [fa]
  rintro e w2 ⟨rfl, hb2⟩
  go_wp2
  go_ret
  exact ⟨rfl, HB1.out.trans (hb2.mono HB1.out.size)⟩
set_option maxHeartbeats 8000000 in
set_option maxRecDepth 100000 in
theorem joins_nob (a b : List ST) (A B : Option Addr) (c d : Nat) (w : World) (hE : Env w) (ha : StsIn w (Old w) a A) (hb : StsIn w (Old w) b B) (za : sumOf szS a ≤ 2000000) (zb : sumOf szS b ≤ 2000000) (fa : fewB a = true) (fb : fewB b = false) :
    Calls Tryd.prog 8 #[.slice A a.length c, .slice B b.length d] w fun e w' => e = .returned (.bool true) ∧ Below w.heap.size w w' := by
  have HE := Lib.hid hE
  have HA := Lib.hid ha
  have HBs := Lib.hid hb
  have HZa := Lib.hid za
  have HZb := Lib.hid zb
  clear hE ha hb za zb
  go_enter Tryd.func8, Tryd.ntmps8
  go_wp2_with fail
  go_at_call 9
  refine (head_any _ HE.out).mono ?_
  rintro e w1 ⟨rfl, hb1⟩
  have HB1 := Lib.hid hb1
  clear hb1
  go_wp2_with fail
  go_at_call 10
  refine (few_any _ (HA.out.later HB1.out) HZa.out).mono ?_
  rw [fa]
  rintro e w2 ⟨rfl, hb2⟩
  have HB2 := Lib.hid (HB1.out.trans (hb2.mono HB1.out.size))
  clear hb2
  go_wp2_with fail
  go_at_call 10
  refine (few_any _ (HBs.out.later HB2.out) HZb.out).mono ?_
  rw [fb]
  rintro e w3 ⟨rfl, hb3⟩
  have HB3 := Lib.hid (HB2.out.trans (hb3.mono HB2.out.size))
  clear hb3
  go_wp2
  go_ret
  exact ⟨rfl, HB3.out⟩
set_option maxHeartbeats 8000000 in
set_option maxRecDepth 100000 in
theorem joins_ok (a b : List ST) (A B : Option Addr) (c d : Nat) (w : World) (hE : Env w) (ha : StsIn w (Old w) a A) (hb : StsIn w (Old w) b B) (za : sumOf szS a ≤ 2000000) (zb : sumOf szS b ≤ 2000000) (fa : fewB a = true) (fb : fewB b = true) (ra : a.all rightS = true) (rb : b.all rightS = true) :
    Calls Tryd.prog 8 #[.slice A a.length c, .slice B b.length d] w fun e w' => e = .returned (.bool true) ∧ Below w.heap.size w w' := by
  have HE := Lib.hid hE
  have HA := Lib.hid ha
  have HBs := Lib.hid hb
  have HZa := Lib.hid za
  have HZb := Lib.hid zb
  obtain ⟨i0, hinf, hz0, hz1, hz2⟩ := info_split infoSt
  have hfa := few_short fa
  have hfb := few_short fb
  have hea := few_enc fa
  have heb := few_enc fb
  have hla : (a.length : Int) ≤ 20 := by omega
  have hlb : (b.length : Int) ≤ 20 := by omega
  have HEa := Lib.hid (fun W (g : Below w.heap.size w W) => encode_any (c := c) W (HE.out.below g) (HA.out.later g) (fun x hx => (hfa.2 x hx).1.ok) (by omega) (by omega))
  have HEb := Lib.hid (fun W (g : Below w.heap.size w W) => encode_any (c := d) W (HE.out.below g) (HBs.out.later g) (fun x hx => (hfb.2 x hx).1.ok) (by omega) (by omega))
  have hab : (encL (a ++ b)).length ≤ 200000 := by rw [encL_app, List.length_append]; omega
  have HEab := Lib.hid (fun W (A' : Option Addr) (c' : Nat) (g : Below w.heap.size w W) (h : StsIn W (Old W) (a ++ b) A') => encode_any (A := A') (c := c') W (HE.out.below g) h (fun x hx => by rcases List.mem_append.1 hx with h | h; exact (hfa.2 x h).1.ok; exact (hfb.2 x h).1.ok) (by rw [List.length_append]; omega) (by omega))
  rw [encR_few (show a.length ≤ 4096 by omega)] at HEa
  rw [encR_few (show b.length ≤ 4096 by omega)] at HEb
  rw [encR_few (show (a ++ b).length ≤ 4096 by rw [List.length_append]; omega), List.all_append, List.length_append] at HEab
  rw [ra] at HEa HEab
  rw [rb] at HEb HEab
  rw [if_pos rfl] at HEa HEb
  rw [if_pos (by rfl), encL_app] at HEab
  have HLa := Lib.hid hea
  have HLb := Lib.hid heb
  clear hfa hfb hea heb hab
  have HInf := Lib.hid hinf
  clear hE ha hb za zb
  go_enter Tryd.func8, Tryd.ntmps8
  go_wp2_with fail
  go_at_call 9
  refine (head_any _ HE.out).mono ?_
  rintro e w1 ⟨rfl, hb1⟩
  have HB1 := Lib.hid hb1
  clear hb1
  go_wp2_with fail
  go_at_call 10
  refine (few_any _ (HA.out.later HB1.out) HZa.out).mono ?_
  rw [fa]
  rintro e w2 ⟨rfl, hb2⟩
  have HB2 := Lib.hid (HB1.out.trans (hb2.mono HB1.out.size))
  clear hb2
  go_wp2_with fail
  go_at_call 10
  refine (few_any _ (HBs.out.later HB2.out) HZb.out).mono ?_
  rw [fb]
  rintro e w3 ⟨rfl, hb3⟩
  have HB3 := Lib.hid (HB2.out.trans (hb3.mono HB2.out.size))
  clear hb3
  go_wp2_with fail
  go_at_call 14
  refine (HEa.out _ HB3.out).mono ?_
  rintro e w4 ⟨va, rfl, hb4, hoa⟩
  have HB4 := Lib.hid (HB3.out.trans (hb4.mono HB3.out.size))
  have HOa := Lib.hid hoa
  obtain ⟨Aa, ca, rfl⟩ := own_len hoa
  clear hb4 hoa
  go_wp2_with fail
  go_at_call 14
  refine (HEb.out _ HB4.out).mono ?_
  rintro e w5 ⟨vb, rfl, hb5, hob⟩
  have HB5 := Lib.hid (HB4.out.trans (hb5.mono HB4.out.size))
  have HOa5 := Lib.hid (HOa.out.later hb5)
  have HOb := Lib.hid hob
  obtain ⟨Ab, cb, rfl⟩ := own_len hob
  clear hb5 hob
  have hs5 := HB5.out.size
  obtain ⟨na, a1, a2, a3, a4⟩ := sts_news (HA.out.later HB5.out)
  obtain ⟨nb, b1, b2, b3, b4⟩ := sts_news (HBs.out.later HB5.out)
  have HZA := Lib.hid a1
  have HZB := Lib.hid b1
  have hown0 := own_new (B := w5.heap.size) (n := 0) (size := 8) (BoxAt.new w5 #[] 29) (Nat.le_refl _) rfl (by decide)
  have hal : Below w5.heap.size w5 (w5.alloc (.cells #[] 29)) := (Below.refl _ _).alloc (Nat.le_refl _) _
  have HAl := Lib.hid hal
  have hWs : (w5.alloc (.cells #[] 29)).heap.size = w5.heap.size + 1 := by simp
  clear hal
  go_wp2_with (at_builtin; refine wpList_append_spread _ rfl _ _ 22 rfl w5.heap.size 29 i0 (.agg #[.int .i64 0, .string ⟨#[]⟩, .string ⟨#[]⟩, .bool false, .slice none 0 0, .string ⟨#[]⟩, .string ⟨#[]⟩, .slice none 0 0]) 8 128 Tryd.underlying22 HInf.out hz0 hz1 hz2 rfl (by decide) (.slice (some ⟨w5.heap.size, 0, none⟩) 0 0) 0 _ rfl hown0 A a.length c na rfl a2 ?c1 a4 ?c3 ?c4 ?c5 ?_)
  case c1 =>
    intro h0
    obtain ⟨ad, e1, hc⟩ := a3 h0
    obtain ⟨bb, oo, e2, hbb, _⟩ := (HA.out.later HB5.out) h0
    rw [e2] at e1
    cases e1
    refine ⟨_, e2, fun j u hj => ?_⟩
    have := hc j u hj
    rw [addMid] at this ⊢
    exact (HAl.out.cell (p := ⟨bb, oo + j, none⟩) hbb).trans this
  case c3 => unfold maxLen; omega
  case c4 => omega
  case c5 => omega
  intro v6 w6 ho6 hg6 hw6
  have hg6b : Below w5.heap.size w5 w6 := HAl.out.grown hg6 (by omega) (fun k e => by have := Option.some.inj (show some w5.heap.size = some k from e); omega)
  have HG6 := Lib.hid hg6b
  have h66 := hg6b.size
  clear hg6 hw6 hown0 hg6b a3 a4
  go_wp2_with (at_builtin; refine wpList_append_spread _ rfl _ _ 22 rfl w5.heap.size 29 i0 (.agg #[.int .i64 0, .string ⟨#[]⟩, .string ⟨#[]⟩, .bool false, .slice none 0 0, .string ⟨#[]⟩, .string ⟨#[]⟩, .slice none 0 0]) 8 128 Tryd.underlying22 HInf.out hz0 hz1 hz2 rfl (by decide) v6 a.length _ rfl ho6 B b.length d nb rfl b2 ?d1 b4 ?d3 ?d4 ?d5 ?_)
  case d1 =>
    intro h0
    obtain ⟨ad, e1, hc⟩ := b3 h0
    obtain ⟨bb, oo, e2, hbb, _⟩ := (HBs.out.later HB5.out) h0
    rw [e2] at e1
    cases e1
    refine ⟨_, e2, fun j u hj => ?_⟩
    have := hc j u hj
    rw [addMid] at this ⊢
    exact (HG6.out.cell (p := ⟨bb, oo + j, none⟩) hbb).trans this
  case d3 => unfold maxLen; omega
  case d4 => omega
  case d5 => omega
  intro v7 w7 ho7 hg7 hw7
  have hg7b : Below w5.heap.size w5 w7 := HG6.out.grown hg7 h66 (fun k e => (World.ownsRow.lt ho6 k e).1)
  have HG7 := Lib.hid hg7b
  have hz7 := SZip.app a b na nb (SZip.carry (W' := w7) (F' := Old w7) (fun q hq => ⟨Nat.lt_of_lt_of_le hq hg7b.size, hg7b.block q hq⟩) _ _ HZA.out) (SZip.carry (W' := w7) (F' := Old w7) (fun q hq => ⟨Nat.lt_of_lt_of_le hq hg7b.size, hg7b.block q hq⟩) _ _ HZB.out)
  obtain ⟨A7, c7, e7, hl7⟩ := own_list ho7 (by rw [List.length_append]) hz7 (fun g e => (World.ownsRow.lt ho7 g e).2)
  rw [List.length_append] at e7
  subst e7
  have HB7 := Lib.hid (HB5.out.trans (hg7b.mono hs5))
  have HL7 := Lib.hid hl7
  have HOa7 := Lib.hid (HOa5.out.later hg7b)
  have HOb7 := Lib.hid (HOb.out.later hg7b)
  clear ho6 ho7 hg7 hw7 hg7b hz7 hl7 a1 a2 b1 b2 b3 b4
  go_wp2_with fail
  go_at_call 14
  refine (HEab.out _ _ _ HB7.out HL7.out).mono ?_
  rintro e w8 ⟨vz, rfl, hb8, hoz⟩
  have HB8 := Lib.hid (HB7.out.trans (hb8.mono HB7.out.size))
  obtain ⟨Az, cz, rfl⟩ := own_len hoz
  have cvz : (convert 32 9 (.slice Az (encL a ++ encL b).length cz)).run Tryd.prog w8 = .ok (.string (mkS (encL a) ++ mkS (encL b))) w8 := by
    rw [show mkS (encL a) ++ mkS (encL b) = mkS (encL a ++ encL b) from bytes_eq (by simp [mkS])]
    exact own_conv hoz
  have cva : (convert 32 9 (.slice Aa (encL a).length ca)).run Tryd.prog w8 = .ok (.string (mkS (encL a))) w8 := own_conv (HOa7.out.later hb8)
  have cvb : (convert 32 9 (.slice Ab (encL b).length cb)).run Tryd.prog w8 = .ok (.string (mkS (encL b))) w8 := own_conv (HOb7.out.later hb8)
  have sxa : (mkS (encL a)).size ≤ 100000 := by rw [size_mkS]; exact HLa.out
  have sxb : (mkS (encL b)).size ≤ 100000 := by rw [size_mkS]; exact HLb.out
  generalize mkS (encL a) = sa at *
  generalize mkS (encL b) = sb at *
  have hcat : ¬ 9223372036854775807 < sa.size + sb.size := by omega
  generalize (encL a ++ encL b).length = lz at *
  generalize (encL a).length = la at *
  generalize (encL b).length = lb at *
  clear hb8 hoz
  go_wp2
  all_goals
    go_ret
    exact ⟨by first | rfl | (simp_all; done), HB8.out⟩
set_option maxHeartbeats 8000000 in
set_option maxRecDepth 100000 in
theorem joins_err (a b : List ST) (A B : Option Addr) (c d : Nat) (w : World) (hE : Env w) (ha : StsIn w (Old w) a A) (hb : StsIn w (Old w) b B) (za : sumOf szS a ≤ 2000000) (zb : sumOf szS b ≤ 2000000) (fa : fewB a = true) (fb : fewB b = true) (rab : (a.all rightS && b.all rightS) = false) :
    Calls Tryd.prog 8 #[.slice A a.length c, .slice B b.length d] w fun e w' => e = .returned (.bool true) ∧ Below w.heap.size w w' := by
  have HE := Lib.hid hE
  have HA := Lib.hid ha
  have HBs := Lib.hid hb
  have HZa := Lib.hid za
  have HZb := Lib.hid zb
  obtain ⟨i0, hinf, hz0, hz1, hz2⟩ := info_split infoSt
  have hfa := few_short fa
  have hfb := few_short fb
  have hea := few_enc fa
  have heb := few_enc fb
  have hla : (a.length : Int) ≤ 20 := by omega
  have hlb : (b.length : Int) ≤ 20 := by omega
  have HEa := Lib.hid (fun W (g : Below w.heap.size w W) => encode_any (c := c) W (HE.out.below g) (HA.out.later g) (fun x hx => (hfa.2 x hx).1.ok) (by omega) (by omega))
  have HEb := Lib.hid (fun W (g : Below w.heap.size w W) => encode_any (c := d) W (HE.out.below g) (HBs.out.later g) (fun x hx => (hfb.2 x hx).1.ok) (by omega) (by omega))
  have hab : (encL (a ++ b)).length ≤ 200000 := by rw [encL_app, List.length_append]; omega
  have HEab := Lib.hid (fun W (A' : Option Addr) (c' : Nat) (g : Below w.heap.size w W) (h : StsIn W (Old W) (a ++ b) A') => encode_any (A := A') (c := c') W (HE.out.below g) h (fun x hx => by rcases List.mem_append.1 hx with h | h; exact (hfa.2 x h).1.ok; exact (hfb.2 x h).1.ok) (by rw [List.length_append]; omega) (by omega))
  rw [encR_few (show a.length ≤ 4096 by omega)] at HEa
  rw [encR_few (show b.length ≤ 4096 by omega)] at HEb
  rw [encR_few (show (a ++ b).length ≤ 4096 by rw [List.length_append]; omega), List.all_append, List.length_append] at HEab
  obtain ⟨XA, hXA⟩ : ∃ X, (if a.all rightS = true then (encL a, (0 : Int)) else ([], 1)) = X := ⟨_, rfl⟩
  obtain ⟨XB, hXB⟩ : ∃ X, (if b.all rightS = true then (encL b, (0 : Int)) else ([], 1)) = X := ⟨_, rfl⟩
  rw [hXA] at HEa
  rw [hXB] at HEb
  rw [rab, if_neg (by simp)] at HEab
  have hor : (XA.2 = 1) ∨ (XA.2 = 0 ∧ XB.2 = 1) := by
    rw [← hXA, ← hXB]
    cases h1 : a.all rightS
    · exact .inl rfl
    · rw [h1, Bool.true_and] at rab
      rw [rab]
      exact .inr ⟨rfl, rfl⟩
  clear hXA hXB rab
  obtain ⟨la, ea⟩ := XA
  obtain ⟨lb, eb⟩ := XB
  dsimp only at hor HEa HEb
  clear hfa hfb hea heb hab
  have HInf := Lib.hid hinf
  clear hE ha hb za zb
  go_enter Tryd.func8, Tryd.ntmps8
  go_wp2_with fail
  go_at_call 9
  refine (head_any _ HE.out).mono ?_
  rintro e w1 ⟨rfl, hb1⟩
  have HB1 := Lib.hid hb1
  clear hb1
  go_wp2_with fail
  go_at_call 10
  refine (few_any _ (HA.out.later HB1.out) HZa.out).mono ?_
  rw [fa]
  rintro e w2 ⟨rfl, hb2⟩
  have HB2 := Lib.hid (HB1.out.trans (hb2.mono HB1.out.size))
  clear hb2
  go_wp2_with fail
  go_at_call 10
  refine (few_any _ (HBs.out.later HB2.out) HZb.out).mono ?_
  rw [fb]
  rintro e w3 ⟨rfl, hb3⟩
  have HB3 := Lib.hid (HB2.out.trans (hb3.mono HB2.out.size))
  clear hb3
  go_wp2_with fail
  go_at_call 14
  refine (HEa.out _ HB3.out).mono ?_
  rintro e w4 ⟨va, rfl, hb4, hoa⟩
  have HB4 := Lib.hid (HB3.out.trans (hb4.mono HB3.out.size))
  have HOa := Lib.hid hoa
  obtain ⟨Aa, ca, rfl⟩ := own_len hoa
  clear hb4 hoa
  go_wp2_with fail
  go_at_call 14
  refine (HEb.out _ HB4.out).mono ?_
  rintro e w5 ⟨vb, rfl, hb5, hob⟩
  have HB5 := Lib.hid (HB4.out.trans (hb5.mono HB4.out.size))
  have HOa5 := Lib.hid (HOa.out.later hb5)
  have HOb := Lib.hid hob
  obtain ⟨Ab, cb, rfl⟩ := own_len hob
  clear hb5 hob
  have hs5 := HB5.out.size
  obtain ⟨na, a1, a2, a3, a4⟩ := sts_news (HA.out.later HB5.out)
  obtain ⟨nb, b1, b2, b3, b4⟩ := sts_news (HBs.out.later HB5.out)
  have HZA := Lib.hid a1
  have HZB := Lib.hid b1
  have hown0 := own_new (B := w5.heap.size) (n := 0) (size := 8) (BoxAt.new w5 #[] 29) (Nat.le_refl _) rfl (by decide)
  have hal : Below w5.heap.size w5 (w5.alloc (.cells #[] 29)) := (Below.refl _ _).alloc (Nat.le_refl _) _
  have HAl := Lib.hid hal
  have hWs : (w5.alloc (.cells #[] 29)).heap.size = w5.heap.size + 1 := by simp
  clear hal
  go_wp2_with (at_builtin; refine wpList_append_spread _ rfl _ _ 22 rfl w5.heap.size 29 i0 (.agg #[.int .i64 0, .string ⟨#[]⟩, .string ⟨#[]⟩, .bool false, .slice none 0 0, .string ⟨#[]⟩, .string ⟨#[]⟩, .slice none 0 0]) 8 128 Tryd.underlying22 HInf.out hz0 hz1 hz2 rfl (by decide) (.slice (some ⟨w5.heap.size, 0, none⟩) 0 0) 0 _ rfl hown0 A a.length c na rfl a2 ?c1 a4 ?c3 ?c4 ?c5 ?_)
  case c1 =>
    intro h0
    obtain ⟨ad, e1, hc⟩ := a3 h0
    obtain ⟨bb, oo, e2, hbb, _⟩ := (HA.out.later HB5.out) h0
    rw [e2] at e1
    cases e1
    refine ⟨_, e2, fun j u hj => ?_⟩
    have := hc j u hj
    rw [addMid] at this ⊢
    exact (HAl.out.cell (p := ⟨bb, oo + j, none⟩) hbb).trans this
  case c3 => unfold maxLen; omega
  case c4 => omega
  case c5 => omega
  intro v6 w6 ho6 hg6 hw6
  have hg6b : Below w5.heap.size w5 w6 := HAl.out.grown hg6 (by omega) (fun k e => by have := Option.some.inj (show some w5.heap.size = some k from e); omega)
  have HG6 := Lib.hid hg6b
  have h66 := hg6b.size
  clear hg6 hw6 hown0 hg6b a3 a4
  go_wp2_with (at_builtin; refine wpList_append_spread _ rfl _ _ 22 rfl w5.heap.size 29 i0 (.agg #[.int .i64 0, .string ⟨#[]⟩, .string ⟨#[]⟩, .bool false, .slice none 0 0, .string ⟨#[]⟩, .string ⟨#[]⟩, .slice none 0 0]) 8 128 Tryd.underlying22 HInf.out hz0 hz1 hz2 rfl (by decide) v6 a.length _ rfl ho6 B b.length d nb rfl b2 ?d1 b4 ?d3 ?d4 ?d5 ?_)
  case d1 =>
    intro h0
    obtain ⟨ad, e1, hc⟩ := b3 h0
    obtain ⟨bb, oo, e2, hbb, _⟩ := (HBs.out.later HB5.out) h0
    rw [e2] at e1
    cases e1
    refine ⟨_, e2, fun j u hj => ?_⟩
    have := hc j u hj
    rw [addMid] at this ⊢
    exact (HG6.out.cell (p := ⟨bb, oo + j, none⟩) hbb).trans this
  case d3 => unfold maxLen; omega
  case d4 => omega
  case d5 => omega
  intro v7 w7 ho7 hg7 hw7
  have hg7b : Below w5.heap.size w5 w7 := HG6.out.grown hg7 h66 (fun k e => (World.ownsRow.lt ho6 k e).1)
  have HG7 := Lib.hid hg7b
  have hz7 := SZip.app a b na nb (SZip.carry (W' := w7) (F' := Old w7) (fun q hq => ⟨Nat.lt_of_lt_of_le hq hg7b.size, hg7b.block q hq⟩) _ _ HZA.out) (SZip.carry (W' := w7) (F' := Old w7) (fun q hq => ⟨Nat.lt_of_lt_of_le hq hg7b.size, hg7b.block q hq⟩) _ _ HZB.out)
  obtain ⟨A7, c7, e7, hl7⟩ := own_list ho7 (by rw [List.length_append]) hz7 (fun g e => (World.ownsRow.lt ho7 g e).2)
  rw [List.length_append] at e7
  subst e7
  have HB7 := Lib.hid (HB5.out.trans (hg7b.mono hs5))
  have HL7 := Lib.hid hl7
  have HOa7 := Lib.hid (HOa5.out.later hg7b)
  have HOb7 := Lib.hid (HOb.out.later hg7b)
  clear ho6 ho7 hg7 hw7 hg7b hz7 hl7 a1 a2 b1 b2 b3 b4
  go_wp2_with fail
  go_at_call 14
  refine (HEab.out _ _ _ HB7.out HL7.out).mono ?_
  rintro e w8 ⟨vz, rfl, hb8, hoz⟩
  have HB8 := Lib.hid (HB7.out.trans (hb8.mono HB7.out.size))
  obtain ⟨Az, cz, rfl⟩ := own_len hoz
  clear hb8 hoz
  generalize la.length = na' at *
  generalize lb.length = nb' at *
  rcases hor with rfl | ⟨rfl, rfl⟩
  · go_wp2
    go_ret
    exact ⟨rfl, HB8.out⟩
  · go_wp2
    go_ret
    exact ⟨rfl, HB8.out⟩
theorem lawJoins (a b : List ST) (A B : Option Addr) (c d : Nat) (w : World) (hE : Env w) (ha : StsIn w (Old w) a A) (hb : StsIn w (Old w) b B) (za : sumOf szS a ≤ 2000000) (zb : sumOf szS b ≤ 2000000) :
    Calls Tryd.prog 8 #[.slice A a.length c, .slice B b.length d] w fun e w' => e = .returned (.bool true) ∧ Below w.heap.size w w' := by
  cases fa : fewB a
  · exact joins_noa a b A B c d w hE ha hb za zb fa
  · cases fb : fewB b
    · exact joins_nob a b A B c d w hE ha hb za zb fa fb
    · cases r : (a.all rightS && b.all rightS)
      · exact joins_err a b A B c d w hE ha hb za zb fa fb r
      · rw [Bool.and_eq_true] at r
        exact joins_ok a b A B c d w hE ha hb za zb fa fb r.1 r.2
end Go.Proofs.YtnkijpjknbelfaaDoor
