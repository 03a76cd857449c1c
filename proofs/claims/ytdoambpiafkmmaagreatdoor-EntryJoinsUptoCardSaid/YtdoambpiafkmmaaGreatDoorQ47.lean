/-
  Several texts put together (part 47): what the law and the program call, walked; their contracts.
-/
import Derived.Test.YtdoambpiafkmmaaGreatDoorQ36
import Derived.Test.YtdoambpiafkmmaaGreatDoorQ45
import Derived.Test.YtdoambpiafkmmaaGreatDoorQ46
import Derived.Test.YtdoambpiafkmmaaGreatDoorQ20
import Derived.Test.YtdoambpiafkmmaaGreatDoorQ43
import Derived.IntWalk
namespace Go.Proofs.YtdoambpiafkmmaaGreatDoor
open Go.RowKit
set_option linter.unusedVariables false
set_option linter.unusedSimpArgs false
theorem ListF.later {W W' : World} {F : Nat → Prop} (hF : ∀ b, F b → b < W.heap.size) {l : List EN} {v : Value} (h : ListF W F l v) (g : Below W.heap.size W W') : ListF W' (fun b => b < W'.heap.size) l v :=
  LieAt.imp h (fun b o => NsF.carry (fun b hb => ⟨Nat.lt_of_lt_of_le (hF b hb) g.size, g.block b (hF b hb)⟩) l b o)
theorem ent_at {W0 : World} {l : List EN} {A : Option Addr} {c : Nat} (h : ListF W0 (fun b => b < W0.heap.size) l (.slice A l.length c)) {i : Nat} (hi : i < l.length) :
    ∃ b o, A = some ⟨b, o, none⟩ ∧ b < W0.heap.size ∧ ∃ (A0 : Option Addr) (c0 : Nat) (B0 : Option Addr) (d0 : Nat), PatAt W0 l[i].val (.slice A0 l[i].val.length c0) ∧ LieAt (TsAt W0 l[i].ats) (.slice B0 l[i].ats.length d0) l[i].ats.length ∧ ∀ W, Below W0.heap.size W0 W →
      W.cell? ⟨b, o + i * 8, none⟩ = some (.int .i64 l[i].ty) ∧ W.cell? ⟨b, o + i * 8 + 1, none⟩ = some (.int .i64 l[i].lv) ∧ W.cell? ⟨b, o + i * 8 + 2, none⟩ = some (.string l[i].tx) ∧ W.cell? ⟨b, o + i * 8 + 3, none⟩ = some (.string l[i].nm) ∧
      W.cell? ⟨b, o + i * 8 + 4, none⟩ = some (.slice A0 l[i].val.length c0) ∧ W.cell? ⟨b, o + i * 8 + 5, none⟩ = some (.slice B0 l[i].ats.length d0) ∧ W.cell? ⟨b, o + i * 8 + 6, none⟩ = some (.int .i64 l[i].fr) ∧ W.cell? ⟨b, o + i * 8 + 7, none⟩ = some (.int .i64 l[i].tu) := by
  obtain ⟨b, o, rfl, hn⟩ := list_at h (by omega)
  obtain ⟨hF, A0, c0, B0, d0, p0, p1, p2, p3, p4, p5, p6, p7, hpt, hat⟩ := hn.get i (List.getElem?_eq_getElem hi)
  refine ⟨b, o, rfl, hF, _, _, _, _, PatF.at_ (fun z hz => hz) hpt, AtsF.at_ (fun z hz => hz) hat, fun W hW => ?_⟩
  exact ⟨cell_below hW p0, cell_below hW p1, cell_below hW p2, cell_below hW p3, cell_below hW p4, cell_below hW p5, cell_below hW p6, cell_below hW p7⟩
theorem chain_sizes {s : ByteArray} (hs : Sn s) (hz : s.size ≤ 400) : (∀ x ∈ parseS s, x.nm.size ≤ 4000000 ∧ x.tx.size ≤ 4000000 ∧ sizeEs x.val + sizeTs x.ats ≤ 4000000) ∧ (parseS s).length ≤ 400 := by
  refine ⟨fun x hx => ?_, ?_⟩
  · obtain ⟨h1, h2⟩ := chain_read (parse_chain s) x hx
    have := read_may hs hz h1
    rw [h2] at this
    exact this.2
  · have := chain_len (Nat.zero_le _) (parse_chain s)
    omega
theorem sn_app {a b : ByteArray} (ha : Sn a) (hb : Sn b) : Sn (a ++ b) := by
  refine ⟨?_, fun c hc => ?_⟩
  · rw [ByteArray.data_append, Array.toList_append]
    exact valid_two ha.ok hb.ok
  · rw [ByteArray.data_append, Array.toList_append] at hc
    rcases List.mem_append.1 hc with hc | hc
    · exact ha.cr c hc
    · exact hb.cr c hc
set_option maxHeartbeats 64000000 in
set_option maxRecDepth 1000000 in
theorem lawEJoins (a b : ByteArray) (w : World) (hT : TabU w) (ha : a.size ≤ 2000000) (hb : b.size ≤ 2000000) : Calls Tryz.prog 6 #[.string a, .string b] w fun e w' => e = .returned (.bool true) ∧ Below w.heap.size w w' := by
  have H9 := Lib.hid (head09_any w)
  have hTa := fun W (h : Below w.heap.size w W) => text_any a W (hT.below h) (by omega)
  have hTb := fun W (h : Below w.heap.size w W) => text_any b W (hT.below h) (by omega)
  obtain ⟨ka, hka⟩ : ∃ k, textOk a = k := ⟨_, rfl⟩
  obtain ⟨kb, hkb⟩ : ∃ k, textOk b = k := ⟨_, rfl⟩
  rw [hka] at hTa
  rw [hkb] at hTb
  have HTa := Lib.hid hTa
  have HTb := Lib.hid hTb
  have HKa := Lib.hid hka
  have HKb := Lib.hid hkb
  clear hTa hTb hka hkb
  go_enter Tryz.func6, Tryz.ntmps6
  go_wp2_with fail
  go_at_call 14
  refine (H9.out).mono ?_
  rintro e w1 ⟨rfl, b1⟩
  have B1 := Lib.hid b1
  clear b1
  go_wp2_with fail
  go_at_call 9
  refine (HTa.out _ B1.out).mono ?_
  rintro e w2 ⟨rfl, b2⟩
  have B2 := Lib.hid (B1.out.trans (b2.mono B1.out.size))
  clear b2 B1
  cases ka
  case false =>
    go_wp2
    go_ret
    exact ⟨rfl, B2.out⟩
  go_wp2_with fail
  go_at_call 9
  refine (HTb.out _ B2.out).mono ?_
  rintro e w3 ⟨rfl, b3⟩
  have B3 := Lib.hid (B2.out.trans (b3.mono B2.out.size))
  clear b3 B2
  cases kb
  case false =>
    go_wp2
    go_ret
    exact ⟨rfl, B3.out⟩
  have za : a.size ≤ 400 := by
    have := HKa.out
    unfold textOk at this
    rw [Bool.and_eq_true, decide_eq_true_iff] at this
    exact this.2
  have zb : b.size ≤ 400 := by
    have := HKb.out
    unfold textOk at this
    rw [Bool.and_eq_true, decide_eq_true_iff] at this
    exact this.2
  by_cases hlen : 300 < a.size + b.size
  · have q1 : decide ((300 : Int) < (a.size : Int) + (b.size : Int)) = true := decide_eq_true (by omega)
    have q2 : (300 : Int) < (a.size : Int) + (b.size : Int) := by omega
    go_wp2
    go_ret
    exact ⟨rfl, B3.out⟩
  have q1 : decide ((300 : Int) < (a.size : Int) + (b.size : Int)) = false := decide_eq_false (by omega)
  have q2 : ¬ (300 : Int) < (a.size : Int) + (b.size : Int) := by omega
  have q3 : (a.size : Int) + (b.size : Int) ≤ 300 := by omega
  obtain ⟨u, hu⟩ : ∃ u, a ++ ⟨#[10, 10]⟩ = u := ⟨_, rfl⟩
  obtain ⟨t, ht⟩ : ∃ t, ⟨#[120, 32, 61, 32, 49, 10]⟩ ++ b = t := ⟨_, rfl⟩
  obtain ⟨s, hs⟩ : ∃ s, a ++ ⟨#[10, 10, 120, 32, 61, 32, 49, 10]⟩ ++ b = s := ⟨_, rfl⟩
  have zu : u.size = a.size + 2 := by rw [← hu, ByteArray.size_append]; rfl
  have zt : t.size = 6 + b.size := by rw [← ht, ByteArray.size_append]; rfl
  have hus : s = u ++ t := by
    rw [← hs, ← hu, ← ht]
    apply bytes_eq
    simp
  have zs : s.size = u.size + t.size := by rw [hus, ByteArray.size_append]
  have sa := Sn.of HKa.out
  have sb := Sn.of HKb.out
  have su : Sn u := by rw [← hu]; exact sn_app sa ⟨by kernel_rfl, by decide⟩
  have st : Sn t := by rw [← ht]; exact sn_app ⟨by kernel_rfl, by decide⟩ sb
  have ss : Sn s := by rw [hus]; exact sn_app su st
  have l1 : at0 u.data.toList (u.size - 1) = 10 := by
    have e : u.data.toList = a.data.toList ++ [10, 10] := by rw [← hu]; simp
    rw [e]
    unfold at0
    rw [List.getD_eq_getElem?_getD, List.getElem?_append_right (by rw [size_data]; omega), size_data, show u.size - 1 - a.size = 1 by omega]
    rfl
  have l2 : at0 u.data.toList (u.size - 2) = 10 := by
    have e : u.data.toList = a.data.toList ++ [10, 10] := by rw [← hu]; simp
    rw [e]
    unfold at0
    rw [List.getD_eq_getElem?_getD, List.getElem?_append_right (by rw [size_data]; omega), size_data, show u.size - 2 - a.size = 0 by omega]
    rfl
  have lx : at0 t.data.toList 0 = 120 := by
    have e : t.data.toList = [120, 32, 61, 32, 49, 10] ++ b.data.toList := by rw [← ht]; simp
    rw [e]
    rfl
  have hj := parse_joins su (by omega) l1 l2 (T := t) (by omega) lx
  rw [← hus] at hj
  have c1 := chain_sizes su (by omega)
  have c2 := chain_sizes st (by omega)
  have c3 := chain_sizes ss (by omega)
  have hP1 := fun W => parse_call (pat_calls (s := u) (by omega)) (by omega) W
  have hP2 := fun W => parse_call (pat_calls (s := t) (by omega)) (by omega) W
  have hP3 := fun W => parse_call (pat_calls (s := s) (by omega)) (by omega) W
  obtain ⟨m1, hm1⟩ : ∃ l, parseS u = l := ⟨_, rfl⟩
  obtain ⟨m2, hm2⟩ : ∃ l, parseS t = l := ⟨_, rfl⟩
  obtain ⟨m3, hm3⟩ : ∃ l, parseS s = l := ⟨_, rfl⟩
  rw [hm1] at hj c1 hP1
  rw [hm2] at hj c2 hP2
  rw [hm3] at hj c3 hP3
  have HJ := Lib.hid hj
  have C1 := Lib.hid c1.1
  have C2 := Lib.hid c2.1
  have k1 : (m1.length : Int) ≤ 400 := by have := c1.2; omega
  have k2 : (m2.length : Int) ≤ 400 := by have := c2.2; omega
  have k3 : (m3.length : Int) ≤ 400 := by have := c3.2; omega
  have HP1 := Lib.hid hP1
  have HP2 := Lib.hid hP2
  have HP3 := Lib.hid hP3
  obtain ⟨n, hn⟩ : ∃ n, u.size = n := ⟨_, rfl⟩
  rw [hn] at HJ
  clear hj c1 c2 c3 hP1 hP2 hP3 hm1 hm2 hm3 su st ss sa sb l1 l2 lx hus zs zu zt hn
  have n1 : ¬ 9223372036854775807 < a.size + 2 := by omega
  have n2 : ¬ 9223372036854775807 < 6 + b.size := by omega
  have n3 : ¬ 9223372036854775807 < a.size + 8 := by omega
  have n4 : (a ++ ⟨#[10, 10, 120, 32, 61, 32, 49, 10]⟩ : ByteArray).size ≤ 1000 := by rw [ByteArray.size_append]; show a.size + 8 ≤ 1000; omega
  go_wp2_with fail
  go_at_call 15
  try rw [hu]
  refine (HP1.out _).mono ?_
  rintro e w4 ⟨b4, A1, d1, rfl, hl1⟩
  have B4 := Lib.hid (B3.out.trans (b4.mono B3.out.size))
  have L1 := Lib.hid hl1
  clear b4 hl1
  go_wp2_with fail
  go_at_call 15
  try rw [ht]
  refine (HP2.out _).mono ?_
  rintro e w5 ⟨b5, A2, d2, rfl, hl2⟩
  have B5 := Lib.hid (B4.out.trans (b5.mono B4.out.size))
  have L15 := Lib.hid (ListF.later (fun b hb => hb.2) L1.out b5)
  have L2 := Lib.hid hl2
  clear b5 hl2 L1
  go_wp2
  go_loopw [38] (fun t38 wr => ∃ i : Nat, t38 = .int .i64 i ∧ i ≤ m1.length ∧ Hid (∀ x ∈ m1.take i, x.ty ≠ 3) ∧ Hid (Below w5.heap.size w5 wr)) (fun t38 _ => m1.length - (intOf t38).toNat)
  case atStart => exact ⟨0, rfl, Nat.zero_le _, Lib.hid (fun x hx => by simp at hx), Below.refl _ _⟩
  case round =>
    obtain ⟨i, rfl, hi, HN, HB⟩ := hrel
    have hi0 : (i : Int) ≤ 400 := by omega
    by_cases hlt : i < m1.length
    · have d1' : decide ((i : Int) < (m1.length : Int)) = true := decide_eq_true (by omega)
      have d2' : (i : Int) < (m1.length : Int) := by omega
      obtain ⟨bb, oo, rfl, hbb, A0, c0, B0, d0, _, _, hcell⟩ := ent_at L15.out hlt
      obtain ⟨e0, e1, e2, e3, e4, e5, e6, e7⟩ := hcell wr HB.out
      obtain ⟨x, hx⟩ : ∃ x, m1[i] = x := ⟨_, rfl⟩
      rw [hx] at e0 e1 e2 e3 e4 e5 e6 e7
      have hsz := HB.out.size
      by_cases hty : x.ty = 3
      · have h3 : (x.ty == 3) = true := beq_iff_eq.2 hty
        clear hcell hx
        as_aux_lemma =>
          go_wp2
          go_ret
          exact ⟨rfl, (B5.out.trans (HB.out.mono B5.out.size)).alloc (by have := B5.out.size; omega) _⟩
      · have h3 : (x.ty == 3) = false := beq_eq_false_iff_ne.2 hty
        have hN2 : ∀ y ∈ m1.take (i + 1), y.ty ≠ 3 := by
          intro y hy
          rw [List.take_succ_eq_append_getElem hlt] at hy
          rcases List.mem_append.1 hy with hy | hy
          · exact HN.out y hy
          · rw [List.mem_singleton, hx] at hy
            rw [hy]
            exact hty
        have HN2 := Lib.hid hN2
        clear hcell hx hN2 hty
        as_aux_lemma =>
          go_wp2
          go_roundw
          case rel => exact ⟨i + 1, by go_num, hlt, HN2, HB.out.alloc hsz _⟩
          case measure => simp [intOf]; omega
    have d1' : decide ((i : Int) < (m1.length : Int)) = false := decide_eq_false (by omega)
    have d2' : ¬ (i : Int) < (m1.length : Int) := by omega
    have hj := HJ.out (by have := HN.out; rw [List.take_of_length_le (by omega)] at this; exact this)
    have B6 := Lib.hid (B5.out.trans (HB.out.mono B5.out.size))
    have L1r := Lib.hid (ListF.later (fun b hb => hb) L15.out HB.out)
    have L2r := Lib.hid (ListF.later (fun b hb => hb.2) L2.out HB.out)
    clear L15 L2 HB HN HJ B5
    go_wp2_with fail
    go_at_call 15
    try rw [hs]
    refine (HP3.out _).mono ?_
    rintro e w6 ⟨b6, A3, d3, rfl, hl3⟩
    have B7 := Lib.hid (B6.out.trans (b6.mono B6.out.size))
    have L1s := Lib.hid (ListF.later (fun b hb => hb) L1r.out b6)
    have L2s := Lib.hid (ListF.later (fun b hb => hb) L2r.out b6)
    have L3s := Lib.hid (LieAt.imp hl3 (fun b o => NsF.carry (F' := fun b => b < w6.heap.size) (fun b hb => ⟨hb.2, rfl⟩) m3 b o))
    have hlen3 : m3.length = m1.length + m2.length := by rw [hj, List.length_append, List.length_map]
    have x1 : ((m3.length : Int) != (m1.length : Int) + (m2.length : Int)) = false := by rw [bne_eq_false_iff_eq]; omega
    have HJ2 := Lib.hid hj
    clear b6 hl3 L1r L2r B6 hj hi d1' d2'
    go_wp2
    go_loopw [61] (fun t61 wr => ∃ i : Nat, t61 = .int .i64 i ∧ i ≤ m3.length ∧ Hid (Below w6.heap.size w6 wr)) (fun t61 _ => m3.length - (intOf t61).toNat)
    case atStart => exact ⟨0, rfl, Nat.zero_le _, Below.refl _ _⟩
    case round =>
      obtain ⟨i, rfl, hi, HB⟩ := hrel
      have hi0 : (i : Int) ≤ 400 := by omega
      by_cases hlt : i < m3.length
      · have d1' : decide ((i : Int) < (m3.length : Int)) = true := decide_eq_true (by omega)
        have d2' : (i : Int) < (m3.length : Int) := by omega
        obtain ⟨b3, o3, rfl, hb3, A0, c0, B0, d0, pV3, pU3, hcell3⟩ := ent_at L3s.out hlt
        obtain ⟨e0, e1, e2, e3, e4, e5, e6, e7⟩ := hcell3 wr HB.out
        obtain ⟨x, hx⟩ : ∃ x, m3[i] = x := ⟨_, rfl⟩
        rw [hx] at e0 e1 e2 e3 e4 e5 e6 e7 pV3 pU3
        have hsz := HB.out.size
        obtain ⟨FR, hFR⟩ : ∃ q : Int, (x.fr : Int) = q := ⟨_, rfl⟩
        obtain ⟨TU, hTU⟩ : ∃ q : Int, (x.tu : Int) = q := ⟨_, rfl⟩
        rw [hFR] at e6
        rw [hTU] at e7
        have ho := fun W (hW : Below w6.heap.size w6 W) => hcell3 W hW
        clear hcell3 hFR hTU ho
        go_upto_region 19 with fail
        go_cut [96] (fun v wx => v = .bool false ∧ Hid (Below w6.heap.size w6 wx))
        case first =>
          by_cases hi1 : i < m1.length
          case pos =>
            as_aux_lemma =>
              have i1 : decide ((i : Int) < (m1.length : Int)) = true := decide_eq_true (by omega)
              have i2 : (i : Int) < (m1.length : Int) := by omega
              have i3 : decide ((m1.length : Int) ≤ (i : Int)) = false := decide_eq_false (by omega)
              have i4 : ¬ (m1.length : Int) ≤ (i : Int) := by omega
              have i5 : (0 : Int) ≤ (i : Int) := by omega
              have i6 : decide (m1.length ≤ i) = false := decide_eq_false (by omega)
              have i7 : ¬ m1.length ≤ i := by omega
              have i8 : decide (i < m1.length) = true := decide_eq_true hi1
              obtain ⟨b1, o1, rfl, hb1', A9, c9, B9, d9, pV1, pU1, hcell1⟩ := ent_at L1s.out hi1
              have hxy : m1[i] = x := by rw [← hx]; simp only [HJ2.out]; rw [List.getElem_append_left hi1]
              rw [hxy] at hcell1 pV1 pU1
              have hC := C1.out x (by rw [← hxy]; exact List.getElem_mem hi1)
              have hSE := fun W (hW : Below w6.heap.size w6 W) => entry_same x.ty x.lv x.tx x.nm x.val x.ats FR TU x.fr x.tu pV3 pV1 pU3 pU1 (by omega) (by omega) W hW
              unfold entV at hSE
              have HSE := Lib.hid hSE
              have HCo := Lib.hid hcell1
              clear hSE hcell1 pV3 pU3 pV1 pU1 hC hxy hx e0 e1 e2 e3 e4 e5 e6 e7 hb1' HJ2 C1 C2 L1s L2s L3s
              refine wp_region_held_drew (S := fun W => BoxAt W wr.heap.size #[.int .i64 x.ty, .int .i64 x.lv, .string x.tx, .string x.nm, .slice A0 x.val.length c0, .slice B0 x.ats.length d0, .int .i64 FR, .int .i64 TU] 45 ∧ Below w6.heap.size w6 W) (by kernel_rfl) ⟨BoxAt.new wr #[.int .i64 x.ty, .int .i64 x.lv, .string x.tx, .string x.nm, .slice A0 x.val.length c0, .slice B0 x.ats.length d0, .int .i64 FR, .int .i64 TU] 45, (HB.out.alloc hsz _).drew⟩ (fun hHeld => ?_)
              refine wpAnyH_take (i := 0) (oi := { dst := some 66, op := Op.move (Operand.tmp 10), type := 3, pos := "law.go:270", after := #[], guard := none }) (v := ?_) rfl (by kernel_rfl) (by kernel_rfl) (by kernel_rfl) (fun _ _ _ h => h) (Or.inl ⟨by kernel_rfl, ?_⟩) (by assumption) ?_
              rotate_left
              · intro w0 hSw
                (go_simp <;> with_reducible rfl)
              try simp only [Act.put, List.setIfInBounds_toArray, List.set_cons_zero, List.set_cons_succ]
              refine wpAnyH_take (i := 1) (oi := { dst := some 67, op := Op.move (Operand.tmp 5), type := 39, pos := "law.go:270", after := #[], guard := none }) (v := ?_) rfl (by kernel_rfl) (by kernel_rfl) (by kernel_rfl) (fun _ _ _ h => h) (Or.inl ⟨by kernel_rfl, ?_⟩) (by assumption) ?_
              rotate_left
              · intro w0 hSw
                (go_simp <;> with_reducible rfl)
              try simp only [Act.put, List.setIfInBounds_toArray, List.set_cons_zero, List.set_cons_succ]
              refine wpAnyH_take (i := 2) (oi := { dst := some 68, op := Op.call { callee := Callee.builtin Builtin.len, args := #[Operand.tmp 67], argTypes := #[39] }, type := 3, pos := "law.go:270", after := #[{ on := 1, ground := Ground.data }], guard := none }) (v := ?_) rfl (by kernel_rfl) (by kernel_rfl) (by kernel_rfl) (fun _ _ _ h => h) (Or.inl ⟨by kernel_rfl, ?_⟩) (by assumption) ?_
              rotate_left
              · intro w0 hSw
                (go_simp <;> with_reducible rfl)
              try simp only [Act.put, List.setIfInBounds_toArray, List.set_cons_zero, List.set_cons_succ]
              refine wpAnyH_take (i := 3) (oi := { dst := some 69, op := Op.binOp BinOp.lss 3 (Operand.tmp 66) (Operand.tmp 68) 3, type := 4, pos := "law.go:270", after := #[{ on := 0, ground := Ground.data }, { on := 2, ground := Ground.data }], guard := none }) (v := ?_) rfl (by kernel_rfl) (by kernel_rfl) (by kernel_rfl) (fun _ _ _ h => h) (Or.inl ⟨by kernel_rfl, ?_⟩) (by assumption) ?_
              rotate_left
              · intro w0 hSw
                (go_simp <;> with_reducible rfl)
              try simp only [Act.put, List.setIfInBounds_toArray, List.set_cons_zero, List.set_cons_succ]
              refine wpAnyH_take (i := 4) (oi := { dst := some 70, op := Op.move (Operand.tmp 69), type := 4, pos := "law.go:270", after := #[{ on := 3, ground := Ground.data }], guard := none }) (v := ?_) rfl (by kernel_rfl) (by kernel_rfl) (by kernel_rfl) (fun _ _ _ h => h) (Or.inl ⟨by kernel_rfl, ?_⟩) (by assumption) ?_
              rotate_left
              · intro w0 hSw
                (go_simp <;> with_reducible rfl)
              try simp only [Act.put, List.setIfInBounds_toArray, List.set_cons_zero, List.set_cons_succ]
              refine wpAnyH_take (i := 5) (oi := { dst := some 71, op := Op.load 45 (Operand.tmp 11), type := 45, pos := "law.go:270", after := #[{ on := 4, ground := Ground.guard }], guard := some (4, true) }) (v := ?_) rfl (by kernel_rfl) (by kernel_rfl) (by kernel_rfl) (fun _ _ _ h => h) (Or.inl ⟨by kernel_rfl, ?_⟩) (by assumption) ?_
              rotate_left
              · intro w0 hSw
                have t0 : w0.cell? ⟨wr.heap.size, 0, none⟩ = some (.int .i64 x.ty) := hSw.1.cell 0
                have t1 : w0.cell? ⟨wr.heap.size, 1, none⟩ = some (.int .i64 x.lv) := hSw.1.cell 1
                have t2 : w0.cell? ⟨wr.heap.size, 2, none⟩ = some (.string x.tx) := hSw.1.cell 2
                have t3 : w0.cell? ⟨wr.heap.size, 3, none⟩ = some (.string x.nm) := hSw.1.cell 3
                have t4 : w0.cell? ⟨wr.heap.size, 4, none⟩ = some (.slice A0 x.val.length c0) := hSw.1.cell 4
                have t5 : w0.cell? ⟨wr.heap.size, 5, none⟩ = some (.slice B0 x.ats.length d0) := hSw.1.cell 5
                have t6 : w0.cell? ⟨wr.heap.size, 6, none⟩ = some (.int .i64 FR) := hSw.1.cell 6
                have t7 : w0.cell? ⟨wr.heap.size, 7, none⟩ = some (.int .i64 TU) := hSw.1.cell 7
                (go_simp <;> with_reducible rfl)
              try simp only [Act.put, List.setIfInBounds_toArray, List.set_cons_zero, List.set_cons_succ]
              refine wpAnyH_take (i := 6) (oi := { dst := some 72, op := Op.move (Operand.tmp 5), type := 39, pos := "law.go:270", after := #[{ on := 4, ground := Ground.guard }], guard := some (4, true) }) (v := ?_) rfl (by kernel_rfl) (by kernel_rfl) (by kernel_rfl) (fun _ _ _ h => h) (Or.inl ⟨by kernel_rfl, ?_⟩) (by assumption) ?_
              rotate_left
              · intro w0 hSw
                (go_simp <;> with_reducible rfl)
              try simp only [Act.put, List.setIfInBounds_toArray, List.set_cons_zero, List.set_cons_succ]
              refine wpAnyH_take (i := 7) (oi := { dst := some 73, op := Op.move (Operand.tmp 10), type := 3, pos := "law.go:270", after := #[{ on := 4, ground := Ground.guard }], guard := some (4, true) }) (v := ?_) rfl (by kernel_rfl) (by kernel_rfl) (by kernel_rfl) (fun _ _ _ h => h) (Or.inl ⟨by kernel_rfl, ?_⟩) (by assumption) ?_
              rotate_left
              · intro w0 hSw
                (go_simp <;> with_reducible rfl)
              try simp only [Act.put, List.setIfInBounds_toArray, List.set_cons_zero, List.set_cons_succ]
              refine wpAnyH_take (i := 8) (oi := { dst := some 74, op := Op.indexAddr 39 (Operand.tmp 72) (Operand.tmp 73), type := 0, pos := "law.go:270", after := #[{ on := 6, ground := Ground.data }, { on := 7, ground := Ground.data }, { on := 4, ground := Ground.guard }], guard := some (4, true) }) (v := ?_) rfl (by kernel_rfl) (by kernel_rfl) (by kernel_rfl) (fun _ _ _ h => h) (Or.inl ⟨by kernel_rfl, ?_⟩) (by assumption) ?_
              rotate_left
              · intro w0 hSw
                (go_simp <;> with_reducible rfl)
              try simp only [Act.put, List.setIfInBounds_toArray, List.set_cons_zero, List.set_cons_succ]
              refine wpAnyH_take (i := 9) (oi := { dst := some 75, op := Op.load 45 (Operand.tmp 74), type := 45, pos := "law.go:270", after := #[{ on := 8, ground := Ground.data }, { on := 4, ground := Ground.guard }], guard := some (4, true) }) (v := ?_) rfl (by kernel_rfl) (by kernel_rfl) (by kernel_rfl) (fun _ _ _ h => h) (Or.inl ⟨by kernel_rfl, ?_⟩) (by assumption) ?_
              rotate_left
              · intro w0 hSw
                obtain ⟨f0, f1, f2, f3, f4, f5, f6, f7⟩ := HCo.out w0 hSw.2
                (go_simp <;> with_reducible rfl)
              try simp only [Act.put, List.setIfInBounds_toArray, List.set_cons_zero, List.set_cons_succ]
              refine wpAnyH_ready (rs := [10]) (by kernel_rfl) (by simp) ?_
              refine AllReadyH.cons (o := { dst := some 76, op := Op.call { callee := Callee.value (Operand.func 17), args := #[Operand.tmp 71, Operand.tmp 75], argTypes := #[45, 45] }, type := 4, pos := "law.go:270", after := #[{ on := 5, ground := Ground.data }, { on := 9, ground := Ground.data }, { on := 4, ground := Ground.chain }, { on := 4, ground := Ground.guard }], guard := some (4, true) }) rfl (fun K hK => ?_) AllReadyH.nil
              go_simp
              go_at_call 17
              refine (HSE.out _ hHeld.2).mono ?_
              rintro e x1 ⟨rfl, hb1⟩
              go_wp2_with fail
              refine hK.out _ _ (⟨hHeld.1.later hb1, hHeld.2.trans (hb1.mono hHeld.2.size)⟩) (fun hHeld2 => ?_)
              clear hHeld hK K
              have hHeld := hHeld2
              clear hHeld2
              try simp only [Act.put, List.setIfInBounds_toArray, List.set_cons_zero, List.set_cons_succ]
              refine wpAnyH_take (i := 11) (oi := { dst := some 77, op := Op.unOp UnOp.not 4 (Operand.tmp 76), type := 4, pos := "law.go:270", after := #[{ on := 10, ground := Ground.data }, { on := 4, ground := Ground.guard }], guard := some (4, true) }) (v := ?_) rfl (by kernel_rfl) (by kernel_rfl) (by kernel_rfl) (fun _ _ _ h => h) (Or.inl ⟨by kernel_rfl, ?_⟩) (by assumption) ?_
              rotate_left
              · intro w0 hSw
                (go_simp <;> with_reducible rfl)
              try simp only [Act.put, List.setIfInBounds_toArray, List.set_cons_zero, List.set_cons_succ]
              refine wpAnyH_take (i := 12) (oi := { dst := some 78, op := Op.pick (Operand.tmp 70) (Operand.tmp 77) (Operand.const (Value.bool false)), type := 4, pos := "law.go:270", after := #[{ on := 4, ground := Ground.data }, { on := 11, ground := Ground.data }], guard := none }) (v := ?_) rfl (by kernel_rfl) (by kernel_rfl) (by kernel_rfl) (fun _ _ _ h => h) (Or.inl ⟨by kernel_rfl, ?_⟩) (by assumption) ?_
              rotate_left
              · intro w0 hSw
                (go_simp <;> with_reducible rfl)
              try simp only [Act.put, List.setIfInBounds_toArray, List.set_cons_zero, List.set_cons_succ]
              refine wpAnyH_take (i := 13) (oi := { dst := some 79, op := Op.move (Operand.tmp 78), type := 4, pos := "law.go:270", after := #[{ on := 12, ground := Ground.data }, { on := 10, ground := Ground.chain }], guard := none }) (v := ?_) rfl (by kernel_rfl) (by kernel_rfl) (by kernel_rfl) (fun _ _ _ h => h) (Or.inl ⟨by kernel_rfl, ?_⟩) (by assumption) ?_
              rotate_left
              · intro w0 hSw
                (go_simp <;> with_reducible rfl)
              try simp only [Act.put, List.setIfInBounds_toArray, List.set_cons_zero, List.set_cons_succ]
              refine wpAnyH_take (i := 14) (oi := { dst := some 80, op := Op.move (Operand.tmp 10), type := 3, pos := "law.go:270", after := #[{ on := 13, ground := Ground.guard }], guard := some (13, false) }) (v := ?_) rfl (by kernel_rfl) (by kernel_rfl) (by kernel_rfl) (fun _ _ _ h => h) (Or.inl ⟨by kernel_rfl, ?_⟩) (by assumption) ?_
              rotate_left
              · intro w0 hSw
                (go_simp <;> with_reducible rfl)
              try simp only [Act.put, List.setIfInBounds_toArray, List.set_cons_zero, List.set_cons_succ]
              refine wpAnyH_take (i := 15) (oi := { dst := some 81, op := Op.move (Operand.tmp 5), type := 39, pos := "law.go:270", after := #[{ on := 13, ground := Ground.guard }], guard := some (13, false) }) (v := ?_) rfl (by kernel_rfl) (by kernel_rfl) (by kernel_rfl) (fun _ _ _ h => h) (Or.inl ⟨by kernel_rfl, ?_⟩) (by assumption) ?_
              rotate_left
              · intro w0 hSw
                (go_simp <;> with_reducible rfl)
              try simp only [Act.put, List.setIfInBounds_toArray, List.set_cons_zero, List.set_cons_succ]
              refine wpAnyH_take (i := 16) (oi := { dst := some 82, op := Op.call { callee := Callee.builtin Builtin.len, args := #[Operand.tmp 81], argTypes := #[39] }, type := 3, pos := "law.go:270", after := #[{ on := 15, ground := Ground.data }, { on := 13, ground := Ground.guard }], guard := some (13, false) }) (v := ?_) rfl (by kernel_rfl) (by kernel_rfl) (by kernel_rfl) (fun _ _ _ h => h) (Or.inl ⟨by kernel_rfl, ?_⟩) (by assumption) ?_
              rotate_left
              · intro w0 hSw
                (go_simp <;> with_reducible rfl)
              try simp only [Act.put, List.setIfInBounds_toArray, List.set_cons_zero, List.set_cons_succ]
              refine wpAnyH_take (i := 17) (oi := { dst := some 83, op := Op.binOp BinOp.geq 3 (Operand.tmp 80) (Operand.tmp 82) 3, type := 4, pos := "law.go:270", after := #[{ on := 14, ground := Ground.data }, { on := 16, ground := Ground.data }, { on := 13, ground := Ground.guard }], guard := some (13, false) }) (v := ?_) rfl (by kernel_rfl) (by kernel_rfl) (by kernel_rfl) (fun _ _ _ h => h) (Or.inl ⟨by kernel_rfl, ?_⟩) (by assumption) ?_
              rotate_left
              · intro w0 hSw
                (go_simp <;> with_reducible rfl)
              try simp only [Act.put, List.setIfInBounds_toArray, List.set_cons_zero, List.set_cons_succ]
              refine wpAnyH_take (i := 18) (oi := { dst := some 84, op := Op.move (Operand.tmp 83), type := 4, pos := "law.go:270", after := #[{ on := 17, ground := Ground.data }, { on := 13, ground := Ground.chain }, { on := 13, ground := Ground.guard }], guard := some (13, false) }) (v := ?_) rfl (by kernel_rfl) (by kernel_rfl) (by kernel_rfl) (fun _ _ _ h => h) (Or.inl ⟨by kernel_rfl, ?_⟩) (by assumption) ?_
              rotate_left
              · intro w0 hSw
                (go_simp <;> with_reducible rfl)
              try simp only [Act.put, List.setIfInBounds_toArray, List.set_cons_zero, List.set_cons_succ]
              refine wpAnyH_take (i := 19) (oi := { dst := some 85, op := Op.load 45 (Operand.tmp 11), type := 45, pos := "law.go:270", after := #[{ on := 18, ground := Ground.guard }], guard := some (18, true) }) (v := undef) rfl (by kernel_rfl) (by kernel_rfl) (by kernel_rfl) (fun _ _ _ h => h) (Or.inr ⟨by kernel_rfl, rfl⟩) (by assumption) ?_
              try simp only [Act.put, List.setIfInBounds_toArray, List.set_cons_zero, List.set_cons_succ]
              refine wpAnyH_take (i := 20) (oi := { dst := some 86, op := Op.move (Operand.tmp 6), type := 39, pos := "law.go:270", after := #[{ on := 18, ground := Ground.guard }], guard := some (18, true) }) (v := undef) rfl (by kernel_rfl) (by kernel_rfl) (by kernel_rfl) (fun _ _ _ h => h) (Or.inr ⟨by kernel_rfl, rfl⟩) (by assumption) ?_
              try simp only [Act.put, List.setIfInBounds_toArray, List.set_cons_zero, List.set_cons_succ]
              refine wpAnyH_take (i := 21) (oi := { dst := some 87, op := Op.move (Operand.tmp 10), type := 3, pos := "law.go:270", after := #[{ on := 18, ground := Ground.guard }], guard := some (18, true) }) (v := undef) rfl (by kernel_rfl) (by kernel_rfl) (by kernel_rfl) (fun _ _ _ h => h) (Or.inr ⟨by kernel_rfl, rfl⟩) (by assumption) ?_
              try simp only [Act.put, List.setIfInBounds_toArray, List.set_cons_zero, List.set_cons_succ]
              refine wpAnyH_take (i := 22) (oi := { dst := some 88, op := Op.move (Operand.tmp 5), type := 39, pos := "law.go:270", after := #[{ on := 18, ground := Ground.guard }], guard := some (18, true) }) (v := undef) rfl (by kernel_rfl) (by kernel_rfl) (by kernel_rfl) (fun _ _ _ h => h) (Or.inr ⟨by kernel_rfl, rfl⟩) (by assumption) ?_
              try simp only [Act.put, List.setIfInBounds_toArray, List.set_cons_zero, List.set_cons_succ]
              refine wpAnyH_take (i := 23) (oi := { dst := some 89, op := Op.call { callee := Callee.builtin Builtin.len, args := #[Operand.tmp 88], argTypes := #[39] }, type := 3, pos := "law.go:270", after := #[{ on := 22, ground := Ground.data }, { on := 18, ground := Ground.guard }], guard := some (18, true) }) (v := undef) rfl (by kernel_rfl) (by kernel_rfl) (by kernel_rfl) (fun _ _ _ h => h) (Or.inr ⟨by kernel_rfl, rfl⟩) (by assumption) ?_
              try simp only [Act.put, List.setIfInBounds_toArray, List.set_cons_zero, List.set_cons_succ]
              refine wpAnyH_take (i := 24) (oi := { dst := some 90, op := Op.binOp BinOp.sub 3 (Operand.tmp 87) (Operand.tmp 89) 3, type := 3, pos := "law.go:270", after := #[{ on := 21, ground := Ground.data }, { on := 23, ground := Ground.data }, { on := 18, ground := Ground.guard }], guard := some (18, true) }) (v := undef) rfl (by kernel_rfl) (by kernel_rfl) (by kernel_rfl) (fun _ _ _ h => h) (Or.inr ⟨by kernel_rfl, rfl⟩) (by assumption) ?_
              try simp only [Act.put, List.setIfInBounds_toArray, List.set_cons_zero, List.set_cons_succ]
              refine wpAnyH_take (i := 25) (oi := { dst := some 91, op := Op.indexAddr 39 (Operand.tmp 86) (Operand.tmp 90), type := 0, pos := "law.go:270", after := #[{ on := 20, ground := Ground.data }, { on := 24, ground := Ground.data }, { on := 18, ground := Ground.guard }], guard := some (18, true) }) (v := undef) rfl (by kernel_rfl) (by kernel_rfl) (by kernel_rfl) (fun _ _ _ h => h) (Or.inr ⟨by kernel_rfl, rfl⟩) (by assumption) ?_
              try simp only [Act.put, List.setIfInBounds_toArray, List.set_cons_zero, List.set_cons_succ]
              refine wpAnyH_take (i := 26) (oi := { dst := some 92, op := Op.load 45 (Operand.tmp 91), type := 45, pos := "law.go:270", after := #[{ on := 25, ground := Ground.data }, { on := 18, ground := Ground.guard }], guard := some (18, true) }) (v := undef) rfl (by kernel_rfl) (by kernel_rfl) (by kernel_rfl) (fun _ _ _ h => h) (Or.inr ⟨by kernel_rfl, rfl⟩) (by assumption) ?_
              try simp only [Act.put, List.setIfInBounds_toArray, List.set_cons_zero, List.set_cons_succ]
              refine wpAnyH_take (i := 27) (oi := { dst := some 93, op := Op.call { callee := Callee.value (Operand.func 17), args := #[Operand.tmp 85, Operand.tmp 92], argTypes := #[45, 45] }, type := 4, pos := "law.go:270", after := #[{ on := 19, ground := Ground.data }, { on := 26, ground := Ground.data }, { on := 18, ground := Ground.chain }, { on := 18, ground := Ground.guard }], guard := some (18, true) }) (v := undef) rfl (by kernel_rfl) (by kernel_rfl) (by kernel_rfl) (fun _ _ _ h => h) (Or.inr ⟨by kernel_rfl, rfl⟩) (by assumption) ?_
              try simp only [Act.put, List.setIfInBounds_toArray, List.set_cons_zero, List.set_cons_succ]
              refine wpAnyH_take (i := 28) (oi := { dst := some 94, op := Op.unOp UnOp.not 4 (Operand.tmp 93), type := 4, pos := "law.go:270", after := #[{ on := 27, ground := Ground.data }, { on := 18, ground := Ground.guard }], guard := some (18, true) }) (v := undef) rfl (by kernel_rfl) (by kernel_rfl) (by kernel_rfl) (fun _ _ _ h => h) (Or.inr ⟨by kernel_rfl, rfl⟩) (by assumption) ?_
              try simp only [Act.put, List.setIfInBounds_toArray, List.set_cons_zero, List.set_cons_succ]
              refine wpAnyH_take (i := 29) (oi := { dst := some 95, op := Op.pick (Operand.tmp 84) (Operand.tmp 94) (Operand.const (Value.bool false)), type := 4, pos := "law.go:270", after := #[{ on := 18, ground := Ground.data }, { on := 28, ground := Ground.data }, { on := 13, ground := Ground.guard }], guard := some (13, false) }) (v := ?_) rfl (by kernel_rfl) (by kernel_rfl) (by kernel_rfl) (fun _ _ _ h => h) (Or.inl ⟨by kernel_rfl, ?_⟩) (by assumption) ?_
              rotate_left
              · intro w0 hSw
                (go_simp <;> with_reducible rfl)
              try simp only [Act.put, List.setIfInBounds_toArray, List.set_cons_zero, List.set_cons_succ]
              refine wpAnyH_take (i := 30) (oi := { dst := some 96, op := Op.pick (Operand.tmp 79) (Operand.const (Value.bool true)) (Operand.tmp 95), type := 4, pos := "law.go:270", after := #[{ on := 13, ground := Ground.data }, { on := 29, ground := Ground.data }], guard := none }) (v := ?_) rfl (by kernel_rfl) (by kernel_rfl) (by kernel_rfl) (fun _ _ _ h => h) (Or.inl ⟨by kernel_rfl, ?_⟩) (by assumption) ?_
              rotate_left
              · intro w0 hSw
                (go_simp <;> with_reducible rfl)
              try simp only [Act.put, List.setIfInBounds_toArray, List.set_cons_zero, List.set_cons_succ]
              refine wpAnyH_done (by kernel_rfl) ?_ _
              go_wp2_with fail
              go_meet
              exact ⟨rfl, Lib.hid hHeld.2⟩
          as_aux_lemma =>
            obtain ⟨k, hk⟩ : ∃ k, i = m1.length + k := ⟨i - m1.length, by omega⟩
            have hk2 : k < m2.length := by omega
            have i1 : decide ((i : Int) < (m1.length : Int)) = false := decide_eq_false (by omega)
            have i2 : ¬ (i : Int) < (m1.length : Int) := by omega
            have i3 : decide ((m1.length : Int) ≤ (i : Int)) = true := decide_eq_true (by omega)
            have i4 : (m1.length : Int) ≤ (i : Int) := by omega
            have j1 : decide (m1.length ≤ i) = true := decide_eq_true (by omega)
            have j2 : m1.length ≤ i := by omega
            have j3 : decide (i < m1.length) = false := decide_eq_false hi1
            have i5 : (0 : Int) ≤ (k : Int) := by omega
            have i6 : (k : Int) < (m2.length : Int) := by omega
            have i7 : (i : Int) - (m1.length : Int) = (k : Int) := by omega
            have jw : IntKind.i64.wrap (k : Int) = (k : Int) := IntWalk.i64_in _ (by omega)
            have k9 : (k : Int) ≤ 400 := by omega
            obtain ⟨b1, o1, rfl, hb1', A9, c9, B9, d9, pV1, pU1, hcell1⟩ := ent_at L2s.out hk2
            obtain ⟨z, hz⟩ : ∃ z, m2[k] = z := ⟨_, rfl⟩
            have hxy : x = shE n z := by rw [← hx, ← hz]; simp only [HJ2.out]; rw [List.getElem_append_right (by omega)]; simp only [List.getElem_map]; congr 2; omega
            rw [hz] at hcell1 pV1 pU1
            have hC := C2.out z (by rw [← hz]; exact List.getElem_mem hk2)
            subst hxy
            dsimp only [shE] at e0 e1 e2 e3 e4 e5 pV3 pU3 ⊢
            have hSE := fun W (hW : Below w6.heap.size w6 W) => entry_same z.ty z.lv z.tx z.nm z.val z.ats FR TU z.fr z.tu pV3 pV1 pU3 pU1 (by omega) (by omega) W hW
            unfold entV at hSE
            have HSE := Lib.hid hSE
            have HCo := Lib.hid hcell1
            clear hSE hcell1 pV3 pU3 pV1 pU1 hC hx hz hk e0 e1 e2 e3 e4 e5 e6 e7 hb1' HJ2 C1 C2 L1s L2s L3s
            refine wp_region_held_drew (S := fun W => BoxAt W wr.heap.size #[.int .i64 z.ty, .int .i64 z.lv, .string z.tx, .string z.nm, .slice A0 z.val.length c0, .slice B0 z.ats.length d0, .int .i64 FR, .int .i64 TU] 45 ∧ Below w6.heap.size w6 W) (by kernel_rfl) ⟨BoxAt.new wr #[.int .i64 z.ty, .int .i64 z.lv, .string z.tx, .string z.nm, .slice A0 z.val.length c0, .slice B0 z.ats.length d0, .int .i64 FR, .int .i64 TU] 45, (HB.out.alloc hsz _).drew⟩ (fun hHeld => ?_)
            refine wpAnyH_take (i := 0) (oi := { dst := some 66, op := Op.move (Operand.tmp 10), type := 3, pos := "law.go:270", after := #[], guard := none }) (v := ?_) rfl (by kernel_rfl) (by kernel_rfl) (by kernel_rfl) (fun _ _ _ h => h) (Or.inl ⟨by kernel_rfl, ?_⟩) (by assumption) ?_
            rotate_left
            · intro w0 hSw
              (go_simp <;> with_reducible rfl)
            try simp only [Act.put, List.setIfInBounds_toArray, List.set_cons_zero, List.set_cons_succ]
            refine wpAnyH_take (i := 1) (oi := { dst := some 67, op := Op.move (Operand.tmp 5), type := 39, pos := "law.go:270", after := #[], guard := none }) (v := ?_) rfl (by kernel_rfl) (by kernel_rfl) (by kernel_rfl) (fun _ _ _ h => h) (Or.inl ⟨by kernel_rfl, ?_⟩) (by assumption) ?_
            rotate_left
            · intro w0 hSw
              (go_simp <;> with_reducible rfl)
            try simp only [Act.put, List.setIfInBounds_toArray, List.set_cons_zero, List.set_cons_succ]
            refine wpAnyH_take (i := 2) (oi := { dst := some 68, op := Op.call { callee := Callee.builtin Builtin.len, args := #[Operand.tmp 67], argTypes := #[39] }, type := 3, pos := "law.go:270", after := #[{ on := 1, ground := Ground.data }], guard := none }) (v := ?_) rfl (by kernel_rfl) (by kernel_rfl) (by kernel_rfl) (fun _ _ _ h => h) (Or.inl ⟨by kernel_rfl, ?_⟩) (by assumption) ?_
            rotate_left
            · intro w0 hSw
              (go_simp <;> with_reducible rfl)
            try simp only [Act.put, List.setIfInBounds_toArray, List.set_cons_zero, List.set_cons_succ]
            refine wpAnyH_take (i := 3) (oi := { dst := some 69, op := Op.binOp BinOp.lss 3 (Operand.tmp 66) (Operand.tmp 68) 3, type := 4, pos := "law.go:270", after := #[{ on := 0, ground := Ground.data }, { on := 2, ground := Ground.data }], guard := none }) (v := ?_) rfl (by kernel_rfl) (by kernel_rfl) (by kernel_rfl) (fun _ _ _ h => h) (Or.inl ⟨by kernel_rfl, ?_⟩) (by assumption) ?_
            rotate_left
            · intro w0 hSw
              (go_simp <;> with_reducible rfl)
            try simp only [Act.put, List.setIfInBounds_toArray, List.set_cons_zero, List.set_cons_succ]
            refine wpAnyH_take (i := 4) (oi := { dst := some 70, op := Op.move (Operand.tmp 69), type := 4, pos := "law.go:270", after := #[{ on := 3, ground := Ground.data }], guard := none }) (v := ?_) rfl (by kernel_rfl) (by kernel_rfl) (by kernel_rfl) (fun _ _ _ h => h) (Or.inl ⟨by kernel_rfl, ?_⟩) (by assumption) ?_
            rotate_left
            · intro w0 hSw
              (go_simp <;> with_reducible rfl)
            try simp only [Act.put, List.setIfInBounds_toArray, List.set_cons_zero, List.set_cons_succ]
            refine wpAnyH_take (i := 5) (oi := { dst := some 71, op := Op.load 45 (Operand.tmp 11), type := 45, pos := "law.go:270", after := #[{ on := 4, ground := Ground.guard }], guard := some (4, true) }) (v := undef) rfl (by kernel_rfl) (by kernel_rfl) (by kernel_rfl) (fun _ _ _ h => h) (Or.inr ⟨by kernel_rfl, rfl⟩) (by assumption) ?_
            try simp only [Act.put, List.setIfInBounds_toArray, List.set_cons_zero, List.set_cons_succ]
            refine wpAnyH_take (i := 6) (oi := { dst := some 72, op := Op.move (Operand.tmp 5), type := 39, pos := "law.go:270", after := #[{ on := 4, ground := Ground.guard }], guard := some (4, true) }) (v := undef) rfl (by kernel_rfl) (by kernel_rfl) (by kernel_rfl) (fun _ _ _ h => h) (Or.inr ⟨by kernel_rfl, rfl⟩) (by assumption) ?_
            try simp only [Act.put, List.setIfInBounds_toArray, List.set_cons_zero, List.set_cons_succ]
            refine wpAnyH_take (i := 7) (oi := { dst := some 73, op := Op.move (Operand.tmp 10), type := 3, pos := "law.go:270", after := #[{ on := 4, ground := Ground.guard }], guard := some (4, true) }) (v := undef) rfl (by kernel_rfl) (by kernel_rfl) (by kernel_rfl) (fun _ _ _ h => h) (Or.inr ⟨by kernel_rfl, rfl⟩) (by assumption) ?_
            try simp only [Act.put, List.setIfInBounds_toArray, List.set_cons_zero, List.set_cons_succ]
            refine wpAnyH_take (i := 8) (oi := { dst := some 74, op := Op.indexAddr 39 (Operand.tmp 72) (Operand.tmp 73), type := 0, pos := "law.go:270", after := #[{ on := 6, ground := Ground.data }, { on := 7, ground := Ground.data }, { on := 4, ground := Ground.guard }], guard := some (4, true) }) (v := undef) rfl (by kernel_rfl) (by kernel_rfl) (by kernel_rfl) (fun _ _ _ h => h) (Or.inr ⟨by kernel_rfl, rfl⟩) (by assumption) ?_
            try simp only [Act.put, List.setIfInBounds_toArray, List.set_cons_zero, List.set_cons_succ]
            refine wpAnyH_take (i := 9) (oi := { dst := some 75, op := Op.load 45 (Operand.tmp 74), type := 45, pos := "law.go:270", after := #[{ on := 8, ground := Ground.data }, { on := 4, ground := Ground.guard }], guard := some (4, true) }) (v := undef) rfl (by kernel_rfl) (by kernel_rfl) (by kernel_rfl) (fun _ _ _ h => h) (Or.inr ⟨by kernel_rfl, rfl⟩) (by assumption) ?_
            try simp only [Act.put, List.setIfInBounds_toArray, List.set_cons_zero, List.set_cons_succ]
            refine wpAnyH_take (i := 10) (oi := { dst := some 76, op := Op.call { callee := Callee.value (Operand.func 17), args := #[Operand.tmp 71, Operand.tmp 75], argTypes := #[45, 45] }, type := 4, pos := "law.go:270", after := #[{ on := 5, ground := Ground.data }, { on := 9, ground := Ground.data }, { on := 4, ground := Ground.chain }, { on := 4, ground := Ground.guard }], guard := some (4, true) }) (v := undef) rfl (by kernel_rfl) (by kernel_rfl) (by kernel_rfl) (fun _ _ _ h => h) (Or.inr ⟨by kernel_rfl, rfl⟩) (by assumption) ?_
            try simp only [Act.put, List.setIfInBounds_toArray, List.set_cons_zero, List.set_cons_succ]
            refine wpAnyH_take (i := 11) (oi := { dst := some 77, op := Op.unOp UnOp.not 4 (Operand.tmp 76), type := 4, pos := "law.go:270", after := #[{ on := 10, ground := Ground.data }, { on := 4, ground := Ground.guard }], guard := some (4, true) }) (v := undef) rfl (by kernel_rfl) (by kernel_rfl) (by kernel_rfl) (fun _ _ _ h => h) (Or.inr ⟨by kernel_rfl, rfl⟩) (by assumption) ?_
            try simp only [Act.put, List.setIfInBounds_toArray, List.set_cons_zero, List.set_cons_succ]
            refine wpAnyH_take (i := 12) (oi := { dst := some 78, op := Op.pick (Operand.tmp 70) (Operand.tmp 77) (Operand.const (Value.bool false)), type := 4, pos := "law.go:270", after := #[{ on := 4, ground := Ground.data }, { on := 11, ground := Ground.data }], guard := none }) (v := ?_) rfl (by kernel_rfl) (by kernel_rfl) (by kernel_rfl) (fun _ _ _ h => h) (Or.inl ⟨by kernel_rfl, ?_⟩) (by assumption) ?_
            rotate_left
            · intro w0 hSw
              (go_simp <;> with_reducible rfl)
            try simp only [Act.put, List.setIfInBounds_toArray, List.set_cons_zero, List.set_cons_succ]
            refine wpAnyH_take (i := 13) (oi := { dst := some 79, op := Op.move (Operand.tmp 78), type := 4, pos := "law.go:270", after := #[{ on := 12, ground := Ground.data }, { on := 10, ground := Ground.chain }], guard := none }) (v := ?_) rfl (by kernel_rfl) (by kernel_rfl) (by kernel_rfl) (fun _ _ _ h => h) (Or.inl ⟨by kernel_rfl, ?_⟩) (by assumption) ?_
            rotate_left
            · intro w0 hSw
              (go_simp <;> with_reducible rfl)
            try simp only [Act.put, List.setIfInBounds_toArray, List.set_cons_zero, List.set_cons_succ]
            refine wpAnyH_take (i := 14) (oi := { dst := some 80, op := Op.move (Operand.tmp 10), type := 3, pos := "law.go:270", after := #[{ on := 13, ground := Ground.guard }], guard := some (13, false) }) (v := ?_) rfl (by kernel_rfl) (by kernel_rfl) (by kernel_rfl) (fun _ _ _ h => h) (Or.inl ⟨by kernel_rfl, ?_⟩) (by assumption) ?_
            rotate_left
            · intro w0 hSw
              (go_simp <;> with_reducible rfl)
            try simp only [Act.put, List.setIfInBounds_toArray, List.set_cons_zero, List.set_cons_succ]
            refine wpAnyH_take (i := 15) (oi := { dst := some 81, op := Op.move (Operand.tmp 5), type := 39, pos := "law.go:270", after := #[{ on := 13, ground := Ground.guard }], guard := some (13, false) }) (v := ?_) rfl (by kernel_rfl) (by kernel_rfl) (by kernel_rfl) (fun _ _ _ h => h) (Or.inl ⟨by kernel_rfl, ?_⟩) (by assumption) ?_
            rotate_left
            · intro w0 hSw
              (go_simp <;> with_reducible rfl)
            try simp only [Act.put, List.setIfInBounds_toArray, List.set_cons_zero, List.set_cons_succ]
            refine wpAnyH_take (i := 16) (oi := { dst := some 82, op := Op.call { callee := Callee.builtin Builtin.len, args := #[Operand.tmp 81], argTypes := #[39] }, type := 3, pos := "law.go:270", after := #[{ on := 15, ground := Ground.data }, { on := 13, ground := Ground.guard }], guard := some (13, false) }) (v := ?_) rfl (by kernel_rfl) (by kernel_rfl) (by kernel_rfl) (fun _ _ _ h => h) (Or.inl ⟨by kernel_rfl, ?_⟩) (by assumption) ?_
            rotate_left
            · intro w0 hSw
              (go_simp <;> with_reducible rfl)
            try simp only [Act.put, List.setIfInBounds_toArray, List.set_cons_zero, List.set_cons_succ]
            refine wpAnyH_take (i := 17) (oi := { dst := some 83, op := Op.binOp BinOp.geq 3 (Operand.tmp 80) (Operand.tmp 82) 3, type := 4, pos := "law.go:270", after := #[{ on := 14, ground := Ground.data }, { on := 16, ground := Ground.data }, { on := 13, ground := Ground.guard }], guard := some (13, false) }) (v := ?_) rfl (by kernel_rfl) (by kernel_rfl) (by kernel_rfl) (fun _ _ _ h => h) (Or.inl ⟨by kernel_rfl, ?_⟩) (by assumption) ?_
            rotate_left
            · intro w0 hSw
              (go_simp <;> with_reducible rfl)
            try simp only [Act.put, List.setIfInBounds_toArray, List.set_cons_zero, List.set_cons_succ]
            refine wpAnyH_take (i := 18) (oi := { dst := some 84, op := Op.move (Operand.tmp 83), type := 4, pos := "law.go:270", after := #[{ on := 17, ground := Ground.data }, { on := 13, ground := Ground.chain }, { on := 13, ground := Ground.guard }], guard := some (13, false) }) (v := ?_) rfl (by kernel_rfl) (by kernel_rfl) (by kernel_rfl) (fun _ _ _ h => h) (Or.inl ⟨by kernel_rfl, ?_⟩) (by assumption) ?_
            rotate_left
            · intro w0 hSw
              (go_simp <;> with_reducible rfl)
            try simp only [Act.put, List.setIfInBounds_toArray, List.set_cons_zero, List.set_cons_succ]
            refine wpAnyH_take (i := 19) (oi := { dst := some 85, op := Op.load 45 (Operand.tmp 11), type := 45, pos := "law.go:270", after := #[{ on := 18, ground := Ground.guard }], guard := some (18, true) }) (v := ?_) rfl (by kernel_rfl) (by kernel_rfl) (by kernel_rfl) (fun _ _ _ h => h) (Or.inl ⟨by kernel_rfl, ?_⟩) (by assumption) ?_
            rotate_left
            · intro w0 hSw
              have t0 : w0.cell? ⟨wr.heap.size, 0, none⟩ = some (.int .i64 z.ty) := hSw.1.cell 0
              have t1 : w0.cell? ⟨wr.heap.size, 1, none⟩ = some (.int .i64 z.lv) := hSw.1.cell 1
              have t2 : w0.cell? ⟨wr.heap.size, 2, none⟩ = some (.string z.tx) := hSw.1.cell 2
              have t3 : w0.cell? ⟨wr.heap.size, 3, none⟩ = some (.string z.nm) := hSw.1.cell 3
              have t4 : w0.cell? ⟨wr.heap.size, 4, none⟩ = some (.slice A0 z.val.length c0) := hSw.1.cell 4
              have t5 : w0.cell? ⟨wr.heap.size, 5, none⟩ = some (.slice B0 z.ats.length d0) := hSw.1.cell 5
              have t6 : w0.cell? ⟨wr.heap.size, 6, none⟩ = some (.int .i64 FR) := hSw.1.cell 6
              have t7 : w0.cell? ⟨wr.heap.size, 7, none⟩ = some (.int .i64 TU) := hSw.1.cell 7
              (go_simp <;> with_reducible rfl)
            try simp only [Act.put, List.setIfInBounds_toArray, List.set_cons_zero, List.set_cons_succ]
            refine wpAnyH_take (i := 20) (oi := { dst := some 86, op := Op.move (Operand.tmp 6), type := 39, pos := "law.go:270", after := #[{ on := 18, ground := Ground.guard }], guard := some (18, true) }) (v := ?_) rfl (by kernel_rfl) (by kernel_rfl) (by kernel_rfl) (fun _ _ _ h => h) (Or.inl ⟨by kernel_rfl, ?_⟩) (by assumption) ?_
            rotate_left
            · intro w0 hSw
              (go_simp <;> with_reducible rfl)
            try simp only [Act.put, List.setIfInBounds_toArray, List.set_cons_zero, List.set_cons_succ]
            refine wpAnyH_take (i := 21) (oi := { dst := some 87, op := Op.move (Operand.tmp 10), type := 3, pos := "law.go:270", after := #[{ on := 18, ground := Ground.guard }], guard := some (18, true) }) (v := ?_) rfl (by kernel_rfl) (by kernel_rfl) (by kernel_rfl) (fun _ _ _ h => h) (Or.inl ⟨by kernel_rfl, ?_⟩) (by assumption) ?_
            rotate_left
            · intro w0 hSw
              (go_simp <;> with_reducible rfl)
            try simp only [Act.put, List.setIfInBounds_toArray, List.set_cons_zero, List.set_cons_succ]
            refine wpAnyH_take (i := 22) (oi := { dst := some 88, op := Op.move (Operand.tmp 5), type := 39, pos := "law.go:270", after := #[{ on := 18, ground := Ground.guard }], guard := some (18, true) }) (v := ?_) rfl (by kernel_rfl) (by kernel_rfl) (by kernel_rfl) (fun _ _ _ h => h) (Or.inl ⟨by kernel_rfl, ?_⟩) (by assumption) ?_
            rotate_left
            · intro w0 hSw
              (go_simp <;> with_reducible rfl)
            try simp only [Act.put, List.setIfInBounds_toArray, List.set_cons_zero, List.set_cons_succ]
            refine wpAnyH_take (i := 23) (oi := { dst := some 89, op := Op.call { callee := Callee.builtin Builtin.len, args := #[Operand.tmp 88], argTypes := #[39] }, type := 3, pos := "law.go:270", after := #[{ on := 22, ground := Ground.data }, { on := 18, ground := Ground.guard }], guard := some (18, true) }) (v := ?_) rfl (by kernel_rfl) (by kernel_rfl) (by kernel_rfl) (fun _ _ _ h => h) (Or.inl ⟨by kernel_rfl, ?_⟩) (by assumption) ?_
            rotate_left
            · intro w0 hSw
              (go_simp <;> with_reducible rfl)
            try simp only [Act.put, List.setIfInBounds_toArray, List.set_cons_zero, List.set_cons_succ]
            refine wpAnyH_take (i := 24) (oi := { dst := some 90, op := Op.binOp BinOp.sub 3 (Operand.tmp 87) (Operand.tmp 89) 3, type := 3, pos := "law.go:270", after := #[{ on := 21, ground := Ground.data }, { on := 23, ground := Ground.data }, { on := 18, ground := Ground.guard }], guard := some (18, true) }) (v := ?_) rfl (by kernel_rfl) (by kernel_rfl) (by kernel_rfl) (fun _ _ _ h => h) (Or.inl ⟨by kernel_rfl, ?_⟩) (by assumption) ?_
            rotate_left
            · intro w0 hSw
              (go_simp <;> with_reducible rfl)
            try simp only [Act.put, List.setIfInBounds_toArray, List.set_cons_zero, List.set_cons_succ]
            refine wpAnyH_take (i := 25) (oi := { dst := some 91, op := Op.indexAddr 39 (Operand.tmp 86) (Operand.tmp 90), type := 0, pos := "law.go:270", after := #[{ on := 20, ground := Ground.data }, { on := 24, ground := Ground.data }, { on := 18, ground := Ground.guard }], guard := some (18, true) }) (v := ?_) rfl (by kernel_rfl) (by kernel_rfl) (by kernel_rfl) (fun _ _ _ h => h) (Or.inl ⟨by kernel_rfl, ?_⟩) (by assumption) ?_
            rotate_left
            · intro w0 hSw
              (go_simp <;> with_reducible rfl)
            try simp only [Act.put, List.setIfInBounds_toArray, List.set_cons_zero, List.set_cons_succ]
            refine wpAnyH_take (i := 26) (oi := { dst := some 92, op := Op.load 45 (Operand.tmp 91), type := 45, pos := "law.go:270", after := #[{ on := 25, ground := Ground.data }, { on := 18, ground := Ground.guard }], guard := some (18, true) }) (v := ?_) rfl (by kernel_rfl) (by kernel_rfl) (by kernel_rfl) (fun _ _ _ h => h) (Or.inl ⟨by kernel_rfl, ?_⟩) (by assumption) ?_
            rotate_left
            · intro w0 hSw
              obtain ⟨f0, f1, f2, f3, f4, f5, f6, f7⟩ := HCo.out w0 hSw.2
              (go_simp <;> with_reducible rfl)
            try simp only [Act.put, List.setIfInBounds_toArray, List.set_cons_zero, List.set_cons_succ]
            refine wpAnyH_ready (rs := [27]) (by kernel_rfl) (by simp) ?_
            refine AllReadyH.cons (o := { dst := some 93, op := Op.call { callee := Callee.value (Operand.func 17), args := #[Operand.tmp 85, Operand.tmp 92], argTypes := #[45, 45] }, type := 4, pos := "law.go:270", after := #[{ on := 19, ground := Ground.data }, { on := 26, ground := Ground.data }, { on := 18, ground := Ground.chain }, { on := 18, ground := Ground.guard }], guard := some (18, true) }) rfl (fun K hK => ?_) AllReadyH.nil
            go_simp
            go_at_call 17
            refine (HSE.out _ hHeld.2).mono ?_
            rintro e x1 ⟨rfl, hb1⟩
            go_wp2_with fail
            refine hK.out _ _ (⟨hHeld.1.later hb1, hHeld.2.trans (hb1.mono hHeld.2.size)⟩) (fun hHeld2 => ?_)
            clear hHeld hK K
            have hHeld := hHeld2
            clear hHeld2
            try simp only [Act.put, List.setIfInBounds_toArray, List.set_cons_zero, List.set_cons_succ]
            refine wpAnyH_take (i := 28) (oi := { dst := some 94, op := Op.unOp UnOp.not 4 (Operand.tmp 93), type := 4, pos := "law.go:270", after := #[{ on := 27, ground := Ground.data }, { on := 18, ground := Ground.guard }], guard := some (18, true) }) (v := ?_) rfl (by kernel_rfl) (by kernel_rfl) (by kernel_rfl) (fun _ _ _ h => h) (Or.inl ⟨by kernel_rfl, ?_⟩) (by assumption) ?_
            rotate_left
            · intro w0 hSw
              (go_simp <;> with_reducible rfl)
            try simp only [Act.put, List.setIfInBounds_toArray, List.set_cons_zero, List.set_cons_succ]
            refine wpAnyH_take (i := 29) (oi := { dst := some 95, op := Op.pick (Operand.tmp 84) (Operand.tmp 94) (Operand.const (Value.bool false)), type := 4, pos := "law.go:270", after := #[{ on := 18, ground := Ground.data }, { on := 28, ground := Ground.data }, { on := 13, ground := Ground.guard }], guard := some (13, false) }) (v := ?_) rfl (by kernel_rfl) (by kernel_rfl) (by kernel_rfl) (fun _ _ _ h => h) (Or.inl ⟨by kernel_rfl, ?_⟩) (by assumption) ?_
            rotate_left
            · intro w0 hSw
              (go_simp <;> with_reducible rfl)
            try simp only [Act.put, List.setIfInBounds_toArray, List.set_cons_zero, List.set_cons_succ]
            refine wpAnyH_take (i := 30) (oi := { dst := some 96, op := Op.pick (Operand.tmp 79) (Operand.const (Value.bool true)) (Operand.tmp 95), type := 4, pos := "law.go:270", after := #[{ on := 13, ground := Ground.data }, { on := 29, ground := Ground.data }], guard := none }) (v := ?_) rfl (by kernel_rfl) (by kernel_rfl) (by kernel_rfl) (fun _ _ _ h => h) (Or.inl ⟨by kernel_rfl, ?_⟩) (by assumption) ?_
            rotate_left
            · intro w0 hSw
              (go_simp <;> with_reducible rfl)
            try simp only [Act.put, List.setIfInBounds_toArray, List.set_cons_zero, List.set_cons_succ]
            refine wpAnyH_done (by kernel_rfl) ?_ _
            go_wp2_with fail
            go_meet
            exact ⟨rfl, Lib.hid hHeld.2⟩
        obtain ⟨rfl, HB9⟩ := hcut
        as_aux_lemma =>
          go_wp2
          go_roundw
          case rel => exact ⟨i + 1, by go_num, hlt, HB9⟩
          case measure => simp [intOf]; omega
      have d1' : decide ((i : Int) < (m3.length : Int)) = false := decide_eq_false (by omega)
      have d2' : ¬ (i : Int) < (m3.length : Int) := by omega
      as_aux_lemma =>
        go_wp2
        go_ret
        exact ⟨rfl, B7.out.trans (HB.out.mono B7.out.size)⟩
end Go.Proofs.YtdoambpiafkmmaaGreatDoor
