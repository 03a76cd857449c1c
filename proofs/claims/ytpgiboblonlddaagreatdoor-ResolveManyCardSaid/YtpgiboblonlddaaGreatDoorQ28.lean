/-
  Several texts put together (part 28): what the law and the program call, walked; their contracts.
-/
import Derived.Test.YtpgiboblonlddaaGreatDoorQ12
import Derived.Test.YtpgiboblonlddaaGreatDoorQ15
import Derived.StillTailTactics
namespace Go.Proofs.YtpgiboblonlddaaGreatDoor
open Go.RowKit Go.ChangeMaps
set_option linter.unusedVariables false
set_option linter.unusedSimpArgs false
structure K3 (p q : Nat) (w w' : World) : Prop where
  low : Below 0 w w'
  others : ∀ k, k < w.heap.size → k ≠ p → k ≠ q → w'.heap[k]? = w.heap[k]?
theorem K3.refl (p q : Nat) (w : World) : K3 p q w w := ⟨Below.refl _ _, fun _ _ _ _ => rfl⟩
theorem K3.trans {p q : Nat} {a b c : World} (h : K3 p q a b) (g : K3 p q b c) : K3 p q a c := ⟨h.low.trans g.low, fun k hk hp hq => (g.others k (Nat.lt_of_lt_of_le hk h.low.size) hp hq).trans (h.others k hk hp hq)⟩
theorem K3.of_below {p q : Nat} {w w' : World} (h : Below w.heap.size w w') : K3 p q w w' := ⟨h.mono (Nat.zero_le _), fun k hk _ _ => h.block k hk⟩
theorem K3.of_kp1 {p q : Nat} {w w' : World} (h : Kp p w w') : K3 p q w w' := ⟨h.below.mono (Nat.zero_le _), fun k hk hp _ => h.others k hk hp⟩
theorem K3.of_kp2 {p q : Nat} {w w' : World} (h : Kp q w w') : K3 p q w w' := ⟨h.below.mono (Nat.zero_le _), fun k hk _ hq => h.others k hk hq⟩
theorem K3.box {p q k : Nat} {w w' : World} {cs : Array Value} {t : TypeId} (h : K3 p q w w') (hb : BoxAt w k cs t) (hp : k ≠ p) (hq : k ≠ q) : BoxAt w' k cs t := (h.others k hb.lt hp hq).trans hb
theorem K3.cell {p q : Nat} {w w' : World} (h : K3 p q w w') {a : Addr} (ha : a.block < w.heap.size) (hp : a.block ≠ p) (hq : a.block ≠ q) : w'.cell? a = w.cell? a := World.cell?_of_block (h.others a.block ha hp hq)
theorem ns_list {W : World} {F : Nat → Prop} {b : Nat} : ∀ (l : List EN) (o : Nat), NsF W F l b o → ∃ vs : List VE, vs.map (·.x) = l ∧ ∀ j e, vs[j]? = some e →
    W.cell? ⟨b, o + j * 8, none⟩ = some (.int .i64 e.x.ty) ∧ W.cell? ⟨b, o + j * 8 + 1, none⟩ = some (.int .i64 e.x.lv) ∧ W.cell? ⟨b, o + j * 8 + 2, none⟩ = some (.string e.x.tx) ∧ W.cell? ⟨b, o + j * 8 + 3, none⟩ = some (.string e.x.nm) ∧
    W.cell? ⟨b, o + j * 8 + 4, none⟩ = some (.slice e.A e.x.val.length e.c) ∧ W.cell? ⟨b, o + j * 8 + 5, none⟩ = some (.slice e.B e.x.ats.length e.d) ∧ W.cell? ⟨b, o + j * 8 + 6, none⟩ = some (.int .i64 e.x.fr) ∧ W.cell? ⟨b, o + j * 8 + 7, none⟩ = some (.int .i64 e.x.tu) ∧
    PatF W F e.x.val (.slice e.A e.x.val.length e.c) ∧ AtsF W F e.x.ats (.slice e.B e.x.ats.length e.d)
  | [], o, h => ⟨[], rfl, fun j e he => by simp at he⟩
  | x :: r, o, h => by
    rw [NsF] at h
    obtain ⟨_, ⟨A, c, B, d, h0⟩, hr⟩ := h
    obtain ⟨vs, h1, h2⟩ := ns_list r (o + 8) hr
    refine ⟨⟨x, A, c, B, d⟩ :: vs, by rw [List.map_cons, h1], fun j e he => ?_⟩
    cases j with
    | zero =>
      simp at he
      subst he
      rw [Nat.zero_mul]
      exact h0
    | succ j =>
      have := h2 j e (by simpa using he)
      rw [show o + (j + 1) * 8 = o + 8 + j * 8 by omega]
      exact this
structure BS where
  m : List VE
  t : List VE
  tw : List ByteArray
  jk : Nat
def addE (over : Bool) (e : VE) (z : BS) : BS :=
  if e.x.ty = 1 then ⟨(putL over e z.m).1, z.t, if (putL over e z.m).2 then z.tw ++ [e.x.nm] else z.tw, z.jk⟩
  else if e.x.ty = 2 then ⟨z.m, (putL over e z.t).1, if (putL over e z.t).2 then z.tw ++ [⟨#[45]⟩ ++ e.x.nm] else z.tw, z.jk⟩
  else if e.x.ty = 3 then ⟨z.m, z.t, z.tw, z.jk + 1⟩ else z
def addS (over : Bool) : List VE → BS → BS
  | [], z => z
  | e :: r, z => addS over r (addE over e z)
theorem own_kp {W W' : World} {B mb : Nat} {e : TypeId} {v : Value} {n : Nat} {xs : List Value} (h : W.ownsRow B e 1 v n xs) (g : Kp mb W W') (hmb : mb < B) : W'.ownsRow B e 1 v n xs :=
  h.kept (⟨g.below.os, g.below.tape, g.below.output, g.size, fun k hk hn => g.others k hk (fun e => hn (by rw [e]))⟩ : W.grownBy W' (some mb)) (by
    by_cases h0 : v.ownBlock = none
    · exact .inl h0
    · refine .inr (fun e => ?_)
      have := (h.lt mb e).1
      omega)
theorem own_alloc {W : World} {B : Nat} {e : TypeId} {v : Value} {n : Nat} {xs : List Value} (h : W.ownsRow B e 1 v n xs) (o : Obj) : (W.alloc o).ownsRow B e 1 v n xs :=
  h.kept (⟨rfl, rfl, rfl, by simp, fun k hk _ => by rw [Below.heap_alloc _ _ k hk]⟩ : W.grownBy (W.alloc o) none) (by by_cases h : v.ownBlock = none; exact .inl h; exact .inr h)
theorem K3.grown {p q : Nat} {a w w' : World} {row : Option Nat} (h : K3 p q a w) (hg : w.grownBy w' row) (hr : ∀ k, row = some k → a.heap.size ≤ k) : K3 p q a w' := by
  refine ⟨h.low.grown hg (Nat.zero_le _) (fun k _ => Nat.zero_le _), fun k hk hp hq => ?_⟩
  obtain ⟨_, _, _, _, h5⟩ := hg
  rw [← h.others k hk hp hq]
  exact h5 k (Nat.lt_of_lt_of_le hk h.low.size) (fun e => by have := hr k e.symm; omega)
theorem MapAt.grown {w w' : World} {row : Option Nat} {b c : Nat} {es : Array MapEntry} (h : MapAt w b es c) (hg : w.grownBy w' row) (hr : ∀ k, row = some k → b < k) : MapAt w' b es c := by
  have hl := h.lt
  obtain ⟨_, _, _, _, h5⟩ := hg
  exact (h5 b hl (fun e => by have := hr b e.symm; omega)).trans h
set_option maxHeartbeats 8000000 in
set_option maxRecDepth 100000 in
theorem add_core (b mb tb : Nat) (rs : Value) (s : ByteArray) (over : Bool) (l sc rg : ByteArray) (M T : List VE) (w : World) (hs : s.size ≤ 1000000) (hl : (parseS s).length ≤ 1000000) (hnm : ∀ x ∈ parseS s, x.nm.size ≤ 1000000)
    (hMk : Calls Tryz.prog 40 #[.pointer (some ⟨b, 0, none⟩)] w fun e w' => e = .returned (.tuple #[]) ∧ BoxAt w' b (bunC l sc rg (.map (some mb)) (.map (some tb))) 115 ∧ MapAt w' mb (mapOf M) M.length ∧ MapAt w' tb (mapOf T) T.length ∧ Kp b w w')
    (hne : b ≠ mb ∧ b ≠ tb ∧ mb ≠ tb)
    (hD : ∀ W, Kp b w W → Calls Tryz.prog 42 #[rs] W fun e w' => e = .returned (.string s) ∧ Below W.heap.size W w')
    (hP : ∀ W, Calls Tryz.prog 41 #[.string s] W (GotEs W (parseS s))) :
    Calls Tryz.prog 21 #[.pointer (some ⟨b, 0, none⟩), rs, .bool over] w fun e w' =>
      ∃ (vs : List VE) (v : Value) (w1 w2 : World), vs.map (·.x) = parseS s ∧ Kp b w w1 ∧ (b < w1.heap.size ∧ mb < w1.heap.size ∧ tb < w1.heap.size) ∧ Below w1.heap.size w1 w2 ∧ K3 mb tb w2 w' ∧
        (∀ e ∈ vs, PatF w2 (Since w1.heap.size w2) e.x.val (.slice e.A e.x.val.length e.c) ∧ AtsF w2 (Since w1.heap.size w2) e.x.ats (.slice e.B e.x.ats.length e.d)) ∧
        e = .returned (.tuple #[v, .int .i64 (addS over vs ⟨M, T, [], 0⟩).jk]) ∧ w'.ownsRow w2.heap.size 9 1 v (addS over vs ⟨M, T, [], 0⟩).tw.length ((addS over vs ⟨M, T, [], 0⟩).tw.map Value.string) ∧
        BoxAt w' b (bunC l sc rg (.map (some mb)) (.map (some tb))) 115 ∧ MapAt w' mb (mapOf (addS over vs ⟨M, T, [], 0⟩).m) (addS over vs ⟨M, T, [], 0⟩).m.length ∧ MapAt w' tb (mapOf (addS over vs ⟨M, T, [], 0⟩).t) (addS over vs ⟨M, T, [], 0⟩).t.length := by
  obtain ⟨i0, hi, hz0, hz1, hz2⟩ := info_parts (show (Tryz.prog.info? 9).map (fun i => (i.zero, i.size, i.bytes)) = some (some (.string ⟨#[]⟩), 1, 16) by kernel_rfl)
  have HMk := Lib.hid hMk
  have HD := Lib.hid hD
  have HP := Lib.hid hP
  have Hnm := Lib.hid hnm
  obtain ⟨ne1, ne2, ne3⟩ := hne
  clear hMk hD hP hnm
  go_enter Tryz.func21, Tryz.ntmps21
  go_wp2_with fail
  go_at_call 40
  refine HMk.out.mono ?_
  rintro e w1 ⟨rfl, bB, bM, bT, bK⟩
  have B1 := Lib.hid bB
  have M1 := Lib.hid bM
  have T1 := Lib.hid bT
  have K1 := Lib.hid bK
  clear bB bM bT bK HMk
  go_wp2_with fail
  go_at_call 42
  refine (HD.out _ K1.out).mono ?_
  rintro e w1' ⟨rfl, bd⟩
  have Bd := Lib.hid bd
  clear bd HD
  go_wp2_with fail
  go_at_call 41
  refine (HP.out _).mono ?_
  rintro e w2 ⟨bp, A', c', rfl, hl2⟩
  have Bw := Lib.hid (Bd.out.trans (bp.mono Bd.out.size))
  obtain ⟨LL, hLL⟩ : ∃ n, (parseS s).length = n := ⟨_, rfl⟩
  have HL2 := Lib.hid hl2
  have hLI : (LL : Int) ≤ 1000000 := by omega
  clear bp hl2 HP
  rw [hLL]
  have HLL := Lib.hid hLL
  clear hLL
  have hvs : ∃ vs : List VE, vs.map (·.x) = parseS s ∧ (∀ e ∈ vs, PatF w2 (Since w1.heap.size w2) e.x.val (.slice e.A e.x.val.length e.c) ∧ AtsF w2 (Since w1.heap.size w2) e.x.ats (.slice e.B e.x.ats.length e.d)) ∧
      (0 < LL → ∃ bq oq, A' = some ⟨bq, oq, none⟩ ∧ w1.heap.size ≤ bq ∧ bq < w2.heap.size ∧ ∀ j e, vs[j]? = some e → w2.cell? ⟨bq, oq + j * 8, none⟩ = some (.int .i64 e.x.ty) ∧ w2.cell? ⟨bq, oq + j * 8 + 1, none⟩ = some (.int .i64 e.x.lv) ∧ w2.cell? ⟨bq, oq + j * 8 + 2, none⟩ = some (.string e.x.tx) ∧ w2.cell? ⟨bq, oq + j * 8 + 3, none⟩ = some (.string e.x.nm) ∧
    w2.cell? ⟨bq, oq + j * 8 + 4, none⟩ = some (.slice e.A e.x.val.length e.c) ∧ w2.cell? ⟨bq, oq + j * 8 + 5, none⟩ = some (.slice e.B e.x.ats.length e.d) ∧ w2.cell? ⟨bq, oq + j * 8 + 6, none⟩ = some (.int .i64 e.x.fr) ∧ w2.cell? ⟨bq, oq + j * 8 + 7, none⟩ = some (.int .i64 e.x.tu)) := by
    have hl2 := HL2.out
    have hll := HLL.out
    by_cases h0 : 0 < (parseS s).length
    · obtain ⟨bq, oq, rfl, hN⟩ := list_at hl2 h0
      obtain ⟨vs, h1, h2⟩ := ns_list _ oq hN
      have hF : Since w1'.heap.size w2 bq := (NsF.get 0 hN (List.getElem?_eq_getElem h0)).1
      have hsz := Bd.out.size
      have up : ∀ k, Since w1'.heap.size w2 k → Since w1.heap.size w2 k ∧ w2.heap[k]? = w2.heap[k]? := fun k hk => ⟨⟨Nat.le_trans hsz hk.1, hk.2⟩, rfl⟩
      refine ⟨vs, h1, fun e he => ?_, fun _ => ⟨bq, oq, rfl, Nat.le_trans hsz hF.1, hF.2, fun j e he => ?_⟩⟩
      · obtain ⟨j, hj, rfl⟩ := List.mem_iff_getElem.1 he
        obtain ⟨_, _, _, _, _, _, _, _, g1, g2⟩ := h2 j _ (List.getElem?_eq_getElem hj)
        exact ⟨g1.carry up, g2.carry up⟩
      · obtain ⟨g0, g1, g2, g3, g4, g5, g6, g7, _, _⟩ := h2 j e he
        exact ⟨g0, g1, g2, g3, g4, g5, g6, g7⟩
    · have : parseS s = [] := List.eq_nil_of_length_eq_zero (by omega)
      exact ⟨[], by rw [this]; rfl, fun e he => by simp at he, fun h => absurd h (by omega)⟩
  obtain ⟨vs, hv1, hv2, hv3⟩ := hvs
  have hvl : vs.length = LL := by rw [← HLL.out, ← hv1, List.length_map]
  have hvn : ∀ e ∈ vs, e.x.nm.size ≤ 1000000 := fun e he => Hnm.out _ (by rw [← hv1]; exact List.mem_map_of_mem he)
  have HV1 := Lib.hid hv1
  have HV2 := Lib.hid hv2
  have HV3 := Lib.hid hv3
  have HVN := Lib.hid hvn
  have HVL := Lib.hid hvl
  clear hv1 hv2 hv3 hvn hvl HL2 HLL Hnm
  obtain ⟨R, hR⟩ : ∃ R, addS over vs ⟨M, T, [], 0⟩ = R := ⟨_, rfl⟩
  have HR := Lib.hid hR
  clear hR
  have hb1 := B1.out.lt
  have hm1 := M1.out.lt
  have ht1 := T1.out.lt
  have hw12 := Bw.out.size
  have B2 := Lib.hid (B1.out.later Bw.out)
  have M2 := Lib.hid (M1.out.later Bw.out)
  have T2 := Lib.hid (T1.out.later Bw.out)
  clear B1 M1 T1 Bd
  go_wp2_with fail
  go_loopw [8, 9, 18] (fun t8 t9 t18 wr => ∃ (i jk : Nat) (v : Value) (Mm Tt : List VE) (tw : List ByteArray), t18 = .int .i64 i ∧ t9 = .int .i64 jk ∧ t8 = v ∧ i ≤ LL ∧ jk ≤ i ∧ tw.length ≤ i ∧ Hid (addS over (vs.drop i) ⟨Mm, Tt, tw, jk⟩ = R) ∧ Hid (K3 mb tb w2 wr) ∧ Hid (MapAt wr mb (mapOf Mm) Mm.length) ∧ Hid (MapAt wr tb (mapOf Tt) Tt.length) ∧ Hid (wr.ownsRow w2.heap.size 9 1 v tw.length (tw.map Value.string))) (fun _ _ t18 _ => LL - (intOf t18).toNat)
  case atStart => exact ⟨0, 0, _, M, T, [], rfl, rfl, rfl, Nat.zero_le _, Nat.le_refl _, Nat.le_refl _, HR, Lib.hid (K3.refl _ _ _), M2, T2, Lib.hid (World.ownsRow_nil _ _ _ _)⟩
  case round =>
    obtain ⟨i, jk, v, Mm, Tt, tw, rfl, rfl, rfl, hi', hj', ht', HS, HK, HM, HT, HO⟩ := hrel
    by_cases hlt : i < LL
    · have f1 : decide ((i : Int) < (LL : Int)) = true := decide_eq_true (by omega)
      have hil : i < vs.length := by rw [HVL.out]; exact hlt
      obtain ⟨bq, oq, rfl, hq0, hq1, hcs⟩ := HV3.out (by omega)
      obtain ⟨g0, g1, g2, g3, g4, g5, g6, g7⟩ := hcs i vs[i] (List.getElem?_eq_getElem hil)
      have hup : ∀ q, wr.cell? ⟨bq, q, none⟩ = w2.cell? ⟨bq, q, none⟩ := fun q => HK.out.cell (a := ⟨bq, q, none⟩) hq1 (by show bq ≠ mb; omega) (by show bq ≠ tb; omega)
      rw [← hup] at g0 g1 g2 g3 g4 g5 g6 g7
      have hnz := HVN.out _ (List.getElem_mem hil)
      have hS := HS.out
      rw [List.drop_eq_getElem_cons hil, addS] at hS
      have hPm := fun W h => put_all mb Mm vs[i] over W h
      have hPt := fun W h => put_all tb Tt vs[i] over W h
      unfold addE at hS
      generalize hg : vs[i] = ve at *
      obtain ⟨X, A0, c0, B0, d0⟩ := ve
      unfold VE.v at hPm hPt
      dsimp only at *
      have HS2 := Lib.hid hS
      have HPm := Lib.hid hPm
      have HPt := Lib.hid hPt
      have y := HK.out.box B2.out ne1 ne2
      have y4 : wr.cell? ⟨b, 4, none⟩ = some (.map (some mb)) := y.cell 4
      have y5 : wr.cell? ⟨b, 5, none⟩ = some (.map (some tb)) := y.cell 5
      have zy := y.lt
      clear hS hPm hPt hcs hup y hg HS
      have hS := HS2.out
      have h22 : w2.heap.size ≤ wr.heap.size := HK.out.low.size
      clear HS2
      by_cases t1 : X.ty = 1
      · have e1 : (X.ty == 1) = true := by rw [beq_iff_eq]; exact t1
        rw [if_pos t1] at hS
        have HS2 := Lib.hid hS
        clear hS t1
        go_upto_region 9 with fail
        have hW0l : wr.heap.size < (wr.alloc (.cells #[.int .i64 X.ty, .int .i64 X.lv, .string X.tx, .string X.nm, .slice A0 X.val.length c0, .slice B0 X.ats.length d0, .int .i64 X.fr, .int .i64 X.tu] 89)).heap.size := by simp
        have P0 := Lib.hid (BoxAt.new wr #[.int .i64 X.ty, .int .i64 X.lv, .string X.tx, .string X.nm, .slice A0 X.val.length c0, .slice B0 X.ats.length d0, .int .i64 X.fr, .int .i64 X.tu] 89)
        have M0 := Lib.hid (HM.out.alloc (.cells #[.int .i64 X.ty, .int .i64 X.lv, .string X.tx, .string X.nm, .slice A0 X.val.length c0, .slice B0 X.ats.length d0, .int .i64 X.fr, .int .i64 X.tu] 89))
        have T0 := Lib.hid (HT.out.alloc (.cells #[.int .i64 X.ty, .int .i64 X.lv, .string X.tx, .string X.nm, .slice A0 X.val.length c0, .slice B0 X.ats.length d0, .int .i64 X.fr, .int .i64 X.tu] 89))
        have O0 := Lib.hid (own_alloc HO.out (.cells #[.int .i64 X.ty, .int .i64 X.lv, .string X.tx, .string X.nm, .slice A0 X.val.length c0, .slice B0 X.ats.length d0, .int .i64 X.fr, .int .i64 X.tu] 89))
        have K0 := Lib.hid (HK.out.trans (K3.of_below ((Below.refl wr.heap.size wr).alloc (Nat.le_refl _) (.cells #[.int .i64 X.ty, .int .i64 X.lv, .string X.tx, .string X.nm, .slice A0 X.val.length c0, .slice B0 X.ats.length d0, .int .i64 X.fr, .int .i64 X.tu] 89))))
        have Y0 := Lib.hid (BoxAt.alloc (HK.out.box B2.out ne1 ne2) (.cells #[.int .i64 X.ty, .int .i64 X.lv, .string X.tx, .string X.nm, .slice A0 X.val.length c0, .slice B0 X.ats.length d0, .int .i64 X.fr, .int .i64 X.tu] 89))
        clear g0 g1 g2 g3 g4 g5 g6 g7 y4 y5 zy
        generalize wr.alloc (.cells #[.int .i64 X.ty, .int .i64 X.lv, .string X.tx, .string X.nm, .slice A0 X.val.length c0, .slice B0 X.ats.length d0, .int .i64 X.fr, .int .i64 X.tu] 89) = W0 at *
        have y4 : W0.cell? ⟨b, 4, none⟩ = some (.map (some mb)) := Y0.out.cell 4
        have y5 : W0.cell? ⟨b, 5, none⟩ = some (.map (some tb)) := Y0.out.cell 5
        have zy := Y0.out.lt
        have g0 : W0.cell? ⟨wr.heap.size, 0, none⟩ = some (.int .i64 X.ty) := P0.out.cell 0
        have g1 : W0.cell? ⟨wr.heap.size, 1, none⟩ = some (.int .i64 X.lv) := P0.out.cell 1
        have g2 : W0.cell? ⟨wr.heap.size, 2, none⟩ = some (.string X.tx) := P0.out.cell 2
        have g3 : W0.cell? ⟨wr.heap.size, 3, none⟩ = some (.string X.nm) := P0.out.cell 3
        have g4 : W0.cell? ⟨wr.heap.size, 4, none⟩ = some (.slice A0 X.val.length c0) := P0.out.cell 4
        have g5 : W0.cell? ⟨wr.heap.size, 5, none⟩ = some (.slice B0 X.ats.length d0) := P0.out.cell 5
        have g6 : W0.cell? ⟨wr.heap.size, 6, none⟩ = some (.int .i64 X.fr) := P0.out.cell 6
        have g7 : W0.cell? ⟨wr.heap.size, 7, none⟩ = some (.int .i64 X.tu) := P0.out.cell 7
        go_region_with (go_at_call 43; refine (HPm.out _ (by exact M0.out)).mono ?_; rintro e w3 ⟨rfl, m3, k3⟩)
        all_goals
          have k3' : Kp mb W0 w3 := (Kp.refl mb W0).drew.trans k3
          have M3 := Lib.hid m3
          have K3' := Lib.hid (K0.out.trans (K3.of_kp1 k3'))
          have T3 := Lib.hid (MapAt.kp T0.out k3' (by omega))
          have P3 := BoxAt.kp P0.out k3' (by omega)
          have O3 := Lib.hid (own_kp O0.out k3' (by omega))
          have p3 : w3.cell? ⟨wr.heap.size, 3, none⟩ = some (.string X.nm) := P3.cell 3
          have zp3 := P3.lt
          have h23 : w2.heap.size ≤ w3.heap.size := K3'.out.low.size
          clear m3 k3 k3' P3 g0 g1 g2 g3 g4 g5 g6 g7 y4 y5 zy
          generalize putL over ⟨X, A0, c0, B0, d0⟩ Mm = pr at *
          obtain ⟨L', bw⟩ := pr
          dsimp only at *
          cases bw with
          | false =>
            simp only [Bool.false_eq_true, if_false] at HS2
            go_wp2_with fail
            go_roundw
            case rel => exact ⟨i + 1, jk, u8, L', Tt, tw, by go_num, rfl, rfl, by omega, by omega, by omega, HS2, K3', M3, T3, O3⟩
            case measure => simp [intOf]; omega
          | true =>
            simp only [if_true] at HS2
            have htz : (tw.length : Int) ≤ 1000000 := by omega
            skip
            go_wp2_with (at_builtin; refine wpList_append_own _ rfl _ _ 27 rfl w2.heap.size 9 i0 (.string ⟨#[]⟩) 1 16 Tryz.underlying27 hi hz0 hz1 hz2 rfl (by decide) _ _ _ rfl (own_alloc O3.out (.cells #[.string X.nm] 9)) ⟨w3.heap.size, 0, none⟩ 1 1 [.string X.nm] rfl rfl ?c1 ?c2 ?c3 ?c4 ?c5 ?_)
            case c1 =>
              intro j u hj
              match j, hj with
              | 0, hj => simp at hj; subst hj; simp [Addr.add]
            case c2 => intro u hu; simp at hu; subst hu; rfl
            case c3 => unfold maxLen; omega
            case c4 => omega
            case c5 => simp; omega
            intro v' w4 hown' hgrow _
            have hrw : ∀ k, u8.ownBlock = some k → w2.heap.size ≤ k := fun k hk => (O3.out.lt k hk).1
            have K4 := Lib.hid (K3.grown (K3'.out.trans (K3.of_below ((Below.refl w3.heap.size w3).alloc (Nat.le_refl _) (.cells #[.string X.nm] 9)))) hgrow hrw)
            have M4 := Lib.hid (MapAt.grown (M3.out.alloc (.cells #[.string X.nm] 9)) hgrow (fun k hk => by have := hrw k hk; omega))
            have T4 := Lib.hid (MapAt.grown (T3.out.alloc (.cells #[.string X.nm] 9)) hgrow (fun k hk => by have := hrw k hk; omega))
            have O4 := Lib.hid hown'
            clear hown' hgrow
            go_wp2
            go_roundw
            case rel => exact ⟨i + 1, jk, v', L', Tt, tw ++ [X.nm], by go_num, rfl, rfl, by omega, by omega, by simp; omega, HS2, K4, M4, T4, Lib.hid (by have := O4.out; simpa using this)⟩
            case measure => simp [intOf]; omega
      · have e1 : (X.ty == 1) = false := by rw [beq_eq_false_iff_ne]; exact t1
        rw [if_neg t1] at hS
        by_cases t2 : X.ty = 2
        · have e2 : (X.ty == 2) = true := by rw [beq_iff_eq]; exact t2
          rw [if_pos t2] at hS
          have HS2 := Lib.hid hS
          clear hS t1 t2
          go_upto_region 12 with fail
          have hW0l : wr.heap.size < (wr.alloc (.cells #[.int .i64 X.ty, .int .i64 X.lv, .string X.tx, .string X.nm, .slice A0 X.val.length c0, .slice B0 X.ats.length d0, .int .i64 X.fr, .int .i64 X.tu] 89)).heap.size := by simp
          have P0 := Lib.hid (BoxAt.new wr #[.int .i64 X.ty, .int .i64 X.lv, .string X.tx, .string X.nm, .slice A0 X.val.length c0, .slice B0 X.ats.length d0, .int .i64 X.fr, .int .i64 X.tu] 89)
          have M0 := Lib.hid (HT.out.alloc (.cells #[.int .i64 X.ty, .int .i64 X.lv, .string X.tx, .string X.nm, .slice A0 X.val.length c0, .slice B0 X.ats.length d0, .int .i64 X.fr, .int .i64 X.tu] 89))
          have T0 := Lib.hid (HM.out.alloc (.cells #[.int .i64 X.ty, .int .i64 X.lv, .string X.tx, .string X.nm, .slice A0 X.val.length c0, .slice B0 X.ats.length d0, .int .i64 X.fr, .int .i64 X.tu] 89))
          have O0 := Lib.hid (own_alloc HO.out (.cells #[.int .i64 X.ty, .int .i64 X.lv, .string X.tx, .string X.nm, .slice A0 X.val.length c0, .slice B0 X.ats.length d0, .int .i64 X.fr, .int .i64 X.tu] 89))
          have K0 := Lib.hid (HK.out.trans (K3.of_below ((Below.refl wr.heap.size wr).alloc (Nat.le_refl _) (.cells #[.int .i64 X.ty, .int .i64 X.lv, .string X.tx, .string X.nm, .slice A0 X.val.length c0, .slice B0 X.ats.length d0, .int .i64 X.fr, .int .i64 X.tu] 89))))
          have Y0 := Lib.hid (BoxAt.alloc (HK.out.box B2.out ne1 ne2) (.cells #[.int .i64 X.ty, .int .i64 X.lv, .string X.tx, .string X.nm, .slice A0 X.val.length c0, .slice B0 X.ats.length d0, .int .i64 X.fr, .int .i64 X.tu] 89))
          clear g0 g1 g2 g3 g4 g5 g6 g7 y4 y5 zy
          generalize wr.alloc (.cells #[.int .i64 X.ty, .int .i64 X.lv, .string X.tx, .string X.nm, .slice A0 X.val.length c0, .slice B0 X.ats.length d0, .int .i64 X.fr, .int .i64 X.tu] 89) = W0 at *
          have y4 : W0.cell? ⟨b, 4, none⟩ = some (.map (some mb)) := Y0.out.cell 4
          have y5 : W0.cell? ⟨b, 5, none⟩ = some (.map (some tb)) := Y0.out.cell 5
          have zy := Y0.out.lt
          have g0 : W0.cell? ⟨wr.heap.size, 0, none⟩ = some (.int .i64 X.ty) := P0.out.cell 0
          have g1 : W0.cell? ⟨wr.heap.size, 1, none⟩ = some (.int .i64 X.lv) := P0.out.cell 1
          have g2 : W0.cell? ⟨wr.heap.size, 2, none⟩ = some (.string X.tx) := P0.out.cell 2
          have g3 : W0.cell? ⟨wr.heap.size, 3, none⟩ = some (.string X.nm) := P0.out.cell 3
          have g4 : W0.cell? ⟨wr.heap.size, 4, none⟩ = some (.slice A0 X.val.length c0) := P0.out.cell 4
          have g5 : W0.cell? ⟨wr.heap.size, 5, none⟩ = some (.slice B0 X.ats.length d0) := P0.out.cell 5
          have g6 : W0.cell? ⟨wr.heap.size, 6, none⟩ = some (.int .i64 X.fr) := P0.out.cell 6
          have g7 : W0.cell? ⟨wr.heap.size, 7, none⟩ = some (.int .i64 X.tu) := P0.out.cell 7
          go_region_with (go_at_call 43; refine (HPt.out _ (by exact M0.out)).mono ?_; rintro e w3 ⟨rfl, m3, k3⟩)
          all_goals
            have k3' : Kp tb W0 w3 := (Kp.refl tb W0).drew.trans k3
            have M3 := Lib.hid m3
            have K3' := Lib.hid (K0.out.trans (K3.of_kp2 k3'))
            have T3 := Lib.hid (MapAt.kp T0.out k3' (by omega))
            have P3 := BoxAt.kp P0.out k3' (by omega)
            have O3 := Lib.hid (own_kp O0.out k3' (by omega))
            have p3 : w3.cell? ⟨wr.heap.size, 3, none⟩ = some (.string X.nm) := P3.cell 3
            have zp3 := P3.lt
            have h23 : w2.heap.size ≤ w3.heap.size := K3'.out.low.size
            clear m3 k3 k3' P3 g0 g1 g2 g3 g4 g5 g6 g7 y4 y5 zy
            generalize putL over ⟨X, A0, c0, B0, d0⟩ Tt = pr at *
            obtain ⟨L', bw⟩ := pr
            dsimp only at *
            cases bw with
            | false =>
              simp only [Bool.false_eq_true, if_false] at HS2
              go_wp2_with fail
              go_roundw
              case rel => exact ⟨i + 1, jk, u8, Mm, L', tw, by go_num, rfl, rfl, by omega, by omega, by omega, HS2, K3', T3, M3, O3⟩
              case measure => simp [intOf]; omega
            | true =>
              simp only [if_true] at HS2
              have htz : (tw.length : Int) ≤ 1000000 := by omega
              have hcz : ¬ 9223372036854775807 < 1 + X.nm.size := by omega
              go_wp2_with (at_builtin; refine wpList_append_own _ rfl _ _ 27 rfl w2.heap.size 9 i0 (.string ⟨#[]⟩) 1 16 Tryz.underlying27 hi hz0 hz1 hz2 rfl (by decide) _ _ _ rfl (own_alloc O3.out (.cells #[.string (⟨#[45]⟩ ++ X.nm)] 9)) ⟨w3.heap.size, 0, none⟩ 1 1 [.string (⟨#[45]⟩ ++ X.nm)] rfl rfl ?c1 ?c2 ?c3 ?c4 ?c5 ?_)
              case c1 =>
                intro j u hj
                match j, hj with
                | 0, hj => simp at hj; subst hj; simp [Addr.add]
              case c2 => intro u hu; simp at hu; subst hu; rfl
              case c3 => unfold maxLen; omega
              case c4 => omega
              case c5 => simp; omega
              intro v' w4 hown' hgrow _
              have hrw : ∀ k, u8.ownBlock = some k → w2.heap.size ≤ k := fun k hk => (O3.out.lt k hk).1
              have K4 := Lib.hid (K3.grown (K3'.out.trans (K3.of_below ((Below.refl w3.heap.size w3).alloc (Nat.le_refl _) (.cells #[.string (⟨#[45]⟩ ++ X.nm)] 9)))) hgrow hrw)
              have M4 := Lib.hid (MapAt.grown (M3.out.alloc (.cells #[.string (⟨#[45]⟩ ++ X.nm)] 9)) hgrow (fun k hk => by have := hrw k hk; omega))
              have T4 := Lib.hid (MapAt.grown (T3.out.alloc (.cells #[.string (⟨#[45]⟩ ++ X.nm)] 9)) hgrow (fun k hk => by have := hrw k hk; omega))
              have O4 := Lib.hid hown'
              clear hown' hgrow
              go_wp2
              go_roundw
              case rel => exact ⟨i + 1, jk, v', Mm, L', tw ++ [(⟨#[45]⟩ ++ X.nm)], by go_num, rfl, rfl, by omega, by omega, by simp; omega, HS2, K4, T4, M4, Lib.hid (by have := O4.out; simpa using this)⟩
              case measure => simp [intOf]; omega
        · have e2 : (X.ty == 2) = false := by rw [beq_eq_false_iff_ne]; exact t2
          rw [if_neg t2] at hS
          by_cases t3 : X.ty = 3
          · have e3 : (X.ty == 3) = true := by rw [beq_iff_eq]; exact t3
            rw [if_pos t3] at hS
            have HS2 := Lib.hid hS
            have a1 := Lib.hid (K3.trans HK.out (K3.of_below ((Below.refl wr.heap.size wr).alloc (Nat.le_refl _) (.cells #[.int .i64 X.ty, .int .i64 X.lv, .string X.tx, .string X.nm, .slice A0 X.val.length c0, .slice B0 X.ats.length d0, .int .i64 X.fr, .int .i64 X.tu] 89))))
            have O3 := Lib.hid (own_alloc HO.out (.cells #[.int .i64 X.ty, .int .i64 X.lv, .string X.tx, .string X.nm, .slice A0 X.val.length c0, .slice B0 X.ats.length d0, .int .i64 X.fr, .int .i64 X.tu] 89))
            clear hS t1 t2 t3
            go_wp2_with fail
            go_roundw
            case rel => exact ⟨i + 1, jk + 1, u8, Mm, Tt, tw, by go_num, by go_num, rfl, by omega, by omega, by omega, HS2, a1, Lib.hid (HM.out.alloc _), Lib.hid (HT.out.alloc _), O3⟩
            case measure => simp [intOf]; omega
          · have e3 : (X.ty == 3) = false := by rw [beq_eq_false_iff_ne]; exact t3
            rw [if_neg t3] at hS
            have HS2 := Lib.hid hS
            have a1 := Lib.hid (K3.trans HK.out (K3.of_below ((Below.refl wr.heap.size wr).alloc (Nat.le_refl _) (.cells #[.int .i64 X.ty, .int .i64 X.lv, .string X.tx, .string X.nm, .slice A0 X.val.length c0, .slice B0 X.ats.length d0, .int .i64 X.fr, .int .i64 X.tu] 89))))
            have O3 := Lib.hid (own_alloc HO.out (.cells #[.int .i64 X.ty, .int .i64 X.lv, .string X.tx, .string X.nm, .slice A0 X.val.length c0, .slice B0 X.ats.length d0, .int .i64 X.fr, .int .i64 X.tu] 89))
            clear hS t1 t2 t3
            go_wp2_with fail
            go_roundw
            case rel => exact ⟨i + 1, jk, u8, Mm, Tt, tw, by go_num, rfl, rfl, by omega, by omega, by omega, HS2, a1, Lib.hid (HM.out.alloc _), Lib.hid (HT.out.alloc _), O3⟩
            case measure => simp [intOf]; omega
    · obtain rfl : i = LL := by omega
      have f1 : decide ((i : Int) < (i : Int)) = false := decide_eq_false (by omega)
      have hS := HS.out
      rw [List.drop_eq_nil_of_le (by rw [HVL.out]; exact Nat.le_refl _), addS] at hS
      have hR := HR.out
      rw [← hS] at hR
      have HR2 := Lib.hid hR
      have Y := Lib.hid (HK.out.box B2.out ne1 ne2)
      clear hS hR HS
      go_wp2
      go_ret2
      refine ⟨vs, u8, w1, w2, HV1.out, K1.out, ⟨hb1, hm1, ht1⟩, Bw.out, HK.out, HV2.out, ?_⟩
      rw [HR2.out]
      exact ⟨rfl, HO.out, Y.out, HM.out, HT.out⟩
end Go.Proofs.YtpgiboblonlddaaGreatDoor

namespace Go.Proofs.YtpgiboblonlddaaGreatDoor
open Go.RowKit Go.ChangeMaps
set_option linter.unusedVariables false
set_option linter.unusedSimpArgs false
def lookL (n : ByteArray) : List VE → Option VE
  | [] => none
  | y :: r => if y.x.nm = n then some y else lookL n r
def putS (ty : Int) (over : Bool) : List VE → List VE → List VE
  | [], L => L
  | e :: r, L => putS ty over r (if e.x.ty = ty then (putL over e L).1 else L)
theorem addS_m (over : Bool) : ∀ (vs : List VE) (z : BS), (addS over vs z).m = putS 1 over vs z.m
  | [], z => rfl
  | e :: r, z => by
    rw [addS, putS, addS_m over r]
    unfold addE
    split
    · rfl
    · split
      · rfl
      · split <;> rfl
theorem addS_t (over : Bool) : ∀ (vs : List VE) (z : BS), (addS over vs z).t = putS 2 over vs z.t
  | [], z => rfl
  | e :: r, z => by
    rw [addS, putS, addS_t over r]
    unfold addE
    split
    · next h => rw [if_neg (show ¬ e.x.ty = 2 by omega)]
    · split
      · rfl
      · split <;> rfl
theorem look_some {n : ByteArray} : ∀ {L : List VE} {e : VE}, lookL n L = some e → e ∈ L ∧ e.x.nm = n
  | y :: L, e, h => by
    rw [lookL] at h
    split at h
    · next hn => cases h; exact ⟨List.mem_cons_self .., hn⟩
    · obtain ⟨h1, h2⟩ := look_some h
      exact ⟨List.mem_cons_of_mem _ h1, h2⟩
theorem putS_all (ty : Int) (over : Bool) (Q : VE → Prop) : ∀ (vs L : List VE), (∀ e ∈ vs, Q e) → (∀ e ∈ L, Q e) → ∀ e ∈ putS ty over vs L, Q e
  | [], L, _, h => h
  | e :: r, L, h1, h2 => by
    rw [putS]
    refine putS_all ty over Q r _ (fun f hf => h1 f (List.mem_cons_of_mem _ hf)) ?_
    have he := h1 e (List.mem_cons_self ..)
    have hput : ∀ L : List VE, (∀ f ∈ L, Q f) → ∀ f ∈ (putL over e L).1, Q f := by
      intro L
      induction L with
      | nil => intro _ f hf; rw [putL, List.mem_singleton] at hf; rw [hf]; exact he
      | cons y L ih =>
        intro hL f hf
        rw [putL] at hf
        split at hf
        · rcases List.mem_cons.1 hf with hf | hf
          · rw [hf]
            cases over
            · exact hL y (List.mem_cons_self ..)
            · exact he
          · exact hL f (List.mem_cons_of_mem _ hf)
        · rcases List.mem_cons.1 hf with hf | hf
          · rw [hf]; exact hL y (List.mem_cons_self ..)
          · exact ih (fun f hf => hL f (List.mem_cons_of_mem _ hf)) f hf
    split
    · exact hput L h2
    · exact h2
end Go.Proofs.YtpgiboblonlddaaGreatDoor
