/-
  Several texts put together (part 18): what the law and the program call, walked; their contracts.
-/
import Derived.Test.YthlccfjhgejlmaaGreatDoorQ16
import Derived.Test.YthlccfjhgejlmaaGreatDoorQ17
import Derived.Deep.RegionLaw
namespace Go.Proofs.YthlccfjhgejlmaaGreatDoor
open Go.RowKit Go.Shelf Go.ChangeMaps
set_option linter.unusedVariables false
set_option linter.unusedSimpArgs false
def TG.text (x : TG) : List UInt8 := x.t.text
def onceT : List TG → List TG → List TG
  | [], acc => acc
  | x :: r, acc => onceT r (if x.text ∈ acc.map TG.text then acc else acc ++ [x])
def seenV (l : List TG) : List (ByteArray × Value) := l.map fun x => (mk x.t.text, .agg #[])
theorem look_seen (t : List UInt8) : ∀ l : List TG, lookV (mk t) (seenV l) = if t ∈ l.map TG.text then some (.agg #[]) else none
  | [] => rfl
  | x :: r => by
    show (if mk x.t.text = mk t then some (Value.agg #[]) else lookV (mk t) (seenV r)) = _
    rw [look_seen t r, List.map_cons]
    by_cases h : x.t.text = t
    · rw [if_pos (by rw [h]), if_pos (by rw [show x.text = t from h]; exact List.mem_cons_self ..)]
    · rw [if_neg (fun k => h (mk_inj k))]
      by_cases g : t ∈ r.map TG.text
      · rw [if_pos g, if_pos (List.mem_cons_of_mem _ g)]
      · rw [if_neg g, if_neg (fun k => by rcases List.mem_cons.1 k with k | k; exact h k.symm; exact g k)]
theorem put_seen (x : TG) (l : List TG) (h : x.text ∉ l.map TG.text) : putV (mk x.t.text) (.agg #[]) (seenV l) = seenV (l ++ [x]) := by
  induction l with
  | nil => rfl
  | cons y r ih =>
    rw [List.map_cons] at h
    show (if mk y.t.text = mk x.t.text then _ else _) = _
    rw [if_neg (fun k => h (by rw [show y.text = x.text from mk_inj k]; exact List.mem_cons_self ..))]
    show _ :: putV (mk x.t.text) (.agg #[]) (seenV r) = _
    rw [ih (fun k => h (List.mem_cons_of_mem _ k))]
    rfl
theorem once_len : ∀ (l acc : List TG), (onceT l acc).length ≤ acc.length + l.length
  | [], acc => by rw [onceT]; simp
  | x :: r, acc => by
    rw [onceT]
    have h := once_len r (if x.text ∈ acc.map TG.text then acc else acc ++ [x])
    have h2 : (if x.text ∈ acc.map TG.text then acc else acc ++ [x]).length ≤ acc.length + 1 := by split <;> simp
    rw [List.length_cons]
    omega
theorem once_mem : ∀ (l acc : List TG) (x : TG), x ∈ onceT l acc → x ∈ acc ∨ x ∈ l
  | [], acc, x, h => .inl h
  | y :: r, acc, x, h => by
    rw [onceT] at h
    rcases once_mem r _ x h with h | h
    · split at h
      · exact .inl h
      · rcases List.mem_append.1 h with h | h
        · exact .inl h
        · rw [List.mem_singleton] at h; exact .inr (by rw [h]; exact List.mem_cons_self ..)
    · exact .inr (List.mem_cons_of_mem _ h)
theorem meth_string (a b d s : Value) (n : Nat) (w : World) : Sem.run Tryz.prog (method (n + 1) 26 (.agg #[a, b, d, s]) "String") w = .ok (13, .agg #[a, b, d, s]) w := by kernel_rfl
theorem enters_string : ∀ (args : Array Value) (w : World), (callFunc 13 args).run Tryz.prog w = .ok (.enter 13 args) w := fun args w => by
  go_simp
theorem emptyZero (w : World) : (zeroValue 76).run Tryz.prog w = .ok (.agg #[]) w := by kernel_rfl
set_option maxHeartbeats 8000000 in
set_option maxRecDepth 100000 in
theorem once_any (v : Value) (l : List TG) (w : World) (hl : TgsAt w v l) (ha : ∀ x ∈ l, x.At w) (hn : l.length ≤ 1000000) :
    Calls Tryz.prog 23 #[v] w fun e w' => ∃ u, e = .returned u ∧ OwnTg w.heap.size w' u (onceT l []) ∧ Below w.heap.size w w' := by
  obtain ⟨A, c, rfl, hc, hcs⟩ := hl
  obtain ⟨i0, hinf, hz0, hz1, hz2⟩ := info_parts infoTg
  have HA := Lib.hid ha
  have HCs := Lib.hid hcs
  have hmk := fun W => run_makeMap (P := Tryz.prog) 75 W
  have hn0 : (l.length : Int) ≤ 1000000 := by omega
  clear ha hcs
  go_enter Tryz.func23, Tryz.ntmps23
  go_wp2
  go_loopw [3, 13] (fun t3 t13 wr => ∃ (i : Nat) (acc : List TG), t13 = .int .i64 i ∧ i ≤ l.length ∧ acc.length ≤ i ∧ Hid (onceT (l.drop i) acc = onceT l []) ∧ Hid (OwnTg (w.heap.size + 1) wr t3 acc) ∧ Hid (MapAt wr w.heap.size (mapV (seenV acc)) (seenV acc).length) ∧ Hid (Below w.heap.size w wr)) (fun _ t13 _ => l.length - (intOf t13).toNat)
  case atStart => exact ⟨0, [], rfl, Nat.zero_le _, Nat.zero_le _, Lib.hid rfl, Lib.hid (OwnTg.nil _ _), Lib.hid (MapAt.new w w.heap.size #[] 0 rfl), Lib.hid ((Below.refl _ _).alloc (Nat.le_refl _) _)⟩
  case round =>
    obtain ⟨i, acc, rfl, hi, hac, HO, HW, HM, HB⟩ := hrel
    have hi0 : (i : Int) ≤ 1000000 := by omega
    by_cases hlt : i < l.length
    · have f1 : decide ((i : Int) < (l.length : Int)) = true := decide_eq_true (by omega)
      have f2 : (i : Int) < (l.length : Int) := by omega
      obtain ⟨b, rfl, hb, hcx⟩ := HCs.out (by omega)
      have hdr : l.drop i = l[i] :: l.drop (i + 1) := List.drop_eq_getElem_cons hlt
      have hx := hcx i _ (List.getElem?_eq_getElem hlt)
      have hxA := HA.out _ (List.getElem_mem hlt)
      generalize l[i] = x at *
      obtain ⟨g0, g1, g2, g3⟩ := hx
      have g0 := (HB.out.cell (p := ⟨b, i * 4, none⟩) hb).trans g0
      have g1 := (HB.out.cell (p := ⟨b, i * 4 + 1, none⟩) hb).trans g1
      have g2 := (HB.out.cell (p := ⟨b, i * 4 + 2, none⟩) hb).trans g2
      have g3 := (HB.out.cell (p := ⟨b, i * 4 + 3, none⟩) hb).trans g3
      have hbr : b < wr.heap.size := Nat.lt_of_lt_of_le hb HB.out.size
      have hmb := HM.out.lt
      have hTx := Lib.hid (BoxAt.new wr #[.string (mk x.t.L), .string (mk x.t.S), .string (mk x.t.R), .slice x.A x.t.vs.length x.c] 26)
      have HB1 := Lib.hid (below_new HB.out (Nat.le_refl _) (.cells #[.string (mk x.t.L), .string (mk x.t.S), .string (mk x.t.R), .slice x.A x.t.vs.length x.c] 26))
      have HW1 := Lib.hid (HW.out.later ((Below.refl wr.heap.size wr).alloc (Nat.le_refl _) (.cells #[.string (mk x.t.L), .string (mk x.t.S), .string (mk x.t.R), .slice x.A x.t.vs.length x.c] 26)))
      have HM1 := Lib.hid (HM.out.alloc (.cells #[.string (mk x.t.L), .string (mk x.t.S), .string (mk x.t.R), .slice x.A x.t.vs.length x.c] 26))
      have hSt := fun W (h : Below w.heap.size w W) => stringG (hxA.later h)
      have HSt := Lib.hid hSt
      have HXA := Lib.hid hxA
      have HDr := Lib.hid hdr
      have hMe := meth_string (.string (mk x.t.L)) (.string (mk x.t.S)) (.string (mk x.t.R)) (.slice x.A x.t.vs.length x.c)
      have hEn := enters_string
      clear hcx hSt hxA hdr HW HM
      go_wp2_with fail
      go_at_call 13
      refine (HSt.out _ HB1.out).mono ?_
      rintro e w2 ⟨rfl, b2⟩
      have HB2 := Lib.hid (HB1.out.trans (b2.mono HB1.out.size))
      have HW2 := Lib.hid (HW1.out.later b2)
      have hM2 : MapAt w2 w.heap.size (mapV (seenV acc)) (seenV acc).length := HM1.out.later b2
      have hT2 : TgBox w2 wr.heap.size x := hTx.out.later b2
      have hlk := run_look_v (t := 75) Tryz.underlying75 Tryz.underlying9 w2 (emptyZero _) w.heap.size (seenV acc) hM2 (mk x.t.text)
      rw [look_seen] at hlk
      obtain ⟨x0, x1, x2, x3⟩ := hT2.cells
      have hx2 := BoxAt.lt hT2
      have hw2 := HB2.out.size
      have hmb2 := hM2.lt
      have HT2 := Lib.hid hT2
      have HM2 := Lib.hid hM2
      clear hMe hEn hTx HW1 HM1 HB1 b2 hM2 hT2 HSt g0 g1 g2 g3
      by_cases hin : x.t.text ∈ acc.map TG.text
      · rw [if_pos hin] at hlk
        have HO2 := Lib.hid (show onceT (l.drop (i + 1)) acc = onceT l [] by
          rw [← HO.out, HDr.out, onceT, if_pos (show x.text ∈ acc.map TG.text from hin)])
        clear hin
        simp only [Option.getD_some, Option.isSome_some] at hlk
        go_wp2_with fail
        refine ⟨⟨i + 1, acc, by go_num, hlt, by omega, HO2, Lib.hid (HW2.out.later ((Below.refl w2.heap.size w2).alloc (Nat.le_refl _) _)), Lib.hid (HM2.out.alloc _), Lib.hid (below_new HB2.out (Nat.le_refl _) _)⟩, by simp [intOf]; omega⟩
      · rw [if_neg hin] at hlk
        simp only [Option.getD_none, Option.isSome_none] at hlk
        have hpu := run_put_v (t := 75) Tryz.underlying75 Tryz.underlying9 (w2.alloc (.cells #[] 76)) w.heap.size (seenV acc) (HM2.out.alloc _) (mk x.t.text) (.agg #[])
        rw [put_seen x acc hin] at hpu
        have HO2 := Lib.hid (show onceT (l.drop (i + 1)) (acc ++ [x]) = onceT l [] by
          rw [← HO.out, HDr.out, onceT, if_neg (show ¬ x.text ∈ acc.map TG.text from hin)])
        clear hin
        go_upto_region 10 with fail
        have hG : w2.grownBy (setBlock (w2.alloc (.cells #[] 76)) w.heap.size (.map (mapV (seenV (acc ++ [x]))) (seenV (acc ++ [x])).length)) (some w.heap.size) := grown_two (World.grownBy_alloc _ _ _) (grown_setBlock _ _ _)
        have HM3 := Lib.hid ((HM2.out.alloc (.cells #[] 76)).set (mapV (seenV (acc ++ [x]))) (seenV (acc ++ [x])).length)
        generalize setBlock (w2.alloc (.cells #[] 76)) w.heap.size (.map (mapV (seenV (acc ++ [x]))) (seenV (acc ++ [x])).length) = V at *
        have HW3 := HW2.out.grown hG (.inr (fun e => by have := World.ownsRow.lt HW2.out _ e; omega))
        have hT3 : TgBox V wr.heap.size x := (hG.block wr.heap.size hx2 (fun e => by injection e; omega)).trans HT2.out
        have HB3 := Lib.hid (HB2.out.grown hG hw2 (fun k e => by injection e; omega))
        obtain ⟨y0, y1, y2, y3⟩ := hT3.cells
        have hx3 := BoxAt.lt hT3
        have hw3 := HB3.out.size
        have hw23 := hG.size
        have hNew : TgBox (V.alloc (.cells #[.string (mk x.t.L), .string (mk x.t.S), .string (mk x.t.R), .slice x.A x.t.vs.length x.c] 26)) V.heap.size x := BoxAt.new V _ _
        have hRow := World.ownsRow.alloc HW3 (.cells #[.string (mk x.t.L), .string (mk x.t.S), .string (mk x.t.R), .slice x.A x.t.vs.length x.c] 26)
        have HMl := HM3.out.lt
        have HNew := Lib.hid hNew
        clear hG hT3 hNew hpu hlk x0 x1 x2 x3
        go_wp2_with (at_builtin; refine wpList_append_own _ rfl _ _ 29 rfl (w.heap.size + 1) 26 i0 zTg 4 72 Tryz.underlying29 hinf hz0 hz1 hz2 rfl (by decide) _ _ _ rfl hRow ⟨V.heap.size, 0, none⟩ 1 1 x.cells rfl rfl HNew.out.news (tgOne x) (by unfold maxLen; omega) (by omega) (by simp; omega) ?_; intro v' w4 hown' hgrow hnil)
        have hvr : ∀ k, u3.ownBlock = some k → w.heap.size + 1 ≤ k := fun k e => (World.ownsRow.lt HW3 k e).1
        have HW4 := Lib.hid (OwnTg.push hown')
        have hG2 : V.grownBy w4 u3.ownBlock := grown_two (World.grownBy_alloc _ _ _) hgrow
        have HB4 := Lib.hid (HB3.out.grown hG2 hw3 (fun k e => by have := hvr k e; omega))
        have HM4 := Lib.hid (show MapAt w4 w.heap.size (mapV (seenV (acc ++ [x]))) (seenV (acc ++ [x])).length from (hG2.block _ HMl (fun e => by have := hvr _ e.symm; omega)).trans HM3.out)
        clear hown' hgrow hnil hvr hG2 hRow
        go_wp2_with fail
        refine ⟨⟨i + 1, acc ++ [x], by go_num, hlt, by simp; omega, HO2, HW4, HM4, HB4⟩, by simp [intOf]; omega⟩
    · obtain rfl : i = l.length := by omega
      have f1 : decide ((l.length : Int) < (l.length : Int)) = false := decide_eq_false (by omega)
      have HO2 := Lib.hid (show acc = onceT l [] by have := HO.out; rw [List.drop_length, onceT] at this; exact this)
      go_wp2
      go_ret
      refine ⟨_, rfl, ?_, HB.out⟩
      rw [← HO2.out]
      exact ownsRow_base' HW.out (by omega)
end Go.Proofs.YthlccfjhgejlmaaGreatDoor

namespace Go.Proofs.YthlccfjhgejlmaaGreatDoor
open Go.RowKit Go.Shelf Go.ChangeMaps
set_option linter.unusedVariables false
set_option linter.unusedSimpArgs false
abbrev Pth := List (List UInt8)
structure ND where
  mkn ::
  b : Nat
  iv : Value
  fv : Value
  I : List TG
  F : List TG
  mb : Option Nat
  ks : List (List UInt8 × Nat)
def ptrV (b : Nat) : Value := .pointer (some ⟨b, 0, none⟩)
def kidsV (ks : List (List UInt8 × Nat)) : List (ByteArray × Value) := ks.map fun p => (mk p.1, ptrV p.2)
def lookK (k : List UInt8) : List (List UInt8 × Nat) → Option Nat
  | [] => none
  | y :: r => if y.1 = k then some y.2 else lookK k r
theorem look_kids (k : List UInt8) : ∀ ks, lookV (mk k) (kidsV ks) = (lookK k ks).map ptrV
  | [] => rfl
  | y :: r => by
    show (if mk y.1 = mk k then some (ptrV y.2) else lookV (mk k) (kidsV r)) = _
    rw [look_kids k r, lookK]
    by_cases h : y.1 = k
    · rw [if_pos (by rw [h]), if_pos h]; rfl
    · rw [if_neg (fun e => h (mk_inj e)), if_neg h]
theorem put_kids (k : List UInt8) (b : Nat) : ∀ ks, lookK k ks = none → putV (mk k) (ptrV b) (kidsV ks) = kidsV (ks ++ [(k, b)])
  | [], _ => rfl
  | y :: r, h => by
    rw [lookK] at h
    split at h
    · cases h
    · next hn =>
      show (if mk y.1 = mk k then _ else (mk y.1, ptrV y.2) :: putV (mk k) (ptrV b) (kidsV r)) = _
      rw [if_neg (fun e => hn (mk_inj e)), put_kids k b r h]
      rfl
theorem look_app (k k' : List UInt8) (b : Nat) : ∀ ks, lookK k (ks ++ [(k', b)]) = (lookK k ks).or (if k' = k then some b else none)
  | [] => by rw [List.nil_append, lookK, lookK]; rfl
  | y :: r => by
    rw [List.cons_append, lookK, lookK, look_app k k' b r]
    split <;> rfl
structure NdAt (B : Nat) (W : World) (n : ND) : Prop where
  box : BoxAt W n.b #[n.iv, n.fv, .map n.mb] 45
  oi : OwnTg B W n.iv n.I
  ov : OwnTg B W n.fv n.F
  mp : ∀ m, n.mb = some m → MapAt W m (mapV (kidsV n.ks)) (kidsV n.ks).length ∧ B ≤ m
  mn : n.mb = none → n.ks = []
  lo : B ≤ n.b
theorem own_keep {B : Nat} {W W' : World} {v : Value} {l : List TG} (h : OwnTg B W v l) (g : ∀ k, v.ownBlock = some k → W'.heap[k]? = W.heap[k]?) : OwnTg B W' v l := by
  refine ⟨h.1, ?_⟩
  rcases h.2 with hn | ⟨q, cap, cur, e, hb, hg, rest⟩
  · exact .inl hn
  · exact .inr ⟨q, cap, cur, e, hb, (g q (by rw [e]; rfl)).trans hg, rest⟩
theorem NdAt.keep {B : Nat} {W W' : World} {n : ND} (h : NdAt B W n) (g0 : W'.heap[n.b]? = W.heap[n.b]?) (g1 : ∀ k, n.iv.ownBlock = some k → W'.heap[k]? = W.heap[k]?) (g2 : ∀ k, n.fv.ownBlock = some k → W'.heap[k]? = W.heap[k]?) (g3 : ∀ k, n.mb = some k → W'.heap[k]? = W.heap[k]?) : NdAt B W' n :=
  ⟨g0.trans h.box, own_keep h.oi g1, own_keep h.ov g2, fun m hm => ⟨(g3 m hm).trans (h.mp m hm).1, (h.mp m hm).2⟩, h.mn, h.lo⟩
structure Owns (o : Nat → Pth × Nat) (p : Pth) (n : ND) : Prop where
  b : o n.b = (p, 0)
  i : ∀ k, n.iv.ownBlock = some k → o k = (p, 1)
  f : ∀ k, n.fv.ownBlock = some k → o k = (p, 2)
  m : ∀ k, n.mb = some k → o k = (p, 3)
structure St (B : Nat) (W : World) (rb : Nat) (N : Pth → Option ND) : Prop where
  own : ∃ o : Nat → Pth × Nat, ∀ p n, N p = some n → NdAt B W n ∧ Owns o p n
  root : ∃ n, N [] = some n ∧ n.b = rb
  link : ∀ p n, N p = some n → ∀ k, lookK k n.ks = (N (p ++ [k])).map (·.b)
  pre : ∀ p k, N p = none → N (p ++ [k]) = none
theorem NdAt.lts {B : Nat} {W : World} {n : ND} (h : NdAt B W n) : n.b < W.heap.size ∧ (∀ k, n.iv.ownBlock = some k → B ≤ k ∧ k < W.heap.size) ∧ (∀ k, n.fv.ownBlock = some k → B ≤ k ∧ k < W.heap.size) ∧ (∀ k, n.mb = some k → B ≤ k ∧ k < W.heap.size) :=
  ⟨h.box.lt, fun k e => World.ownsRow.lt h.oi k e, fun k e => World.ownsRow.lt h.ov k e, fun k e => ⟨(h.mp k e).2, (h.mp k e).1.lt⟩⟩
theorem St.keep {B : Nat} {W W' : World} {rb : Nat} {N : Pth → Option ND} (h : St B W rb N) (g : ∀ k, B ≤ k → k < W.heap.size → (∃ p n, N p = some n ∧ (k = n.b ∨ n.iv.ownBlock = some k ∨ n.fv.ownBlock = some k ∨ n.mb = some k)) → W'.heap[k]? = W.heap[k]?) : St B W' rb N := by
  obtain ⟨⟨o, ho⟩, hr, hl, hp⟩ := h
  refine ⟨⟨o, fun p n hn => ?_⟩, hr, hl, hp⟩
  obtain ⟨h1, h2⟩ := ho p n hn
  obtain ⟨l0, l1, l2, l3⟩ := h1.lts
  exact ⟨h1.keep (g _ h1.lo l0 ⟨p, n, hn, .inl rfl⟩) (fun k e => g k (l1 k e).1 (l1 k e).2 ⟨p, n, hn, .inr (.inl e)⟩) (fun k e => g k (l2 k e).1 (l2 k e).2 ⟨p, n, hn, .inr (.inr (.inl e))⟩) (fun k e => g k (l3 k e).1 (l3 k e).2 ⟨p, n, hn, .inr (.inr (.inr e))⟩), h2⟩
theorem St.later {B : Nat} {W W' : World} {rb : Nat} {N : Pth → Option ND} (h : St B W rb N) (g : Below W.heap.size W W') : St B W' rb N := h.keep fun k _ hk _ => g.block k hk
def setN (N : Pth → Option ND) (p : Pth) (n : ND) : Pth → Option ND := fun q => if q = p then some n else N q
theorem setN_same (N : Pth → Option ND) (p : Pth) (n : ND) : setN N p n p = some n := if_pos rfl
theorem setN_other {N : Pth → Option ND} {p q : Pth} {n : ND} (h : q ≠ p) : setN N p n q = N q := if_neg h
theorem St.upd {B : Nat} {W W' : World} {rb : Nat} {N : Pth → Option ND} (h : St B W rb N) {p : Pth} {n n' : ND} (hp : N p = some n) (hb : n'.b = n.b) (hks : n'.ks = n.ks) (hnd : NdAt B W' n')
    (hfr : ∀ k, k < W.heap.size → k ≠ n.b → n.iv.ownBlock ≠ some k → n.fv.ownBlock ≠ some k → n.mb ≠ some k → W'.heap[k]? = W.heap[k]?) (j : Nat)
    (hi : n'.iv.ownBlock = n.iv.ownBlock ∨ (j = 1 ∧ ∀ k, n'.iv.ownBlock = some k → W.heap.size ≤ k)) (hf : n'.fv.ownBlock = n.fv.ownBlock ∨ (j = 2 ∧ ∀ k, n'.fv.ownBlock = some k → W.heap.size ≤ k)) (hm : n'.mb = n.mb ∨ (j = 3 ∧ ∀ k, n'.mb = some k → W.heap.size ≤ k)) :
    St B W' rb (setN N p n') := by
  obtain ⟨⟨o, ho⟩, ⟨r, hr, hrb⟩, hl, hpr⟩ := h
  obtain ⟨hn0, ho0⟩ := ho p n hp
  obtain ⟨l0, l1, l2, l3⟩ := hn0.lts
  refine ⟨⟨fun k => if k < W.heap.size then o k else (p, j), fun q m hq => ?_⟩, ?_, fun q m hq k => ?_, fun q k hq => ?_⟩
  · by_cases hqp : q = p
    · subst hqp
      rw [setN_same] at hq
      cases hq
      refine ⟨hnd, ?_, fun k e => ?_, fun k e => ?_, fun k e => ?_⟩
      · rw [hb]; rw [if_pos l0]; exact ho0.b
      · rcases hi with hi | ⟨hj, hi⟩
        · rw [hi] at e; rw [if_pos (l1 k e).2]; exact ho0.i k e
        · rw [if_neg (by have := hi k e; omega), hj]
      · rcases hf with hf | ⟨hj, hf⟩
        · rw [hf] at e; rw [if_pos (l2 k e).2]; exact ho0.f k e
        · rw [if_neg (by have := hf k e; omega), hj]
      · rcases hm with hm | ⟨hj, hm⟩
        · rw [hm] at e; rw [if_pos (l3 k e).2]; exact ho0.m k e
        · rw [if_neg (by have := hm k e; omega), hj]
    · rw [setN_other hqp] at hq
      obtain ⟨h1, h2⟩ := ho q m hq
      obtain ⟨m0, m1, m2, m3⟩ := h1.lts
      have key : ∀ k i, k < W.heap.size → o k = (q, i) → W'.heap[k]? = W.heap[k]? := fun k i hk e => by
        have ne : ∀ i', o k ≠ (p, i') := fun i' e' => hqp (by rw [e] at e'; exact (Prod.mk.inj e').1)
        exact hfr k hk (fun e' => ne 0 (by rw [e']; exact ho0.b)) (fun e' => ne 1 (ho0.i k e')) (fun e' => ne 2 (ho0.f k e')) (fun e' => ne 3 (ho0.m k e'))
      refine ⟨h1.keep (key _ 0 m0 h2.b) (fun k e => key k 1 (m1 k e).2 (h2.i k e)) (fun k e => key k 2 (m2 k e).2 (h2.f k e)) (fun k e => key k 3 (m3 k e).2 (h2.m k e)), ?_, fun k e => ?_, fun k e => ?_, fun k e => ?_⟩
      · rw [if_pos m0]; exact h2.b
      · rw [if_pos (m1 k e).2]; exact h2.i k e
      · rw [if_pos (m2 k e).2]; exact h2.f k e
      · rw [if_pos (m3 k e).2]; exact h2.m k e
  · by_cases hp0 : ([] : Pth) = p
    · subst hp0
      rw [hp] at hr
      cases hr
      exact ⟨n', setN_same _ _ _, hb.trans hrb⟩
    · exact ⟨r, by rw [setN_other hp0]; exact hr, hrb⟩
  · have hset : ∀ q', (setN N p n' q').map (·.b) = (N q').map (·.b) := fun q' => by
      by_cases e : q' = p
      · rw [e, setN_same, hp]; simp [hb]
      · rw [setN_other e]
    rw [hset]
    by_cases hqp : q = p
    · subst hqp
      rw [setN_same] at hq
      cases hq
      rw [hks]
      exact hl q n hp k
    · rw [setN_other hqp] at hq
      exact hl q m hq k
  · by_cases hqp : q = p
    · rw [hqp, setN_same] at hq; cases hq
    · rw [setN_other hqp] at hq
      have hn := hpr q k hq
      by_cases e : q ++ [k] = p
      · rw [e, hp] at hn; cases hn
      · rw [setN_other e]; exact hn
abbrev brCells : Array Value := #[.slice none 0 0, .slice none 0 0, .map none]
def freshN (b : Nat) : ND := ⟨b, .slice none 0 0, .slice none 0 0, [], [], none, []⟩
theorem St.kid {B : Nat} {W : World} {rb : Nat} {N : Pth → Option ND} (h : St B W rb N) (hB : B ≤ W.heap.size) {p : Pth} {n : ND} (hp : N p = some n) {k : List UInt8} (hno : N (p ++ [k]) = none) {m : Nat} (hm : n.mb = some m) :
    St B (setBlock (W.alloc (.cells brCells 45)) m (.map (mapV (kidsV (n.ks ++ [(k, W.heap.size)]))) (kidsV (n.ks ++ [(k, W.heap.size)])).length)) rb (setN (setN N p { n with ks := n.ks ++ [(k, W.heap.size)] }) (p ++ [k]) (freshN W.heap.size)) := by
  obtain ⟨⟨o, ho⟩, ⟨r, hr, hrb⟩, hl, hpr⟩ := h
  obtain ⟨hn0, ho0⟩ := ho p n hp
  obtain ⟨l0, l1, l2, l3⟩ := hn0.lts
  have hml := l3 m hm
  have hne : p ++ [k] ≠ p := fun e => by have := congrArg List.length e; simp at this
  have hold : ∀ i, i < W.heap.size → i ≠ m → (setBlock (W.alloc (.cells brCells 45)) m (.map (mapV (kidsV (n.ks ++ [(k, W.heap.size)]))) (kidsV (n.ks ++ [(k, W.heap.size)])).length)).heap[i]? = W.heap[i]? := fun i hi him => by
    rw [(grown_setBlock _ m _).block i (by simp; omega) (fun e => him (by injection e))]
    exact ((Below.refl W.heap.size W).alloc (Nat.le_refl _) _).block i hi
  have hnew : BoxAt (setBlock (W.alloc (.cells brCells 45)) m (.map (mapV (kidsV (n.ks ++ [(k, W.heap.size)]))) (kidsV (n.ks ++ [(k, W.heap.size)])).length)) W.heap.size brCells 45 :=
    ((grown_setBlock _ m _).block W.heap.size (by simp) (fun e => by injection e; omega)).trans (BoxAt.new W brCells 45)
  have hmap : MapAt (setBlock (W.alloc (.cells brCells 45)) m (.map (mapV (kidsV (n.ks ++ [(k, W.heap.size)]))) (kidsV (n.ks ++ [(k, W.heap.size)])).length)) m (mapV (kidsV (n.ks ++ [(k, W.heap.size)]))) (kidsV (n.ks ++ [(k, W.heap.size)])).length := ((hn0.mp m hm).1.alloc _).set _ _
  generalize setBlock (W.alloc (.cells brCells 45)) m (.map (mapV (kidsV (n.ks ++ [(k, W.heap.size)]))) (kidsV (n.ks ++ [(k, W.heap.size)])).length) = W' at *
  have nm : ∀ i j, o i = (p, j) → j ≠ 3 → i ≠ m := fun i j e hj e' => by rw [e', ho0.m m hm] at e; exact hj (Prod.mk.inj e).2.symm
  refine ⟨⟨fun i => if i < W.heap.size then o i else (p ++ [k], 0), fun q x hq => ?_⟩, ?_, fun q x hq k' => ?_, fun q k' hq => ?_⟩
  · by_cases hqk : q = p ++ [k]
    · subst hqk
      rw [setN_same] at hq
      cases hq
      refine ⟨⟨hnew, OwnTg.nil _ _, OwnTg.nil _ _, fun m h => (by cases h), fun _ => rfl, hB⟩, ⟨?_, fun k h => (by cases h), fun k h => (by cases h), fun k h => (by cases h)⟩⟩
      show (if W.heap.size < W.heap.size then _ else _) = _
      rw [if_neg (Nat.lt_irrefl _)]
    · rw [setN_other hqk] at hq
      by_cases hqp : q = p
      · subst hqp
        rw [setN_same] at hq
        cases hq
        refine ⟨⟨(hold _ l0 (nm _ 0 ho0.b (by omega))).trans hn0.box, own_keep hn0.oi fun i e => hold i (l1 i e).2 (nm i 1 (ho0.i i e) (by omega)), own_keep hn0.ov fun i e => hold i (l2 i e).2 (nm i 2 (ho0.f i e) (by omega)), fun m' e => ?_, fun e => ?_, hn0.lo⟩, ?_, fun i e => ?_, fun i e => ?_, fun i e => ?_⟩
        · have : m' = m := by have h1 : n.mb = some m' := e; rw [hm] at h1; exact (Option.some.inj h1).symm
          subst this
          exact ⟨hmap, hml.1⟩
        · have h1 : n.mb = none := e
          rw [hm] at h1
          cases h1
        · show (if n.b < W.heap.size then _ else _) = _
          rw [if_pos l0]; exact ho0.b
        · rw [if_pos (l1 i e).2]; exact ho0.i i e
        · rw [if_pos (l2 i e).2]; exact ho0.f i e
        · rw [if_pos (l3 i e).2]; exact ho0.m i e
      · rw [setN_other hqp] at hq
        obtain ⟨h1, h2⟩ := ho q x hq
        obtain ⟨m0, m1, m2, m3⟩ := h1.lts
        have nq : ∀ i j, o i = (q, j) → i ≠ m := fun i j e e' => hqp (by rw [e', ho0.m m hm] at e; exact (Prod.mk.inj e).1.symm)
        refine ⟨h1.keep (hold _ m0 (nq _ 0 h2.b)) (fun i e => hold i (m1 i e).2 (nq i 1 (h2.i i e))) (fun i e => hold i (m2 i e).2 (nq i 2 (h2.f i e))) (fun i e => hold i (m3 i e).2 (nq i 3 (h2.m i e))), ?_, fun i e => ?_, fun i e => ?_, fun i e => ?_⟩
        · rw [if_pos m0]; exact h2.b
        · rw [if_pos (m1 i e).2]; exact h2.i i e
        · rw [if_pos (m2 i e).2]; exact h2.f i e
        · rw [if_pos (m3 i e).2]; exact h2.m i e
  · by_cases hp0 : ([] : Pth) = p
    · subst hp0
      rw [hp] at hr
      cases hr
      exact ⟨{ n with ks := n.ks ++ [(k, W.heap.size)] }, by rw [setN_other (by simp)]; exact setN_same _ _ _, hrb⟩
    · exact ⟨r, by rw [setN_other (by simp), setN_other hp0]; exact hr, hrb⟩
  · have hset : ∀ q', q' ≠ p ++ [k] → (setN (setN N p { n with ks := n.ks ++ [(k, W.heap.size)] }) (p ++ [k]) (freshN W.heap.size) q').map (·.b) = (N q').map (·.b) := fun q' e => by
      rw [setN_other e]
      by_cases e2 : q' = p
      · rw [e2, setN_same, hp]; rfl
      · rw [setN_other e2]
    by_cases hqk : q = p ++ [k]
    · subst hqk
      rw [setN_same] at hq
      cases hq
      rw [hset _ (fun e => by have := congrArg List.length e; simp at this), hpr _ k' hno]
      rfl
    · rw [setN_other hqk] at hq
      by_cases hqp : q = p
      · subst hqp
        rw [setN_same] at hq
        cases hq
        show lookK k' (n.ks ++ [(k, W.heap.size)]) = _
        rw [look_app, hl q n hp k']
        by_cases hk : k = k'
        · subst hk
          rw [hno, setN_same, if_pos rfl]
          rfl
        · rw [if_neg hk, Option.or_none, hset _ (fun e => hk (by have := List.append_cancel_left e; simpa using this.symm))]
      · rw [setN_other hqp] at hq
        rw [hl q x hq k', hset _ (fun e => hqp (by have := (List.append_inj' e rfl).1; exact this))]
  · by_cases hqk : q = p ++ [k]
    · subst hqk; rw [setN_same] at hq; cases hq
    · rw [setN_other hqk] at hq
      by_cases hqp : q = p
      · subst hqp; rw [setN_same] at hq; cases hq
      · rw [setN_other hqp] at hq
        have h1 := hpr q k' hq
        rw [setN_other (show q ++ [k'] ≠ p ++ [k] from fun e => hqp (List.append_inj' e rfl).1), setN_other (show q ++ [k'] ≠ p from fun e => by rw [e, hp] at h1; cases h1)]
        exact h1
def TB (N : Pth → Option ND) (k : Nat) : Prop := ∃ p n, N p = some n ∧ (k = n.b ∨ n.iv.ownBlock = some k ∨ n.fv.ownBlock = some k ∨ n.mb = some k)
structure Fr (N N' : Pth → Option ND) (W W' : World) : Prop where
  size : W.heap.size ≤ W'.heap.size
  same : ∀ k, k < W.heap.size → ¬ TB N k → W'.heap[k]? = W.heap[k]?
  old : ∀ k, k < W.heap.size → TB N' k → TB N k
theorem Fr.trans {N N' N'' : Pth → Option ND} {W W' W'' : World} (h : Fr N N' W W') (g : Fr N' N'' W' W'') : Fr N N'' W W'' :=
  ⟨Nat.le_trans h.size g.size, fun k hk hn => (g.same k (Nat.lt_of_lt_of_le hk h.size) (fun e => hn (h.old k hk e))).trans (h.same k hk hn), fun k hk e => h.old k hk (g.old k (Nat.lt_of_lt_of_le hk h.size) e)⟩
theorem Fr.of_below {N : Pth → Option ND} {W W' : World} (g : Below W.heap.size W W') : Fr N N W W' := ⟨g.size, fun k hk _ => g.block k hk, fun _ _ e => e⟩
theorem Fr.box {N N' : Pth → Option ND} {W W' : World} (h : Fr N N' W W') {k : Nat} {cs : Array Value} {t : TypeId} (hb : BoxAt W k cs t) (hn : ¬ TB N k) : BoxAt W' k cs t := (h.same k hb.lt hn).trans hb
theorem Fr.cell {N N' : Pth → Option ND} {W W' : World} (h : Fr N N' W W') {b o : Nat} {v : Value} (hb : b < W.heap.size) (hc : W.cell? ⟨b, o, none⟩ = some v) (hn : ¬ TB N b) : W'.cell? ⟨b, o, none⟩ = some v := (World.cell?_of_block (a := ⟨b, o, none⟩) (h.same b hb hn)).trans hc
theorem Fr.upd {W W' : World} {N : Pth → Option ND} {p : Pth} {n n' : ND} (hp : N p = some n) (hb : n'.b = n.b) (hsz : W.heap.size ≤ W'.heap.size)
    (hfr : ∀ k, k < W.heap.size → k ≠ n.b → n.iv.ownBlock ≠ some k → n.fv.ownBlock ≠ some k → n.mb ≠ some k → W'.heap[k]? = W.heap[k]?)
    (hi : n'.iv.ownBlock = n.iv.ownBlock ∨ (∀ k, n'.iv.ownBlock = some k → W.heap.size ≤ k)) (hf : n'.fv.ownBlock = n.fv.ownBlock ∨ (∀ k, n'.fv.ownBlock = some k → W.heap.size ≤ k)) (hm : n'.mb = n.mb ∨ (∀ k, n'.mb = some k → W.heap.size ≤ k)) :
    Fr N (setN N p n') W W' := by
  refine ⟨hsz, fun k hk hn => hfr k hk (fun e => hn ⟨p, n, hp, .inl e⟩) (fun e => hn ⟨p, n, hp, .inr (.inl e)⟩) (fun e => hn ⟨p, n, hp, .inr (.inr (.inl e))⟩) (fun e => hn ⟨p, n, hp, .inr (.inr (.inr e))⟩), fun k hk e => ?_⟩
  obtain ⟨q, m, hq, e⟩ := e
  by_cases hqp : q = p
  · rw [hqp, setN_same] at hq
    cases hq
    refine ⟨p, n, hp, ?_⟩
    rcases e with e | e | e | e
    · exact .inl (e.trans hb)
    · rcases hi with hi | hi
      · exact .inr (.inl (hi ▸ e))
      · have := hi k e; omega
    · rcases hf with hf | hf
      · exact .inr (.inr (.inl (hf ▸ e)))
      · have := hf k e; omega
    · rcases hm with hm | hm
      · exact .inr (.inr (.inr (hm ▸ e)))
      · have := hm k e; omega
  · rw [setN_other hqp] at hq
    exact ⟨q, m, hq, e⟩
theorem Fr.kid {W : World} {N : Pth → Option ND} {p : Pth} {n : ND} (hp : N p = some n) {k : List UInt8} {m : Nat} (hm : n.mb = some m) (o : Obj) (ks : List (List UInt8 × Nat)) (obj : Obj) :
    Fr N (setN (setN N p { n with ks := ks }) (p ++ [k]) (freshN W.heap.size)) W (setBlock (W.alloc o) m obj) := by
  refine ⟨?_, fun i hi hn => ?_, fun i hi e => ?_⟩
  · have := (grown_setBlock (W.alloc o) m obj).size
    simp at this
    omega
  · rw [(grown_setBlock _ m _).block i (by simp; omega) (fun e => hn ⟨p, n, hp, .inr (.inr (.inr (by rw [hm, e])))⟩)]
    exact ((Below.refl W.heap.size W).alloc (Nat.le_refl _) _).block i hi
  · obtain ⟨q, x, hq, e⟩ := e
    by_cases hqk : q = p ++ [k]
    · rw [hqk, setN_same] at hq
      cases hq
      rcases e with e | e | e | e
      · have : i = W.heap.size := e
        omega
      · cases e
      · cases e
      · cases e
    · rw [setN_other hqk] at hq
      by_cases hqp : q = p
      · rw [hqp, setN_same] at hq
        cases hq
        exact ⟨p, n, hp, e⟩
      · rw [setN_other hqp] at hq
        exact ⟨q, x, hq, e⟩
theorem St.ge {B : Nat} {W : World} {rb : Nat} {N : Pth → Option ND} (h : St B W rb N) : ∀ k, TB N k → B ≤ k ∧ k < W.heap.size := by
  rintro k ⟨p, n, hp, e⟩
  obtain ⟨o, ho⟩ := h.own
  obtain ⟨h1, _⟩ := ho p n hp
  obtain ⟨l0, l1, l2, l3⟩ := h1.lts
  rcases e with e | e | e | e
  · rw [e]; exact ⟨h1.lo, l0⟩
  · exact l1 k e
  · exact l2 k e
  · exact l3 k e
end Go.Proofs.YthlccfjhgejlmaaGreatDoor

namespace Go.Proofs.YthlccfjhgejlmaaGreatDoor
open Go.RowKit Go.Shelf Go.ChangeMaps
set_option linter.unusedVariables false
set_option linter.unusedSimpArgs false
theorem ptrZero (w : World) : (zeroValue 78).run Tryz.prog w = .ok (.pointer none) w := by kernel_rfl
theorem mapB_nil (w : World) : (binOp .eql 43 (.map none) (.map none)).run Tryz.prog w = .ok (.bool true) w := by kernel_rfl
theorem mapB_some (b : Nat) (w : World) : (binOp .eql 43 (.map (some b)) (.map none)).run Tryz.prog w = .ok (.bool false) w := by kernel_rfl
def cont (N : Pth → Option ND) (q : Pth) : Option (List TG × List TG) := (N q).map fun n => (n.I, n.F)
theorem owns_ne {o : Nat → Pth × Nat} {p : Pth} {n : ND} (h : Owns o p n) : (∀ k, n.iv.ownBlock = some k → k ≠ n.b) ∧ (∀ k, n.fv.ownBlock = some k → k ≠ n.b) ∧ (∀ k, n.mb = some k → k ≠ n.b) ∧ (∀ k j, n.iv.ownBlock = some k → n.fv.ownBlock = some j → k ≠ j) ∧ (∀ k j, n.iv.ownBlock = some k → n.mb = some j → k ≠ j) ∧ (∀ k j, n.fv.ownBlock = some k → n.mb = some j → k ≠ j) := by
  have key : ∀ k j a b : Nat, o k = (p, a) → o j = (p, b) → a ≠ b → k ≠ j := fun k j a b h1 h2 hab e => by
    subst e
    rw [h1] at h2
    exact hab (Prod.mk.inj h2).2
  exact ⟨fun k e => key k _ 1 0 (h.i k e) h.b (by omega), fun k e => key k _ 2 0 (h.f k e) h.b (by omega), fun k e => key k _ 3 0 (h.m k e) h.b (by omega), fun k j e e' => key k j 1 2 (h.i k e) (h.f j e') (by omega), fun k j e e' => key k j 1 3 (h.i k e) (h.m j e') (by omega), fun k j e e' => key k j 2 3 (h.f k e) (h.m j e') (by omega)⟩
set_option maxHeartbeats 8000000 in
set_option maxRecDepth 100000 in
theorem grown_any {B : Nat} {W : World} {rb : Nat} {N : Pth → Option ND} (h : St B W rb N) (hB : B ≤ W.heap.size) {p : Pth} {n : ND} (hp : N p = some n) (k : List UInt8) :
    Calls Tryz.prog 50 #[.pointer (some ⟨n.b, 0, none⟩), .string (mk k)] W fun e w' => ∃ N' n', e = .returned (.pointer (some ⟨n'.b, 0, none⟩)) ∧ St B w' rb N' ∧ N' (p ++ [k]) = some n' ∧
      (∀ q, cont N' q = if q = p ++ [k] then some ((cont N q).getD ([], [])) else cont N q) ∧ Fr N N' W w' ∧ Below B W w' := by
  have hq := mapB_nil
  have hmk := fun W => run_makeMap (P := Tryz.prog) 43 W
  obtain ⟨o, ho⟩ := h.own
  obtain ⟨hn, hon⟩ := ho p n hp
  obtain ⟨ne0, ne1, ne2, _⟩ := owns_ne hon
  obtain ⟨l0, l1, l2, l3⟩ := hn.lts
  have hlo := hn.lo
  have c2 : W.cell? ⟨n.b, 2, none⟩ = some (.map n.mb) := hn.box.cell 2
  cases hmb : n.mb with
  | none =>
    rw [hmb] at c2
    have z2 : W.frozen? ⟨n.b, 2, none⟩ = false := Lib.frozen_of_heap hn.box 2
    obtain ⟨W1, hW1⟩ : ∃ W1, (W.setCell ⟨n.b, 2, none⟩ (.map (some W.heap.size))).alloc (.map #[] 0) = W1 := ⟨_, rfl⟩
    have hsz : W1.heap.size = W.heap.size + 1 := by rw [← hW1]; simp
    have hkeep : ∀ i, i < W.heap.size → i ≠ n.b → W1.heap[i]? = W.heap[i]? := fun i hi hin => by
      rw [← hW1]
      have h1 : ((W.setCell ⟨n.b, 2, none⟩ (.map (some W.heap.size))).alloc (.map #[] 0)).heap[i]? = (W.setCell ⟨n.b, 2, none⟩ (.map (some W.heap.size))).heap[i]? := Lib.alloc_old _ _ i (by simpa using hi)
      rw [h1]
      exact Below.heap_setCell W ⟨n.b, 2, none⟩ _ i hin
    have hbox : BoxAt W1 n.b #[n.iv, n.fv, .map (some W.heap.size)] 45 := by
      rw [← hW1]
      have h1 := hn.box
      have h2 : BoxAt (W.setCell ⟨n.b, 2, none⟩ (.map (some W.heap.size))) n.b #[n.iv, n.fv, .map (some W.heap.size)] 45 := by
        unfold BoxAt at h1 ⊢
        simp [World.setCell, Array.getElem?_modify, h1]
      exact h2.alloc _
    have hM1 : MapAt W1 W.heap.size (mapV (kidsV [])) (kidsV []).length := by
      rw [← hW1]
      exact MapAt.new _ _ _ _ (by simp)
    have hks := hn.mn hmb
    have hSt1 : St B W1 rb (setN N p { n with mb := some W.heap.size }) := h.upd hp rfl rfl ⟨hbox, own_keep hn.oi fun i e => hkeep i (l1 i e).2 (ne0 i e), own_keep hn.ov fun i e => hkeep i (l2 i e).2 (ne1 i e), fun m e => by
        have h1 : some W.heap.size = some m := e
        cases h1
        show MapAt W1 W.heap.size (mapV (kidsV n.ks)) (kidsV n.ks).length ∧ _
        rw [hks]
        exact ⟨hM1, hB⟩, fun e => (by have h1 : some W.heap.size = none := e; cases h1), hlo⟩
      (fun i hi h1 _ _ _ => hkeep i hi h1) 3 (.inl rfl) (.inl rfl) (.inr ⟨rfl, fun i e => (by have h1 : some W.heap.size = some i := e; cases h1; exact Nat.le_refl _)⟩)
    have hFr0 : Fr N (setN N p { n with mb := some W.heap.size }) W W1 := Fr.upd hp rfl (by omega) (fun i hi h1 _ _ _ => hkeep i hi h1) (.inl rfl) (.inl rfl) (.inr (fun i e => (by have h1 : some W.heap.size = some i := e; cases h1; exact Nat.le_refl _)))
    have hBl1 : Below B W W1 := by
      rw [← hW1]
      exact ((Below.refl B W).setCell (p := ⟨n.b, 2, none⟩) hlo _).alloc (by simpa using hB) _
    obtain ⟨n1, hn1⟩ : ∃ n1 : ND, { n with mb := some W.heap.size } = n1 := ⟨_, rfl⟩
    rw [hn1] at hSt1 hFr0
    have hb1 : n1.b = n.b := by rw [← hn1]
    have hk1 : n1.ks = [] := by rw [← hn1]; exact hks
    have hm1 : n1.mb = some W.heap.size := by rw [← hn1]
    have hcont : ∀ q, cont (setN N p n1) q = cont N q := fun q => by
      unfold cont
      by_cases e : q = p
      · subst e; rw [setN_same, hp, ← hn1]; rfl
      · rw [setN_other e]
    obtain ⟨N1, hN1⟩ : ∃ N1, setN N p n1 = N1 := ⟨_, rfl⟩
    have hp1 : N1 p = some n1 := by rw [← hN1]; exact setN_same _ _ _
    rw [hN1] at hSt1 hcont hFr0
    have hFr1 := hFr0
    clear hFr0
    have hl1 := hSt1.link p n1 hp1 k
    rw [← hk1] at hM1
    have hc1 : W1.cell? ⟨n1.b, 2, none⟩ = some (.map (some W.heap.size)) := by rw [hb1]; exact hbox.cell 2
    have hnl : n1.b < W1.heap.size := by rw [hb1]; exact hbox.lt
    have hne : n1.b ≠ W.heap.size := by rw [hb1]; omega
    have hBw1 : B ≤ W1.heap.size := by omega
    have hBm : B ≤ W.heap.size := hB
    rw [← hb1] at c2 z2 l0
    have HW1 := Lib.hid hW1
    have HB1 := Lib.hid hb1
    go_enter Tryz.func50, Tryz.ntmps50
    rw [← HB1.out]
    have hX : (W.setCell ⟨n1.b, 2, none⟩ (.map (some W.heap.size))).alloc (.map #[] 0) = W1 := by rw [HB1.out]; exact HW1.out
    clear hn hon ne0 ne1 ne2 l1 l2 l3 hkeep hbox h hW1 hb1 hn1 hN1 hk1 hks
    have hBe := Lib.hid hBw1
    go_upto_region 3 with fail
    clear hX
    generalize W.heap.size = m at *
    clear hsz
    have hlk := run_look_w (t := 43) Tryz.underlying43 Tryz.underlying9 W1 (ptrZero _) m (kidsV n1.ks) hM1 (mk k)
    rw [look_kids, hl1] at hlk
    cases hk : N1 (p ++ [k]) with
    | some n2 =>
      rw [hk] at hlk
      simp only [Option.map_some, Option.getD_some, ptrV] at hlk
      have HSt1 := Lib.hid hSt1
      have HBl1 := Lib.hid hBl1
      have HK := Lib.hid hk
      have HFr1 := Lib.hid hFr1
      clear hSt1 hBl1 hk hM1 hl1 hFr1
      go_wp2
      go_ret
      refine ⟨N1, n2, rfl, HSt1.out, HK.out, fun q => ?_, HFr1.out, HBl1.out⟩
      rw [← hcont q]
      by_cases e : q = p ++ [k]
      · subst e
        rw [if_pos rfl]
        unfold cont
        rw [HK.out]
        rfl
      · rw [if_neg e]
    | none =>
      rw [hk] at hlk
      simp only [Option.map_none, Option.getD_none] at hlk
      have hKid := hSt1.kid hBw1 hp1 hk hm1
      have hpu := run_put_v (t := 43) Tryz.underlying43 Tryz.underlying9 (W1.alloc (.cells brCells 45)) m (kidsV n1.ks) (MapAt.alloc hM1 _) (mk k) (ptrV W1.heap.size)
      rw [put_kids k _ _ (by rw [hl1, hk]; rfl)] at hpu
      have hM2 : MapAt (setBlock (W1.alloc (.cells brCells 45)) m (.map (mapV (kidsV (n1.ks ++ [(k, W1.heap.size)]))) (kidsV (n1.ks ++ [(k, W1.heap.size)])).length)) m (mapV (kidsV (n1.ks ++ [(k, W1.heap.size)]))) (kidsV (n1.ks ++ [(k, W1.heap.size)])).length := (MapAt.alloc hM1 _).set _ _
      have hlk2 := run_look_w (t := 43) Tryz.underlying43 Tryz.underlying9 _ (ptrZero _) m (kidsV (n1.ks ++ [(k, W1.heap.size)])) hM2 (mk k)
      rw [look_kids, look_app, hl1, hk] at hlk2
      simp only [Option.map_none, Option.none_or, if_true, Option.map_some, Option.getD_some, ptrV] at hlk2
      simp only [ptrV] at hpu
      have c2 : (setBlock (W1.alloc (.cells brCells 45)) m (.map (mapV (kidsV (n1.ks ++ [(k, W1.heap.size)]))) (kidsV (n1.ks ++ [(k, W1.heap.size)])).length)).cell? ⟨n1.b, 2, none⟩ = some (.map (some m)) := by
        rw [World.cell?_of_block ((grown_setBlock _ m _).block n1.b (by simp; omega) (fun e => hne (by injection e)))]
        rw [((Below.refl W1.heap.size W1).alloc (Nat.le_refl _) _).cell (p := ⟨n1.b, 2, none⟩) hnl]
        exact hc1
      have hnl2 : n1.b < (setBlock (W1.alloc (.cells brCells 45)) m (.map (mapV (kidsV (n1.ks ++ [(k, W1.heap.size)]))) (kidsV (n1.ks ++ [(k, W1.heap.size)])).length)).heap.size := by
        have := (grown_setBlock (W1.alloc (.cells brCells 45)) m (.map (mapV (kidsV (n1.ks ++ [(k, W1.heap.size)]))) (kidsV (n1.ks ++ [(k, W1.heap.size)])).length)).size
        simp at this ⊢
        omega
      have hBl2 : Below B W (setBlock (W1.alloc (.cells brCells 45)) m (.map (mapV (kidsV (n1.ks ++ [(k, W1.heap.size)]))) (kidsV (n1.ks ++ [(k, W1.heap.size)])).length)) := (hBl1.alloc hBw1 _).grown (grown_setBlock _ _ _) (by simp; omega) (fun j e => by injection e; omega)
      have HFr1 := Lib.hid hFr1
      have HFr2 := Lib.hid (Fr.kid (W := W1) hp1 (k := k) hm1 (.cells brCells 45) (n1.ks ++ [(k, W1.heap.size)]) (.map (mapV (kidsV (n1.ks ++ [(k, W1.heap.size)]))) (kidsV (n1.ks ++ [(k, W1.heap.size)])).length))
      have HKid := Lib.hid hKid
      clear hFr1
      have HBl2 := Lib.hid hBl2
      have HK := Lib.hid hk
      clear hSt1 hBl1 hk hM1 hl1 hKid hM2 hBl2
      go_wp2
      go_ret
      refine ⟨_, freshN W1.heap.size, rfl, HKid.out, setN_same _ _ _, fun q => ?_, HFr1.out.trans HFr2.out, HBl2.out⟩
      rw [← hcont q]
      unfold cont
      by_cases e : q = p ++ [k]
      · subst e
        rw [if_pos rfl, setN_same, HK.out]
        rfl
      · rw [if_neg e, setN_other e]
        by_cases e2 : q = p
        · subst e2
          rw [setN_same, hp1]
          rfl
        · rw [setN_other e2]
  | some m =>
    rw [hmb] at c2
    have hSt1 := h
    have hM1 : MapAt W m (mapV (kidsV n.ks)) (kidsV n.ks).length := (hn.mp m hmb).1
    have hl1 := h.link p n hp k
    have hBw1 := hB
    have hp1 := hp
    have hm1 := hmb
    have hBl1 : Below B W W := Below.refl _ _
    have hFr1 : Fr N N W W := ⟨Nat.le_refl _, fun _ _ _ => rfl, fun _ _ e => e⟩
    have hc1 := c2
    have hnl := l0
    have hne : n.b ≠ m := fun e => ne2 m hmb e.symm
    have hBm : B ≤ m := (l3 m hmb).1
    have hqs := mapB_some m
    clear hn hon ne0 ne1 ne2 l1 l2 l3 h ho hmb hp
    go_enter Tryz.func50, Tryz.ntmps50
    go_upto_region 3 with fail
    have hlk := run_look_w (t := 43) Tryz.underlying43 Tryz.underlying9 W (ptrZero _) m (kidsV n.ks) hM1 (mk k)
    rw [look_kids, hl1] at hlk
    cases hk : N (p ++ [k]) with
    | some n2 =>
      rw [hk] at hlk
      simp only [Option.map_some, Option.getD_some, ptrV] at hlk
      have HSt1 := Lib.hid hSt1
      have HBl1 := Lib.hid hBl1
      have HK := Lib.hid hk
      have HFr1 := Lib.hid hFr1
      clear hSt1 hBl1 hk hM1 hl1 hFr1
      go_wp2
      go_ret
      refine ⟨N, n2, rfl, HSt1.out, HK.out, fun q => ?_, HFr1.out, HBl1.out⟩
      by_cases e : q = p ++ [k]
      · subst e
        rw [if_pos rfl]
        unfold cont
        rw [HK.out]
        rfl
      · rw [if_neg e]
    | none =>
      rw [hk] at hlk
      simp only [Option.map_none, Option.getD_none] at hlk
      have hKid := hSt1.kid hBw1 hp1 hk hm1
      have hpu := run_put_v (t := 43) Tryz.underlying43 Tryz.underlying9 (W.alloc (.cells brCells 45)) m (kidsV n.ks) (MapAt.alloc hM1 _) (mk k) (ptrV W.heap.size)
      rw [put_kids k _ _ (by rw [hl1, hk]; rfl)] at hpu
      have hM2 : MapAt (setBlock (W.alloc (.cells brCells 45)) m (.map (mapV (kidsV (n.ks ++ [(k, W.heap.size)]))) (kidsV (n.ks ++ [(k, W.heap.size)])).length)) m (mapV (kidsV (n.ks ++ [(k, W.heap.size)]))) (kidsV (n.ks ++ [(k, W.heap.size)])).length := (MapAt.alloc hM1 _).set _ _
      have hlk2 := run_look_w (t := 43) Tryz.underlying43 Tryz.underlying9 _ (ptrZero _) m (kidsV (n.ks ++ [(k, W.heap.size)])) hM2 (mk k)
      rw [look_kids, look_app, hl1, hk] at hlk2
      simp only [Option.map_none, Option.none_or, if_true, Option.map_some, Option.getD_some, ptrV] at hlk2
      simp only [ptrV] at hpu
      have c2 : (setBlock (W.alloc (.cells brCells 45)) m (.map (mapV (kidsV (n.ks ++ [(k, W.heap.size)]))) (kidsV (n.ks ++ [(k, W.heap.size)])).length)).cell? ⟨n.b, 2, none⟩ = some (.map (some m)) := by
        rw [World.cell?_of_block ((grown_setBlock _ m _).block n.b (by simp; omega) (fun e => hne (by injection e)))]
        rw [((Below.refl W.heap.size W).alloc (Nat.le_refl _) _).cell (p := ⟨n.b, 2, none⟩) hnl]
        exact hc1
      have hnl2 : n.b < (setBlock (W.alloc (.cells brCells 45)) m (.map (mapV (kidsV (n.ks ++ [(k, W.heap.size)]))) (kidsV (n.ks ++ [(k, W.heap.size)])).length)).heap.size := by
        have := (grown_setBlock (W.alloc (.cells brCells 45)) m (.map (mapV (kidsV (n.ks ++ [(k, W.heap.size)]))) (kidsV (n.ks ++ [(k, W.heap.size)])).length)).size
        simp at this ⊢
        omega
      have hBl2 : Below B W (setBlock (W.alloc (.cells brCells 45)) m (.map (mapV (kidsV (n.ks ++ [(k, W.heap.size)]))) (kidsV (n.ks ++ [(k, W.heap.size)])).length)) := (hBl1.alloc hBw1 _).grown (grown_setBlock _ _ _) (by simp; omega) (fun j e => by injection e; omega)
      have HFr1 := Lib.hid hFr1
      have HFr2 := Lib.hid (Fr.kid (W := W) hp1 (k := k) hm1 (.cells brCells 45) (n.ks ++ [(k, W.heap.size)]) (.map (mapV (kidsV (n.ks ++ [(k, W.heap.size)]))) (kidsV (n.ks ++ [(k, W.heap.size)])).length))
      have HKid := Lib.hid hKid
      clear hFr1
      have HBl2 := Lib.hid hBl2
      have HK := Lib.hid hk
      clear hSt1 hBl1 hk hM1 hl1 hKid hM2 hBl2
      go_wp2
      go_ret
      refine ⟨_, freshN W.heap.size, rfl, HKid.out, setN_same _ _ _, fun q => ?_, HFr1.out.trans HFr2.out, HBl2.out⟩
      unfold cont
      by_cases e : q = p ++ [k]
      · subst e
        rw [if_pos rfl, setN_same, HK.out]
        rfl
      · rw [if_neg e, setN_other e]
        by_cases e2 : q = p
        · subst e2
          rw [setN_same, hp1]
          rfl
        · rw [setN_other e2]
end Go.Proofs.YthlccfjhgejlmaaGreatDoor

namespace Go.Proofs.YthlccfjhgejlmaaGreatDoor
open Go.RowKit Go.Shelf Go.ChangeMaps
set_option linter.unusedVariables false
set_option linter.unusedSimpArgs false
theorem St.fit {B : Nat} {V w' : World} {rb : Nat} {N : Pth → Option ND} (h : St B V rb N) {p : Pth} {n : ND} (hp : N p = some n) {x : TG} {v' : Value} (hown : w'.ownsRow B 26 4 v' (n.F.length + 1) (tgCells n.F ++ x.cells)) (hg : V.grownBy w' n.fv.ownBlock) (hwh : v'.ownBlock = n.fv.ownBlock ∨ v'.ownBlock = some V.heap.size) :
    St B (w'.setCell ⟨n.b, 1, none⟩ v') rb (setN N p { n with fv := v', F := n.F ++ [x] }) ∧ Fr N (setN N p { n with fv := v', F := n.F ++ [x] }) V (w'.setCell ⟨n.b, 1, none⟩ v') ∧ Below B V (w'.setCell ⟨n.b, 1, none⟩ v') := by
  obtain ⟨o, ho⟩ := h.own
  obtain ⟨hn, hon⟩ := ho p n hp
  obtain ⟨ni, nf, nm, nif, nim, nfm⟩ := owns_ne hon
  obtain ⟨l0, l1, l2, l3⟩ := hn.lts
  have hfr : ∀ k, k < V.heap.size → k ≠ n.b → n.fv.ownBlock ≠ some k → (w'.setCell ⟨n.b, 1, none⟩ v').heap[k]? = V.heap[k]? := fun k hk h1 h2 => (Below.heap_setCell w' ⟨n.b, 1, none⟩ v' k h1).trans (hg.block k hk (fun e => h2 e.symm))
  have hsz : V.heap.size ≤ (w'.setCell ⟨n.b, 1, none⟩ v').heap.size := by have := hg.size; simpa using this
  have hbx : BoxAt w' n.b #[n.iv, n.fv, .map n.mb] 45 := (hg.block n.b l0 (fun e => nf n.b e.symm rfl)).trans hn.box
  have hvb : ∀ k, v'.ownBlock = some k → k ≠ n.b := fun k e => by
    rcases hwh with hwh | hwh
    · rw [hwh] at e; exact nf k e
    · rw [hwh] at e; cases e; omega
  have hnd : NdAt B (w'.setCell ⟨n.b, 1, none⟩ v') { n with fv := v', F := n.F ++ [x] } := by
    refine ⟨?_, own_keep hn.oi fun k e => hfr k (l1 k e).2 (ni k e) (fun e' => nif k k e e' rfl), own_keep (OwnTg.push hown) fun k e => Below.heap_setCell w' ⟨n.b, 1, none⟩ v' k (hvb k e), fun m e => ⟨(hfr m (l3 m e).2 (nm m e) (fun e' => nfm m m e' e rfl)).trans (hn.mp m e).1, (hn.mp m e).2⟩, hn.mn, hn.lo⟩
    unfold BoxAt at hbx ⊢
    simp [World.setCell, Array.getElem?_modify, hbx]
  have hvn : v'.ownBlock = n.fv.ownBlock ∨ ∀ k, v'.ownBlock = some k → V.heap.size ≤ k := by
    rcases hwh with hwh | hwh
    · exact .inl hwh
    · exact .inr (fun k e => by rw [hwh] at e; cases e; exact Nat.le_refl _)
  refine ⟨h.upd hp rfl rfl hnd (fun k hk h1 _ h2 _ => hfr k hk h1 h2) 2 (.inl rfl) (hvn.imp id fun h => ⟨rfl, h⟩) (.inl rfl), Fr.upd hp rfl hsz (fun k hk h1 _ h2 _ => hfr k hk h1 h2) (.inl rfl) hvn (.inl rfl), ?_⟩
  have hb : Below B V w' := (Below.refl B V).grown hg (by have := hn.lo; omega) (fun k e => (l2 k e).1)
  exact hb.setCell (p := ⟨n.b, 1, none⟩) hn.lo _
theorem St.its {B : Nat} {V w' : World} {rb : Nat} {N : Pth → Option ND} (h : St B V rb N) {p : Pth} {n : ND} (hp : N p = some n) {x : TG} {v' : Value} (hown : w'.ownsRow B 26 4 v' (n.I.length + 1) (tgCells n.I ++ x.cells)) (hg : V.grownBy w' n.iv.ownBlock) (hwh : v'.ownBlock = n.iv.ownBlock ∨ v'.ownBlock = some V.heap.size) :
    St B (w'.setCell ⟨n.b, 0, none⟩ v') rb (setN N p { n with iv := v', I := n.I ++ [x] }) ∧ Fr N (setN N p { n with iv := v', I := n.I ++ [x] }) V (w'.setCell ⟨n.b, 0, none⟩ v') ∧ Below B V (w'.setCell ⟨n.b, 0, none⟩ v') := by
  obtain ⟨o, ho⟩ := h.own
  obtain ⟨hn, hon⟩ := ho p n hp
  obtain ⟨ni, nf, nm, nif, nim, nfm⟩ := owns_ne hon
  obtain ⟨l0, l1, l2, l3⟩ := hn.lts
  have hfr : ∀ k, k < V.heap.size → k ≠ n.b → n.iv.ownBlock ≠ some k → (w'.setCell ⟨n.b, 0, none⟩ v').heap[k]? = V.heap[k]? := fun k hk h1 h2 => (Below.heap_setCell w' ⟨n.b, 0, none⟩ v' k h1).trans (hg.block k hk (fun e => h2 e.symm))
  have hsz : V.heap.size ≤ (w'.setCell ⟨n.b, 0, none⟩ v').heap.size := by have := hg.size; simpa using this
  have hbx : BoxAt w' n.b #[n.iv, n.fv, .map n.mb] 45 := (hg.block n.b l0 (fun e => ni n.b e.symm rfl)).trans hn.box
  have hvb : ∀ k, v'.ownBlock = some k → k ≠ n.b := fun k e => by
    rcases hwh with hwh | hwh
    · rw [hwh] at e; exact ni k e
    · rw [hwh] at e; cases e; omega
  have hnd : NdAt B (w'.setCell ⟨n.b, 0, none⟩ v') { n with iv := v', I := n.I ++ [x] } := by
    refine ⟨?_, own_keep (OwnTg.push hown) fun k e => Below.heap_setCell w' ⟨n.b, 0, none⟩ v' k (hvb k e), own_keep hn.ov fun k e => hfr k (l2 k e).2 (nf k e) (fun e' => nif k k e' e rfl), fun m e => ⟨(hfr m (l3 m e).2 (nm m e) (fun e' => nim m m e' e rfl)).trans (hn.mp m e).1, (hn.mp m e).2⟩, hn.mn, hn.lo⟩
    unfold BoxAt at hbx ⊢
    simp [World.setCell, Array.getElem?_modify, hbx]
  have hvn : v'.ownBlock = n.iv.ownBlock ∨ ∀ k, v'.ownBlock = some k → V.heap.size ≤ k := by
    rcases hwh with hwh | hwh
    · exact .inl hwh
    · exact .inr (fun k e => by rw [hwh] at e; cases e; exact Nat.le_refl _)
  refine ⟨h.upd hp rfl rfl hnd (fun k hk h1 h2 _ _ => hfr k hk h1 h2) 1 (hvn.imp id fun h => ⟨rfl, h⟩) (.inl rfl) (.inl rfl), Fr.upd hp rfl hsz (fun k hk h1 h2 _ _ => hfr k hk h1 h2) hvn (.inl rfl) (.inl rfl), ?_⟩
  have hb : Below B V w' := (Below.refl B V).grown hg (by have := hn.lo; omega) (fun k e => (l1 k e).1)
  exact hb.setCell (p := ⟨n.b, 0, none⟩) hn.lo _
theorem step_append_wh {P : Program} {ops : Array Oper} {o : Oper} {a : Act} {w : World} {K : Act → World → Prop} {Q : Exit → Act → World → Prop} {E : Prop}
    (hg : o.guard = none) (s x : Operand) (t : TypeId) (hop : o.op = Op.call { callee := Callee.builtin Builtin.append, args := #[s, x], argTypes := #[t, t] })
    (base : Nat) (e : TypeId) (i : TypeInfo) (z : Value) (size bytes : Nat) (h1 : P.underlying t = some (.slice e)) (h2 : P.info? e = some i) (h3 : i.zero = some z) (h4 : i.size = size) (h5 : i.bytes = bytes) (h6 : z.cells.size = size) (h7 : 0 < size)
    (v : Value) (n : Nat) (olds : List Value) (hs : a.eval s = v) (hown : w.ownsRow base e size v n olds)
    (ad : Addr) (m c : Nat) (news : List Value) (hx : a.eval x = .slice (some ad) m c) (hn : news.length = m * size) (hc : ∀ j u, news[j]? = some u → w.cell? (ad.add j) = some u) (h1c : ∀ u ∈ news, u.oneCell' = true)
    (b1 : n + m ≤ maxLen) (b2 : (n + m) * bytes ≤ 140737488355328) (hB : base ≤ w.heap.size) (hm0 : 0 < m)
    (hK : ∀ v' w', w'.ownsRow base e size v' (n + m) (olds ++ news) → w.grownBy w' v.ownBlock → (v'.ownBlock = v.ownBlock ∨ v'.ownBlock = some w.heap.size) → K (a.put o.dst v') w') :
    if Region.wanted o (yielded ops a.tmps) = true then Oper.wp P o a w K Q else E := by
  have hw : Region.wanted o (yielded ops a.tmps) = true := by simp [Region.wanted, hg]
  rw [if_pos hw]
  obtain ⟨v', w', hrun, r1, r2, r3⟩ := run_append_where (P := P) w base t o.type e i z size bytes h1 h2 h3 h4 h5 h6 h7 v n olds hown ad m c news hn hc h1c b1 b2 hB hm0
  unfold Oper.wp
  simp [execOp, hop, resolve, invoke, builtin, hs, hx, hrun, Result.andThen]
  exact hK v' w' r1 r2 r3
def exB (ts : List TG) (q : Pth) : Bool := q.isEmpty || ts.any (fun t => q.isPrefixOf t.t.pieces)
def Isp (ts : List TG) (q : Pth) : List TG := ts.filter (fun t => t.t.pieces == q)
def Fsp (ts : List TG) (q : Pth) : List TG := if q.isEmpty then [] else ts.filter (fun t => q.isPrefixOf t.t.pieces)
def Csp (ts : List TG) (q : Pth) : Option (List TG × List TG) := if exB ts q then some (Isp ts q, Fsp ts q) else none
def onP (x : TG) (i : Nat) (q : Pth) : Bool := q.isPrefixOf x.t.pieces && decide (q.length ≤ i)
def Cmi (ts : List TG) (x : TG) (i : Nat) (q : Pth) : Option (List TG × List TG) := if exB ts q || onP x i q then some (Isp ts q, Fsp ts q ++ (if !q.isEmpty && onP x i q then [x] else [])) else none
theorem pre_take {q p : Pth} (h : q.isPrefixOf p = true) : q = p.take q.length := by
  obtain ⟨r, rfl⟩ := List.isPrefixOf_iff_prefix.1 h
  rw [List.take_left]
theorem take_pre (p : Pth) (i : Nat) : (p.take i).isPrefixOf p = true := List.isPrefixOf_iff_prefix.2 (List.take_prefix i p)
theorem cmi_zero (ts : List TG) (x : TG) (q : Pth) : Cmi ts x 0 q = Csp ts q := by
  unfold Cmi Csp
  cases q with
  | nil => simp [exB, Fsp]
  | cons a r =>
    have : onP x 0 (a :: r) = false := by unfold onP; simp
    rw [this]
    simp
theorem none_sp {ts : List TG} {q : Pth} (h : exB ts q = false) : Isp ts q = [] ∧ Fsp ts q = [] := by
  unfold exB at h
  rw [Bool.or_eq_false_iff] at h
  have h2 : ∀ t ∈ ts, q.isPrefixOf t.t.pieces = false := fun t ht => by
    have := List.any_eq_false.1 h.2 t ht
    cases hh : q.isPrefixOf t.t.pieces with
    | false => rfl
    | true => exact absurd hh this
  refine ⟨List.filter_eq_nil_iff.2 fun t ht e => ?_, ?_⟩
  · have h3 := h2 t ht
    rw [beq_iff_eq.1 e] at h3
    have : q.isPrefixOf q = true := List.isPrefixOf_iff_prefix.2 (List.prefix_refl q)
    rw [this] at h3
    cases h3
  · unfold Fsp
    rw [h.1]
    exact List.filter_eq_nil_iff.2 fun t ht e => by rw [h2 t ht] at e; cases e
theorem cmi_step {ts : List TG} {x : TG} {i : Nat} (hi : i < x.t.pieces.length) {I F : List TG} (h : (Cmi ts x i (x.t.pieces.take (i + 1))).getD ([], []) = (I, F)) (q : Pth) :
    (if q = x.t.pieces.take (i + 1) then some (I, F ++ [x]) else Cmi ts x i q) = Cmi ts x (i + 1) q := by
  by_cases hq : q = x.t.pieces.take (i + 1)
  · rw [if_pos hq]
    have hl : q.length = i + 1 := by rw [hq, List.length_take]; omega
    have h1 : onP x (i + 1) q = true := by unfold onP; rw [hl, hq, take_pre]; simp
    have h0 : onP x i q = false := by unfold onP; rw [hl]; simp
    have he : q.isEmpty = false := by cases q with | nil => simp at hl | cons a r => rfl
    rw [← hq] at h
    unfold Cmi at h ⊢
    rw [h0] at h
    rw [h1, he]
    simp only [Bool.or_false, Bool.or_true, if_true, Bool.not_false, Bool.true_and, Bool.and_false, Bool.false_eq_true, if_false, List.append_nil] at h ⊢
    cases hx : exB ts q with
    | true =>
      rw [hx] at h
      simp only [if_true, Option.getD_some, Prod.mk.injEq] at h
      rw [h.1, h.2]
    | false =>
      rw [hx] at h
      simp only [Bool.false_eq_true, if_false, Option.getD_none, Prod.mk.injEq] at h
      obtain ⟨n1, n2⟩ := none_sp hx
      rw [n1, n2, ← h.1, ← h.2]
  · rw [if_neg hq]
    have : onP x (i + 1) q = onP x i q := by
      unfold onP
      cases hp : q.isPrefixOf x.t.pieces with
      | false => rfl
      | true =>
        have hne : q.length ≠ i + 1 := fun e => hq (by rw [← e]; exact pre_take hp)
        have : decide (q.length ≤ i + 1) = decide (q.length ≤ i) := by rw [decide_eq_decide]; omega
        rw [this]
    unfold Cmi
    rw [this]
theorem cmi_end {ts : List TG} {x : TG} {I F : List TG} (hne : x.t.pieces ≠ []) (h : Cmi ts x x.t.pieces.length x.t.pieces = some (I, F)) (q : Pth) :
    (if q = x.t.pieces then some (I ++ [x], F) else Cmi ts x x.t.pieces.length q) = Csp (ts ++ [x]) q := by
  have hon : ∀ q, onP x x.t.pieces.length q = q.isPrefixOf x.t.pieces := fun q => by
    unfold onP
    cases hp : q.isPrefixOf x.t.pieces with
    | false => rfl
    | true =>
      have : q.length ≤ x.t.pieces.length := (List.isPrefixOf_iff_prefix.1 hp).length_le
      simp [this]
  have hex : exB (ts ++ [x]) q = (exB ts q || q.isPrefixOf x.t.pieces) := by
    unfold exB
    rw [List.any_append]
    simp [Bool.or_assoc]
  have hF : Fsp (ts ++ [x]) q = Fsp ts q ++ (if !q.isEmpty && q.isPrefixOf x.t.pieces then [x] else []) := by
    unfold Fsp
    cases he : q.isEmpty with
    | true => simp
    | false =>
      rw [List.filter_append]
      simp only [Bool.false_eq_true, if_false, Bool.not_false, Bool.true_and]
      congr 1
      cases hp : q.isPrefixOf x.t.pieces <;> simp [hp]
  have hI : Isp (ts ++ [x]) q = Isp ts q ++ (if q = x.t.pieces then [x] else []) := by
    unfold Isp
    rw [List.filter_append]
    congr 1
    by_cases hq : q = x.t.pieces
    · rw [if_pos hq, hq]; simp
    · rw [if_neg hq]
      have : (x.t.pieces == q) = false := by rw [beq_eq_false_iff_ne]; exact fun e => hq e.symm
      simp [this]
  unfold Csp
  rw [hex, hF, hI]
  by_cases hq : q = x.t.pieces
  · rw [if_pos hq, if_pos hq]
    have hp : q.isPrefixOf x.t.pieces = true := by rw [hq]; exact List.isPrefixOf_iff_prefix.2 (List.prefix_refl _)
    unfold Cmi at h
    rw [hon] at h
    rw [← hq] at h
    have hp' : q.isPrefixOf q = true := List.isPrefixOf_iff_prefix.2 (List.prefix_refl _)
    rw [hp', Bool.or_true, if_pos rfl] at h
    simp only [Option.some.injEq, Prod.mk.injEq] at h
    rw [hp, Bool.or_true, if_pos rfl, h.1, h.2]
  · rw [if_neg hq, if_neg hq, List.append_nil]
    unfold Cmi
    rw [hon]
end Go.Proofs.YthlccfjhgejlmaaGreatDoor
