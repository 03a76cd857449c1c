/-
  Package script: Encode gives what encL tells.
-/
import Derived.Test.YtnkijpjknbelfaaDoorSwm
namespace Go.Proofs.YtnkijpjknbelfaaDoor
open Go.RowKit
set_option linter.unusedVariables false
set_option linter.unusedSimpArgs false

theorem OwnG.get {α : Type} {t : TypeId} {n B : Nat} {f : α → List Value} {W : World} {A : Option Addr} {m c : Nat} {l : List α} (h : OwnG t n f B W (.slice A m c) l) (hf : ∀ a, (f a).length = n) {j : Nat} {x : α} (hx : l[j]? = some x) :
    ∃ g, A = some ⟨g, 0, none⟩ ∧ B ≤ g ∧ g < W.heap.size ∧ ∀ i u, (f x)[i]? = some u → W.cell? ⟨g, j * n + i, none⟩ = some u := by
  have h0 : 0 < l.length := by
    obtain ⟨q, _⟩ := List.getElem?_eq_some_iff.1 hx
    omega
  obtain ⟨g, e, hg, hc⟩ := OwnG.cells h hf rfl h0
  exact ⟨g, e, hg.1, hg.2, fun i u hu => hc j x i u hx hu⟩
theorem encL_take (l : List ST) (i : Nat) (x : ST) (h : l[i]? = some x) : encL (l.take (i + 1)) = encL (l.take i) ++ encS x := by
  unfold encL
  rw [take_snoc l i x h, List.flatMap_append, List.flatMap_cons, List.flatMap_nil, List.append_nil]
theorem encL_le (l : List ST) (i : Nat) : (encL (l.take i)).length ≤ (encL l).length := by
  have : encL l = encL (l.take i) ++ encL (l.drop i) := by unfold encL; rw [← List.flatMap_append, List.take_append_drop]
  rw [this, List.length_append]
  omega
def encX (l : List ByteArray) : List UInt8 := l.flatMap fun t => encT t.data.toList
theorem encX_take (l : List ByteArray) (i : Nat) (x : ByteArray) (h : l[i]? = some x) : encX (l.take (i + 1)) = encX (l.take i) ++ encT x.data.toList := by
  unfold encX
  rw [take_snoc l i x h, List.flatMap_append, List.flatMap_cons, List.flatMap_nil, List.append_nil]
theorem encX_le (l : List ByteArray) (i : Nat) : (encX (l.take i)).length ≤ (encX l).length := by
  have : encX l = encX (l.take i) ++ encX (l.drop i) := by unfold encX; rw [← List.flatMap_append, List.take_append_drop]
  rw [this, List.length_append]
  omega
theorem encX_len (l : List ByteArray) : l.length * 3 ≤ (encX l).length := by
  induction l with
  | nil => simp
  | cons a l ih =>
    unfold encX at ih ⊢
    have := encT_len a.data.toList
    rw [List.flatMap_cons, List.length_append, List.length_cons]
    omega
/-- What Encode gives: bytes, or none and an error. -/
def GotE (w : World) (l : List UInt8) (err : Int) (e : Ending) (w' : World) : Prop := ∃ v, e = .returned (.tuple #[v, .int .i64 err]) ∧ Below w.heap.size w w' ∧ OwnBy w.heap.size w' v l
def encR (l : List ST) : List UInt8 × Int := if 4096 < l.length then ([], 4) else if l.all rightS = true then (encL l, 0) else ([], 1)
theorem encode_many {A : Option Addr} {c : Nat} {l : List ST} (w : World) (hl : 4096 < l.length) (hl2 : l.length ≤ 1000000) : Calls Tryd.prog 14 #[.slice A l.length c] w (GotE w [] 4) := by
  have d1 : decide ((4096 : Int) < (l.length : Int)) = true := decide_eq_true (by omega)
  have d2 : (4096 : Int) < (l.length : Int) := by omega
  go_enter Tryd.func14, Tryd.ntmps14
  go_wp2
  go_ret2
  exact ⟨_, rfl, Below.refl _ _, OwnBy.nil _ _⟩
theorem stL_cells {w : World} {x : ST} {A1 A2 : Option Addr} {c1 c2 b o : Nat} (h : ∀ i u, (stL x A1 c1 A2 c2)[i]? = some u → w.cell? ⟨b, o + i, none⟩ = some u) :
    w.cell? ⟨b, o, none⟩ = some (.int .i64 x.kind) ∧ w.cell? ⟨b, o + 1, none⟩ = some (.string x.tag) ∧ w.cell? ⟨b, o + 2, none⟩ = some (.string x.bytes) ∧ w.cell? ⟨b, o + 3, none⟩ = some (.bool x.over) ∧ w.cell? ⟨b, o + 4, none⟩ = some (.slice A1 x.wishes.length c1) ∧ w.cell? ⟨b, o + 5, none⟩ = some (.string x.name) ∧ w.cell? ⟨b, o + 6, none⟩ = some (.string x.attr) ∧ w.cell? ⟨b, o + 7, none⟩ = some (.slice A2 x.args.length c2) :=
  ⟨h 0 _ rfl, h 1 _ rfl, h 2 _ rfl, h 3 _ rfl, h 4 _ rfl, h 5 _ rfl, h 6 _ rfl, h 7 _ rfl⟩
set_option maxHeartbeats 8000000 in
set_option maxRecDepth 100000 in
theorem encode_few {A : Option Addr} {c : Nat} {l : List ST} (w : World) (hE : Env w) (hin : StsIn w (Old w) l A) (hok : ∀ x ∈ l, OkS x) (hl : l.length ≤ 4096) (hlen : (encL l).length ≤ 100000000) :
    Calls Tryd.prog 14 #[.slice A l.length c] w (GotE w (if l.all rightS = true then encL l else []) (if l.all rightS = true then 0 else 1)) := by
  have hl0 : (l.length : Int) ≤ 4096 := by omega
  have d1 : decide ((4096 : Int) < (l.length : Int)) = false := decide_eq_false (by omega)
  have d2 : ¬ (4096 : Int) < (l.length : Int) := by omega
  have HE := Lib.hid hE
  have HI := Lib.hid hin
  have HOk := Lib.hid hok
  obtain ⟨RB, hRB⟩ : ∃ b, (if l.all rightS = true then encL l else []) = b := ⟨_, rfl⟩
  obtain ⟨RE, hRE⟩ : ∃ b, (if l.all rightS = true then (0 : Int) else 1) = b := ⟨_, rfl⟩
  rw [hRB, hRE]
  have HRB := Lib.hid hRB
  have HRE := Lib.hid hRE
  clear hE hin hok hRB hRE
  go_enter Tryd.func14, Tryd.ntmps14
  go_wp2_with fail
  go_loopw [16] (fun t16 wr => ∃ i : Nat, t16 = .int .i64 i ∧ i ≤ l.length ∧ Hid ((l.take i).all rightS = true) ∧ Hid (Below w.heap.size w wr)) (fun t16 _ => l.length - (intOf t16).toNat)
  case atStart => exact ⟨0, rfl, Nat.zero_le _, Lib.hid rfl, Lib.hid (Below.refl _ _)⟩
  case round =>
    obtain ⟨i, rfl, hi, HA, HB⟩ := hrel
    have hi0 : (i : Int) ≤ 4096 := by omega
    by_cases hlt : i < l.length
    · have q1 : decide ((i : Int) < (l.length : Int)) = true := decide_eq_true (by omega)
      have q2 : (i : Int) < (l.length : Int) := by omega
      obtain ⟨b, o, rfl, hb, hcs⟩ := HI.out (by omega)
      obtain ⟨x, hx⟩ : ∃ x, l[i]? = some x := ⟨_, List.getElem?_eq_getElem hlt⟩
      obtain ⟨A1, c1, A2, c2, hst, hsf⟩ := hcs i x hx
      obtain ⟨k0, k1, k2, k3, k4, k5, k6, k7⟩ := stL_cells (fun i' u hu => (HB.out.cell (p := ⟨b, o + i * 8 + i', none⟩) hb).trans (hst i' u hu))
      have hbr : b < wr.heap.size := Nat.lt_of_lt_of_le hb HB.out.size
      have hokx := HOk.out x (List.mem_of_getElem? hx)
      have HRt := Lib.hid (fun W (g : Below wr.heap.size wr W) => right_any x A1 A2 c1 c2 W ((HE.out.below HB.out).below g) (hsf.carry fun b hb => ⟨Nat.lt_of_lt_of_le hb (Nat.le_trans HB.out.size g.size), (g.block b (Nat.lt_of_lt_of_le hb HB.out.size)).trans (HB.out.block b hb)⟩) (by have := hokx.ws; omega) (by have := hokx.ar; omega) hokx.tx)
      have HAk := Lib.hid (take_all rightS l i x hx)
      have HN := Lib.hid (fun h => List.all_eq_false.2 ⟨x, List.mem_of_getElem? hx, by rw [h]; simp⟩ : rightS x = false → l.all rightS = false)
      obtain ⟨rb, hrb⟩ : ∃ r, rightS x = r := ⟨_, rfl⟩
      rw [hrb] at HRt HAk HN
      unfold stA at HRt
      clear hcs hx hst hsf hokx hrb
      go_wp2_with fail
      go_at_call 11
      refine (HRt.out _ ((Below.refl _ _).alloc (Nat.le_refl _) _)).mono ?_
      rintro e w1 ⟨rfl, hb1⟩
      have HB1 := Lib.hid (HB.out.trans ((below_box hb1).mono HB.out.size))
      clear hb1
      cases rb
      · go_wp2
        go_ret2
        have hf := HN.out (by first | rfl | trivial)
        have e1 := HRB.out
        have e2 := HRE.out
        rw [hf, if_neg (by simp)] at e1 e2
        subst e1 e2
        exact ⟨_, rfl, HB1.out, OwnBy.nil _ _⟩
      · go_wp2
        go_roundw
        case rel => exact ⟨i + 1, by go_num, by omega, Lib.hid (by rw [HAk.out, HA.out]; rfl), HB1⟩
        case measure => simp [intOf]; omega
    · have q1 : decide ((i : Int) < (l.length : Int)) = false := decide_eq_false (by omega)
      have q2 : ¬ (i : Int) < (l.length : Int) := by omega
      have hA := HA.out
      rw [List.take_of_length_le (by omega)] at hA
      have e1 := HRB.out
      have e2 := HRE.out
      rw [if_pos hA] at e1 e2
      subst e1 e2
      have HAll := Lib.hid (fun x (hx : x ∈ l) => List.all_eq_true.1 hA x hx)
      have HEB := Lib.hid (HE.out.b.step HB.out)
      have HB0 := HB
      clear hA HA HRB HRE
      go_wp2_with fail
      generalize wr = w0 at *
      clear q1 q2 hi hi0 hlt
      go_loopw [6, 26] (fun t6 t26 w2 => ∃ j : Nat, t26 = .int .i64 j ∧ j ≤ l.length ∧ Hid (OwnBy w.heap.size w2 t6 (encL (l.take j))) ∧ Hid (Below w.heap.size w w2)) (fun _ t26 _ => l.length - (intOf t26).toNat)
      case atStart => exact ⟨0, rfl, Nat.zero_le _, Lib.hid (OwnBy.nil _ _), HB0⟩
      case round =>
        generalize wr = w2 at *
        obtain ⟨j, rfl, hj, HO2, HB2⟩ := hrel
        have hj0 : (j : Int) ≤ 4096 := by omega
        by_cases hlt : j < l.length
        · have q1 : decide ((j : Int) < (l.length : Int)) = true := decide_eq_true (by omega)
          have q2 : (j : Int) < (l.length : Int) := by omega
          obtain ⟨b, o, rfl, hb, hcs⟩ := HI.out (by omega)
          obtain ⟨x, hx⟩ : ∃ x, l[j]? = some x := ⟨_, List.getElem?_eq_getElem hlt⟩
          obtain ⟨A1, c1, A2, c2, hst, hsf⟩ := hcs j x hx
          obtain ⟨k0, k1, k2, k3, k4, k5, k6, k7⟩ := stL_cells (fun i' u hu => (HB2.out.cell (p := ⟨b, o + j * 8 + i', none⟩) hb).trans (hst i' u hu))
          have hbr : b < w2.heap.size := Nat.lt_of_lt_of_le hb HB2.out.size
          have hokx := HOk.out x (List.mem_of_getElem? hx)
          have hrx := HAll.out x (List.mem_of_getElem? hx)
          have HTx := Lib.hid (fun W (g : Below w2.heap.size w2 W) => texts_any x A1 A2 c1 c2 W ((HE.out.below HB2.out).below g) (hsf.carry fun b hb => ⟨Nat.lt_of_lt_of_le hb (Nat.le_trans HB2.out.size g.size), (g.block b (Nat.lt_of_lt_of_le hb HB2.out.size)).trans (HB2.out.block b hb)⟩) hokx hrx)
          have htk := encL_take l j x hx
          rw [← TX_enc] at htk
          have hle := encL_le l (j + 1)
          rw [htk, List.length_append] at hle
          have hxl := encX_len (TX x)
          have hTL : (TX x).length ≤ 100000000 := by
            unfold encX at hxl
            omega
          have HTk := Lib.hid htk
          unfold stA at HTx
          generalize TX x = ts at *
          have hTL0 : (ts.length : Int) ≤ 100000000 := by omega
          clear hcs hx hst hsf hokx hrx htk hxl
          go_wp2_with fail
          go_at_call 22
          refine (HTx.out _ ((Below.refl _ _).alloc (Nat.le_refl _) _)).mono ?_
          rintro e w3 ⟨A3, c3, rfl, hb3, ho3⟩
          have HB3 := Lib.hid (HB2.out.trans ((below_box hb3).mono HB2.out.size))
          have HO3 := Lib.hid (HO2.out.later (below_box hb3))
          have HT3 := Lib.hid ho3
          clear hb3 ho3
          go_wp2_with fail
          go_loopw [6, 33] (fun t6 t33 w4 => ∃ k : Nat, t33 = .int .i64 k ∧ k ≤ ts.length ∧ Hid (OwnBy w.heap.size w4 t6 (encL (l.take j) ++ encX (ts.take k))) ∧ Hid (Below w.heap.size w w4) ∧ Hid (OwnTx (w2.alloc (.cells #[.int .i64 x.kind, .string x.tag, .string x.bytes, .bool x.over, .slice A1 x.wishes.length c1, .string x.name, .string x.attr, .slice A2 x.args.length c2] 29)).heap.size w4 (.slice A3 ts.length c3) ts)) (fun _ t33 _ => ts.length - (intOf t33).toNat)
          case atStart => exact ⟨0, rfl, Nat.zero_le _, Lib.hid (by unfold encX; rw [List.take_zero, List.flatMap_nil, List.append_nil]; exact HO3.out), HB3, HT3⟩
          case round =>
            generalize wr = w4 at *
            obtain ⟨k, rfl, hk, HO4, HB4, HT4⟩ := hrel
            have hk0' : (k : Int) ≤ 100000000 := by omega
            by_cases hkt : k < ts.length
            · have p1 : decide ((k : Int) < (ts.length : Int)) = true := decide_eq_true (by omega)
              have p2 : (k : Int) < (ts.length : Int) := by omega
              obtain ⟨s, hs⟩ : ∃ s, ts[k]? = some s := ⟨_, List.getElem?_eq_getElem hkt⟩
              obtain ⟨g, rfl, hg1, hg2, hgc⟩ := OwnG.get HT4.out (fun _ => rfl) hs
              have hgc0 := hgc 0 _ rfl
              rw [Nat.mul_one, Nat.add_zero] at hgc0
              have hgz : w4.cell? ⟨g, 0 + k, none⟩ = some (.string s) := by rw [Nat.zero_add]; exact hgc0
              have htk := encX_take ts k s hs
              have hle2 := encX_le ts (k + 1)
              rw [htk, List.length_append] at hle2
              have het := encT_len s.data.toList
              rw [size_data] at het
              have hsb : (encL (l.take j) ++ encX (ts.take k)).length + s.size ≤ 1000000000 := by
                rw [List.length_append]
                unfold encX at hle2 ⊢
                omega
              have HAp := Lib.hid (append_any w.heap.size s w4 _ _ HO4.out (HE.out.b.step HB4.out) hsb)
              have HTk2 := Lib.hid htk
              clear hs hgc htk hle2 het hsb
              go_wp2_with fail
              go_at_call 23
              refine HAp.out.mono ?_
              rintro e w5 ⟨v5, rfl, ho5, hb5, hk5⟩
              have HO5 := Lib.hid ho5
              have HB5 := Lib.hid (HB4.out.trans hb5)
              have HT5 := Lib.hid (OwnG.others HT4.out hk5 (by decide))
              clear ho5 hb5 hk5
              go_wp2
              go_roundw
              case rel => exact ⟨k + 1, by go_num, by omega, Lib.hid (by rw [HTk2.out, ← List.append_assoc]; exact HO5.out), HB5, HT5⟩
              case measure => simp [intOf]; omega
            · have p1 : decide ((k : Int) < (ts.length : Int)) = false := decide_eq_false (by omega)
              have p2 : ¬ (k : Int) < (ts.length : Int) := by omega
              have hO := HO4.out
              rw [List.take_of_length_le (l := ts) (by omega)] at hO
              have HO5 := Lib.hid hO
              clear hO
              go_wp2
              go_roundw
              case rel => exact ⟨j + 1, by go_num, by omega, Lib.hid (by rw [HTk.out]; exact HO5.out), HB4⟩
              case measure => simp [intOf]; omega
        · have q1 : decide ((j : Int) < (l.length : Int)) = false := decide_eq_false (by omega)
          have q2 : ¬ (j : Int) < (l.length : Int) := by omega
          have hO := HO2.out
          rw [List.take_of_length_le (by omega)] at hO
          have HO5 := Lib.hid hO
          clear hO
          go_wp2
          go_ret2
          exact ⟨_, rfl, HB2.out, HO5.out⟩
theorem encode_any {A : Option Addr} {c : Nat} {l : List ST} (w : World) (hE : Env w) (hin : StsIn w (Old w) l A) (hok : ∀ x ∈ l, OkS x) (hl : l.length ≤ 1000000) (hlen : (encL l).length ≤ 100000000) :
    Calls Tryd.prog 14 #[.slice A l.length c] w (GotE w (encR l).1 (encR l).2) := by
  unfold encR
  by_cases h : 4096 < l.length
  · rw [if_pos h]; exact encode_many w h hl
  · rw [if_neg h]
    have := encode_few (c := c) w hE hin hok (by omega) hlen
    split
    · next h1 => rw [if_pos h1, if_pos h1] at this; exact this
    · next h1 => rw [if_neg h1, if_neg h1] at this; exact this
end Go.Proofs.YtnkijpjknbelfaaDoor
