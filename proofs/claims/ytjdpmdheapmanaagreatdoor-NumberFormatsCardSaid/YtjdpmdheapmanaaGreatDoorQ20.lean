/-
  Several texts put together (part 20): what the law and the program call, walked; their contracts.
-/
import Derived.Test.YtjdpmdheapmanaaGreatDoorQ11
import Derived.Test.YtjdpmdheapmanaaGreatDoorQ3
import Derived.Deep.RegionHeld3
namespace Go.Proofs.YtjdpmdheapmanaaGreatDoor
open Go.RowKit
set_option linter.unusedVariables false
set_option linter.unusedSimpArgs false
structure OPT where
  nm : ByteArray
  tx : ByteArray
  n : Bool
  s : ByteArray
  k : Int
  it : Bool
def OpAt (W : World) (b o : Nat) (p : OPT) : Prop :=
  W.cell? ⟨b, o, none⟩ = some (.string p.nm) ∧ W.cell? ⟨b, o + 1, none⟩ = some (.string p.tx) ∧ W.cell? ⟨b, o + 2, none⟩ = some (.bool p.n) ∧ W.cell? ⟨b, o + 3, none⟩ = some (.string p.s) ∧ W.cell? ⟨b, o + 4, none⟩ = some (.int .i64 p.k) ∧ W.cell? ⟨b, o + 5, none⟩ = some (.bool p.it)
def BdO (p : OPT) : Prop := p.s.size ≤ 9223372036854775807 ∧ -9223372036854775808 ≤ p.k ∧ p.k ≤ 9223372036854775807
def ListO (W : World) (l : List OPT) (A : Option Addr) (c : Nat) : Prop :=
  l.length ≤ c ∧ c ≤ 9223372036854775807 ∧ (0 < l.length → ∃ b o, A = some ⟨b, o, none⟩ ∧ b < W.heap.size ∧ ∀ i p, l[i]? = some p → OpAt W b (o + i * 6) p ∧ BdO p)
theorem ListO.later {W W' : World} {l : List OPT} {A : Option Addr} {c : Nat} (h : ListO W l A c) (g : Below W.heap.size W W') : ListO W' l A c := by
  obtain ⟨h1, h2, h3⟩ := h
  refine ⟨h1, h2, fun h0 => ?_⟩
  obtain ⟨b, o, e, hb, hp⟩ := h3 h0
  refine ⟨b, o, e, Nat.lt_of_lt_of_le hb g.size, fun i p hi => ?_⟩
  obtain ⟨⟨c0, c1, c2, c3, c4, c5⟩, hd⟩ := hp i p hi
  exact ⟨⟨(g.cell (p := ⟨b, _, none⟩) hb).trans c0, (g.cell (p := ⟨b, _, none⟩) hb).trans c1, (g.cell (p := ⟨b, _, none⟩) hb).trans c2, (g.cell (p := ⟨b, _, none⟩) hb).trans c3, (g.cell (p := ⟨b, _, none⟩) hb).trans c4, (g.cell (p := ⟨b, _, none⟩) hb).trans c5⟩, hd⟩
def OkO (p : OPT) : Prop := ∃ kk : Nat, p.k = (kk : Int) ∧ Num p.s.data.toList kk
theorem len_big {l : List OPT} {W : World} {A : Option Addr} {c : Nat} (h : ListO W l A c) : l.length ≤ 9223372036854775807 := Nat.le_trans h.1 h.2.1
end Go.Proofs.YtjdpmdheapmanaaGreatDoor

namespace Go.Proofs.YtjdpmdheapmanaaGreatDoor
open Go.RowKit
set_option linter.unusedVariables false
set_option linter.unusedSimpArgs false
set_option maxHeartbeats 4000000 in
set_option maxRecDepth 100000 in
theorem few_any (l : List OPT) (A : Option Addr) (c : Nat) (w : World) (hl : ListO w l A c) :
    Calls Tryz.prog 6 #[.slice A l.length c] w
      fun e w' => (e = .returned (.bool false) ∨ ((∀ p ∈ l, OkO p) ∧ l.length ≤ 20 ∧ e = .returned (.bool true))) ∧ Below w.heap.size w w' := by
  have hbig := len_big hl
  have HL := Lib.hid hl
  clear hl
  generalize hL : l.length = L at *
  have HLL := Lib.hid hL
  clear hL
  have Z0 := Lib.hid (Below.refl w.heap.size w)
  go_enter Tryz.func6, Tryz.ntmps6
  go_wp2_with fail
  go_loopw [7] (fun t wr => ∃ i : Nat, t = .int .i64 (i : Int) ∧ i ≤ L ∧ Hid (∀ j p, j < i → l[j]? = some p → OkO p) ∧ Hid (Below w.heap.size w wr)) (fun t _ => L - (intOf t).toNat)
  case atStart => exact ⟨0, rfl, Nat.zero_le _, Lib.hid (fun j p h => absurd h (by omega)), Z0⟩
  case round =>
    obtain ⟨i, rfl, hi, hOk, hB⟩ := hrel
    by_cases hlt : i < L
    · have f1 : decide ((i : Int) < (L : Int)) = true := decide_eq_true (by omega)
      have hil : i < l.length := by rw [HLL.out]; exact hlt
      obtain ⟨q1, q2, q3⟩ := HL.out.later hB.out
      obtain ⟨b, o, rfl, hbz, hp⟩ := q3 (by omega)
      obtain ⟨⟨c0, c1, c2, c3, c4, c5⟩, hd1, hd2, hd3⟩ := hp i l[i] (List.getElem?_eq_getElem hil)
      have hgi : l[i]? = some l[i] := List.getElem?_eq_getElem hil
      generalize l[i] = p at *
      obtain ⟨nm, tx', n', s', k', it⟩ := p
      dsimp only at *
      have hR2 := fun W => lawRight_any n' s' k' W hd1 hd2 hd3
      have HR2 := Lib.hid hR2
      have Hgi := Lib.hid hgi
      clear hR2 hgi hp q1 q2 q3 hd1
      go_wp2_with fail
      go_at_call 10
      refine (HR2.out _).mono ?_
      rintro e w2 ⟨hr, hb2⟩
      have hB2 := Lib.hid (hB.out.trans ((below_box hb2).mono hB.out.size))
      clear hb2 c0 c1 c2 c3 c4 c5
      rcases hr with rfl | ⟨kk, rfl, hN, rfl⟩
      · go_wp2
        go_ret
        exact ⟨.inl rfl, hB2.out⟩
      · have HN := Lib.hid hN
        clear hN
        go_wp2_with fail
        go_roundw
        case rel =>
          refine ⟨i + 1, by go_num, by omega, Lib.hid (fun j p hj hp => ?_), hB2⟩
          by_cases hji : j < i
          · exact hOk.out j p hji hp
          · obtain rfl : j = i := by omega
            rw [Hgi.out] at hp
            cases hp
            exact ⟨kk, rfl, HN.out⟩
        case measure => simp [intOf]; omega
    · obtain rfl : i = L := by omega
      have f1 : decide ((i : Int) < (i : Int)) = false := decide_eq_false (by omega)
      have hall : ∀ p ∈ l, OkO p := fun p hp => by
        obtain ⟨j, hj, rfl⟩ := List.mem_iff_getElem.1 hp
        exact hOk.out j _ (by rw [← HLL.out]; exact hj) (List.getElem?_eq_getElem hj)
      have Hall := Lib.hid hall
      clear hall
      by_cases h20 : i ≤ 20
      · have f2 : decide ((i : Int) ≤ 20) = true := decide_eq_true (by omega)
        go_wp2
        go_ret
        exact ⟨.inr ⟨Hall.out, h20, rfl⟩, hB.out⟩
      · have f2 : decide ((i : Int) ≤ 20) = false := decide_eq_false (by omega)
        go_wp2
        go_ret
        exact ⟨.inl rfl, hB.out⟩
end Go.Proofs.YtjdpmdheapmanaaGreatDoor
