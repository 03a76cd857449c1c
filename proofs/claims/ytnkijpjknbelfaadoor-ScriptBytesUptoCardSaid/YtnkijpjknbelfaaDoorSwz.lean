/-
  Package script: the law's Few.
-/
import Derived.Test.YtnkijpjknbelfaaDoorSop
import Derived.Test.YtnkijpjknbelfaaDoorSwo
namespace Go.Proofs.YtnkijpjknbelfaaDoor
open Go.RowKit
set_option linter.unusedVariables false
set_option linter.unusedSimpArgs false

theorem sum_app {α : Type} (f : α → Nat) : ∀ a b : List α, sumOf f (a ++ b) = sumOf f a + sumOf f b
  | [], b => by simp [sumOf]
  | x :: a, b => by rw [List.cons_append, sumOf, sumOf, sum_app f a b]; omega
theorem sum_take {α : Type} (f : α → Nat) (l : List α) (i : Nat) (x : α) (h : l[i]? = some x) : sumOf f (l.take (i + 1)) = sumOf f (l.take i) + f x := by
  rw [take_snoc l i x h, sum_app, sumOf, sumOf]; omega
theorem sum_take_le {α : Type} (f : α → Nat) (l : List α) (i : Nat) : sumOf f (l.take i) ≤ sumOf f l := by
  have := sum_app f (l.take i) (l.drop i)
  rw [List.take_append_drop] at this
  omega
theorem sum_le {α : Type} {f g : α → Nat} (h : ∀ a, f a ≤ g a) : ∀ l : List α, sumOf f l ≤ sumOf g l
  | [] => Nat.le_refl _
  | x :: l => by rw [sumOf, sumOf]; have := h x; have := sum_le h l; omega
theorem sum_len {α : Type} {f : α → Nat} {k : Nat} (h : ∀ a, k ≤ f a) : ∀ l : List α, l.length * k ≤ sumOf f l
  | [] => by simp
  | x :: l => by rw [sumOf, List.length_cons, Nat.add_mul]; have := h x; have := sum_len h l; omega
def fwW (w : ByteArray) : Nat := w.size
def fwA (a : SA) : Nat := a.name.size + a.text.size
def fwS (x : ST) : Nat := x.tag.size + x.bytes.size + x.name.size + x.attr.size + sumOf fwW x.wishes + sumOf fwA x.args
def okF (x : ST) : Bool := decide (x.wishes.length ≤ 20) && decide (x.args.length ≤ 20)
def fewB (l : List ST) : Bool := l.all okF && (decide (l.length ≤ 20) && decide (sumOf fwS l ≤ 3000))
theorem fwS_le (x : ST) : fwS x ≤ szS x := by
  unfold fwS szS
  have := sum_le (f := fwW) (g := szW) (fun w => by unfold fwW szW; omega) x.wishes
  have := sum_le (f := fwA) (g := szA) (fun w => by unfold fwA szA; omega) x.args
  omega
theorem szS_parts (x : ST) : x.wishes.length ≤ szS x ∧ x.args.length ≤ szS x := by
  unfold szS
  have h1 := sum_len (f := szW) (k := 1) (fun w => by unfold szW; omega) x.wishes
  have h2 := sum_len (f := szA) (k := 1) (fun w => by unfold szA; omega) x.args
  omega
theorem few_short {l : List ST} (h : fewB l = true) : l.length ≤ 20 ∧ ∀ x ∈ l, ShortS x ∧ x.wishes.length ≤ 20 ∧ x.args.length ≤ 20 ∧ fwS x ≤ 3000 := by
  unfold fewB at h
  rw [Bool.and_eq_true, Bool.and_eq_true, decide_eq_true_iff, decide_eq_true_iff] at h
  refine ⟨h.2.1, fun x hx => ?_⟩
  have h1 := List.all_eq_true.1 h.1 x hx
  unfold okF at h1
  rw [Bool.and_eq_true, decide_eq_true_iff, decide_eq_true_iff] at h1
  have h2 := sum_mem fwS hx
  have h3 : fwS x ≤ 3000 := by omega
  refine ⟨?_, h1.1, h1.2, h3⟩
  unfold fwS at h3
  exact ⟨by omega, by omega, by omega, by omega, by omega, fun w hw => by have h : w.size ≤ _ := sum_mem fwW hw; omega, by omega, fun a ha => by have h : a.name.size + a.text.size ≤ _ := sum_mem fwA ha; omega⟩
set_option maxHeartbeats 8000000 in
set_option maxRecDepth 100000 in
theorem few_any {l : List ST} {A : Option Addr} {c : Nat} (w : World) (hin : StsIn w (Old w) l A) (hb : sumOf szS l ≤ 2000000) :
    Calls Tryd.prog 10 #[.slice A l.length c] w fun e w' => e = .returned (.bool (fewB l)) ∧ Below w.heap.size w w' := by
  have hl : l.length ≤ 250000 := by
    have := sum_len (f := szS) (k := 8) (fun x => by unfold szS; omega) l
    omega
  have hl0 : (l.length : Int) ≤ 250000 := by omega
  have HI := Lib.hid hin
  have HBk := Lib.hid hb
  obtain ⟨R, hR⟩ : ∃ r, fewB l = r := ⟨_, rfl⟩
  rw [hR]
  have HR := Lib.hid hR
  clear hin hb hR
  go_enter Tryd.func10, Tryd.ntmps10
  go_wp2_with fail
  go_loopw [3, 12] (fun t3 t12 wr => ∃ (i : Nat) (nn : Int), t3 = .int .i64 nn ∧ t12 = .int .i64 i ∧ i ≤ l.length ∧ Hid (nn = (sumOf fwS (l.take i) : Nat)) ∧ Hid ((l.take i).all okF = true) ∧ Hid (Below w.heap.size w wr)) (fun _ t12 _ => l.length - (intOf t12).toNat)
  case atStart => exact ⟨0, 0, rfl, rfl, Nat.zero_le _, Lib.hid rfl, Lib.hid rfl, Lib.hid (Below.refl _ _)⟩
  case round =>
    generalize wr = w1 at *
    obtain ⟨i, nn, rfl, rfl, hi, HN, HA, HB⟩ := hrel
    have hi0 : (i : Int) ≤ 250000 := by omega
    by_cases hlt : i < l.length
    · have q1 : decide ((i : Int) < (l.length : Int)) = true := decide_eq_true (by omega)
      have q2 : (i : Int) < (l.length : Int) := by omega
      obtain ⟨b, o, rfl, hb, hcs⟩ := HI.out (by omega)
      obtain ⟨x, hx⟩ : ∃ x, l[i]? = some x := ⟨_, List.getElem?_eq_getElem hlt⟩
      obtain ⟨A1, c1, A2, c2, hst, hsf⟩ := hcs i x hx
      obtain ⟨k0, k1, k2, k3, k4, k5, k6, k7⟩ := stL_cells (fun i' u hu => (HB.out.cell (p := ⟨b, o + i * 8 + i', none⟩) hb).trans (hst i' u hu))
      have hbr : b < w1.heap.size := Nat.lt_of_lt_of_le hb HB.out.size
      have HSF := Lib.hid hsf
      have hsum := sum_take fwS l i x hx
      have hall := take_all okF l i x hx
      have hxs : szS x ≤ 2000000 := Nat.le_trans (sum_mem szS (List.mem_of_getElem? hx)) HBk.out
      have htot : sumOf fwS (l.take (i + 1)) ≤ 2000000 := Nat.le_trans (sum_take_le fwS l (i + 1)) (Nat.le_trans (sum_le fwS_le l) HBk.out)
      have hparts := szS_parts x
      have HNo := Lib.hid (fun h => List.all_eq_false.2 ⟨x, List.mem_of_getElem? hx, by rw [h]; simp⟩ : okF x = false → l.all okF = false)
      rw [hsum] at htot
      have hfx : fwS x = x.tag.size + x.bytes.size + x.name.size + x.attr.size + sumOf fwW x.wishes + sumOf fwA x.args := rfl
      have hnn := HN.out
      have z0 : (0 : Int) ≤ nn := by omega
      have z1 : nn ≤ 2000000 := by omega
      have z2 : (x.tag.size : Int) ≤ 2000000 := by omega
      have z3 : (x.bytes.size : Int) ≤ 2000000 := by omega
      have z4 : (x.name.size : Int) ≤ 2000000 := by omega
      have z5 : (x.attr.size : Int) ≤ 2000000 := by omega
      have z6 : (x.wishes.length : Int) ≤ 2000000 := by omega
      have z7 : (x.args.length : Int) ≤ 2000000 := by omega
      have HT := Lib.hid htot
      have HX := Lib.hid hfx
      have HSum := Lib.hid hsum
      have HAll := Lib.hid hall
      have HNn := Lib.hid hnn
      clear hcs hx hst hsf hsum hall htot hfx hnn hparts hxs
      have HW := Lib.hid (BoxAt.new w1 (stA x A1 c1 A2 c2) 29)
      unfold stA at HW
      have HB1 := Lib.hid (HB.out.alloc HB.out.size (.cells #[.int .i64 x.kind, .string x.tag, .string x.bytes, .bool x.over, .slice A1 x.wishes.length c1, .string x.name, .string x.attr, .slice A2 x.args.length c2] 29))
      go_upto_region 5 with fail
      generalize hW1 : w1.alloc (.cells #[.int .i64 x.kind, .string x.tag, .string x.bytes, .bool x.over, .slice A1 x.wishes.length c1, .string x.name, .string x.attr, .slice A2 x.args.length c2] 29) = W1 at *
      generalize hwb : w1.heap.size = wb at *
      obtain ⟨g0, g1, g2, g3, g4, g5, g6, g7, _⟩ := cellsB8 HW.out
      have hwb2 := HB.out.size
      rw [hwb] at hwb2
      clear hW1 k0 k1 k2 k3 k4 k5 k6 k7 hwb hbr
      go_wp2_with fail
      go_loopw [3, 36] (fun t3 t36 wr => ∃ (j : Nat) (mm : Int), t3 = .int .i64 mm ∧ t36 = .int .i64 j ∧ j ≤ x.wishes.length ∧ Hid (mm = nn + ((x.tag.size + x.bytes.size + x.name.size + x.attr.size + sumOf fwW (x.wishes.take j) : Nat) : Int)) ∧ Hid (wr = W1)) (fun _ t36 _ => x.wishes.length - (intOf t36).toNat)
      case atStart => exact ⟨0, _, rfl, rfl, Nat.zero_le _, Lib.hid (by rw [List.take_zero, sumOf]; omega), Lib.hid rfl⟩
      case round =>
        obtain ⟨j, mm, rfl, rfl, hj, HM, HWr⟩ := hrel
        have hwr := HWr.out
        subst hwr
        have hj0 : (j : Int) ≤ 2000000 := by omega
        by_cases hjt : j < x.wishes.length
        · have p1 : decide ((j : Int) < (x.wishes.length : Int)) = true := decide_eq_true (by omega)
          have p2 : (j : Int) < (x.wishes.length : Int) := by omega
          obtain ⟨b3, o3, rfl, hb3, hc3⟩ := HSF.out.1 (by omega)
          obtain ⟨s, hs⟩ : ∃ s, x.wishes[j]? = some s := ⟨_, List.getElem?_eq_getElem hjt⟩
          have e0 := (HB1.out.cell (p := ⟨b3, o3 + j, none⟩) hb3).trans (hc3 j s hs)
          have hsj := sum_take fwW x.wishes j s hs
          have hle := sum_take_le fwW x.wishes (j + 1)
          have hmm := HM.out
          have hT := HT.out
          have hX := HX.out
          have hNn := HNn.out
          have hfs : fwW s = s.size := rfl
          have y0 : (0 : Int) ≤ mm := by omega
          have y1 : mm ≤ 2000000 := by omega
          have y2 : (s.size : Int) ≤ 2000000 := by omega
          have HM2 := Lib.hid (show mm + (s.size : Int) = nn + ((x.tag.size + x.bytes.size + x.name.size + x.attr.size + sumOf fwW (x.wishes.take (j + 1)) : Nat) : Int) by rw [hsj]; omega)
          clear hs hc3 hsj hle hmm hT hX hNn hfs
          go_wp2
          go_roundw
          case rel => exact ⟨j + 1, _, rfl, by go_num, hjt, HM2, Lib.hid (by first | rfl | trivial)⟩
          case measure => simp [intOf]; omega
        · have p1 : decide ((j : Int) < (x.wishes.length : Int)) = false := decide_eq_false (by omega)
          have p2 : ¬ (j : Int) < (x.wishes.length : Int) := by omega
          have hmm := HM.out
          rw [List.take_of_length_le (by omega)] at hmm
          have HM2 := Lib.hid hmm
          clear hmm
          go_wp2_with fail
          clear p1 p2 hj hj0 hjt
          go_loopw [3, 48] (fun t3 t48 wr => ∃ (k : Nat) (ll : Int), t3 = .int .i64 ll ∧ t48 = .int .i64 k ∧ k ≤ x.args.length ∧ Hid (ll = nn + ((x.tag.size + x.bytes.size + x.name.size + x.attr.size + sumOf fwW x.wishes + sumOf fwA (x.args.take k) : Nat) : Int)) ∧ Hid (BoxAt wr wb #[.int .i64 x.kind, .string x.tag, .string x.bytes, .bool x.over, .slice A1 x.wishes.length c1, .string x.name, .string x.attr, .slice A2 x.args.length c2] 29) ∧ Hid (Below w.heap.size w wr)) (fun _ t48 _ => x.args.length - (intOf t48).toNat)
          case atStart => exact ⟨0, mm, rfl, rfl, Nat.zero_le _, Lib.hid (by rw [List.take_zero, sumOf]; exact HM2.out), HW, HB1⟩
          case round =>
            clear g0 g1 g2 g3 g4 g5 g6 g7
            generalize wr = w4 at *
            obtain ⟨k, ll, rfl, rfl, hk, HL, HW4, HB4⟩ := hrel
            obtain ⟨g0, g1, g2, g3, g4, g5, g6, g7, _⟩ := cellsB8 HW4.out
            have hk0 : (k : Int) ≤ 2000000 := by omega
            by_cases hkt : k < x.args.length
            · have p1 : decide ((k : Int) < (x.args.length : Int)) = true := decide_eq_true (by omega)
              have p2 : (k : Int) < (x.args.length : Int) := by omega
              obtain ⟨b3, o3, rfl, hb3, hc3⟩ := HSF.out.2 (by omega)
              obtain ⟨s, hs⟩ : ∃ s, x.args[k]? = some s := ⟨_, List.getElem?_eq_getElem hkt⟩
              obtain ⟨e0, e1, e2⟩ := hc3 k s hs
              have e0 := (HB4.out.cell (p := ⟨b3, o3 + k * 3, none⟩) hb3).trans e0
              have e1 := (HB4.out.cell (p := ⟨b3, o3 + k * 3 + 1, none⟩) hb3).trans e1
              have e2 := (HB4.out.cell (p := ⟨b3, o3 + k * 3 + 2, none⟩) hb3).trans e2
              have hb4 : b3 < w4.heap.size := Nat.lt_of_lt_of_le hb3 HB4.out.size
              have hsj := sum_take fwA x.args k s hs
              have hle := sum_take_le fwA x.args (k + 1)
              have hmm := HL.out
              have hT := HT.out
              have hX := HX.out
              have hNn := HNn.out
              have hfs : fwA s = s.name.size + s.text.size := rfl
              have y0 : (0 : Int) ≤ ll := by omega
              have y1 : ll ≤ 2000000 := by omega
              have y2 : (s.name.size : Int) ≤ 2000000 := by omega
              have y3 : (s.text.size : Int) ≤ 2000000 := by omega
              have HM3 := Lib.hid (show ll + ((s.name.size : Int) + (s.text.size : Int)) = nn + ((x.tag.size + x.bytes.size + x.name.size + x.attr.size + sumOf fwW x.wishes + sumOf fwA (x.args.take (k + 1)) : Nat) : Int) by rw [hsj]; omega)
              have HW5 := Lib.hid (HW4.out.alloc (.cells #[.string s.name, .int .i64 s.kind, .string s.text] 44))
              have HB5 := Lib.hid (HB4.out.alloc HB4.out.size (.cells #[.string s.name, .int .i64 s.kind, .string s.text] 44))
              clear hs hc3 hsj hle hmm hT hX hNn hfs
              go_wp2
              go_roundw
              case rel => exact ⟨k + 1, _, rfl, by go_num, hkt, HM3, HW5, HB5⟩
              case measure => simp [intOf]; omega
            · have p1 : decide ((k : Int) < (x.args.length : Int)) = false := decide_eq_false (by omega)
              have p2 : ¬ (k : Int) < (x.args.length : Int) := by omega
              have hmm := HL.out
              rw [List.take_of_length_le (by omega)] at hmm
              have HM3 := Lib.hid hmm
              clear hmm
              have hcs : (decide ((20 : Int) < (x.wishes.length : Int)) = true ∧ okF x = false) ∨ (decide ((20 : Int) < (x.wishes.length : Int)) = false ∧ decide ((20 : Int) < (x.args.length : Int)) = true ∧ okF x = false) ∨ (decide ((20 : Int) < (x.wishes.length : Int)) = false ∧ decide ((20 : Int) < (x.args.length : Int)) = false ∧ okF x = true) := by
                unfold okF
                by_cases h1 : x.wishes.length ≤ 20
                · by_cases h2 : x.args.length ≤ 20
                  · exact .inr (.inr ⟨decide_eq_false (by omega), decide_eq_false (by omega), by rw [decide_eq_true h1, decide_eq_true h2]; rfl⟩)
                  · exact .inr (.inl ⟨decide_eq_false (by omega), decide_eq_true (by omega), by rw [decide_eq_false h2, Bool.and_false]⟩)
                · exact .inl ⟨decide_eq_true (by omega), by rw [decide_eq_false h1, Bool.false_and]⟩
              rcases hcs with ⟨h1, h3⟩ | ⟨h1, h2, h3⟩ | ⟨h1, h2, h3⟩
              · have h1b : (20 : Int) < (x.wishes.length : Int) := of_decide_eq_true h1
                have hR := HR.out
                unfold fewB at hR
                rw [HNo.out h3, Bool.false_and] at hR
                subst hR
                go_wp2
                go_ret
                exact ⟨rfl, HB4.out⟩
              · have h1b : ¬ (20 : Int) < (x.wishes.length : Int) := of_decide_eq_false h1
                have h2b : (20 : Int) < (x.args.length : Int) := of_decide_eq_true h2
                have hR := HR.out
                unfold fewB at hR
                rw [HNo.out h3, Bool.false_and] at hR
                subst hR
                go_wp2
                go_ret
                exact ⟨rfl, HB4.out⟩
              · have h1b : ¬ (20 : Int) < (x.wishes.length : Int) := of_decide_eq_false h1
                have h2b : ¬ (20 : Int) < (x.args.length : Int) := of_decide_eq_false h2
                have HN2 := Lib.hid (show ll = (sumOf fwS (l.take (i + 1)) : Nat) by rw [HSum.out, HX.out]; have := HM3.out; have := HNn.out; omega)
                have HA2 := Lib.hid (show (l.take (i + 1)).all okF = true by rw [HAll.out, HA.out, h3]; rfl)
                clear h3
                go_wp2
                go_roundw
                case rel => exact ⟨i + 1, ll, rfl, by go_num, hlt, HN2, HA2, HB4⟩
                case measure => simp [intOf]; omega
    · have q1 : decide ((i : Int) < (l.length : Int)) = false := decide_eq_false (by omega)
      have q2 : ¬ (i : Int) < (l.length : Int) := by omega
      have hnn := HN.out
      have hA := HA.out
      rw [List.take_of_length_le (by omega)] at hnn hA
      obtain ⟨b1, hb1⟩ : ∃ q, decide ((l.length : Int) ≤ 20) = q := ⟨_, rfl⟩
      obtain ⟨b2, hb2⟩ : ∃ q, decide (nn ≤ 3000) = q := ⟨_, rfl⟩
      have hR : R = (b1 && b2) := by
        rw [← HR.out, ← hb1, ← hb2]
        unfold fewB
        rw [hA, Bool.true_and]
        congr 1
        · rw [Bool.eq_iff_iff, decide_eq_true_iff, decide_eq_true_iff]; omega
        · rw [Bool.eq_iff_iff, decide_eq_true_iff, decide_eq_true_iff]; omega
      subst hR
      clear hnn hA
      cases b1
      · go_wp2
        go_ret
        exact ⟨rfl, HB.out⟩
      · go_wp2
        go_ret
        exact ⟨by first | rfl | (simp_all; done), HB.out⟩
end Go.Proofs.YtnkijpjknbelfaaDoor
