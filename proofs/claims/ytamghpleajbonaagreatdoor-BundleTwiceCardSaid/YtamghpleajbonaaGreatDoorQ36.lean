/-
  Several texts put together (part 36): what the law and the program call, walked; their contracts.
-/
import Derived.Test.YtamghpleajbonaaGreatDoorQ21
import Derived.Test.YtamghpleajbonaaGreatDoorQ35
import Derived.Test.YtamghpleajbonaaGreatDoorQ10
import Derived.Lib.ConvBytes
import Derived.Lib.SlBytesRow
import Derived.Lib.SlBytesConst
namespace Go.Proofs.YtamghpleajbonaaGreatDoor
open Go.RowKit Go.ChangeMaps
set_option linter.unusedVariables false
set_option linter.unusedSimpArgs false
theorem conv_bytes (s : ByteArray) (b cap : Nat) (W : World) (h : Lib.Bytes W b 0 s) : (convert 35 9 (.slice (some ⟨b, 0, none⟩) s.size cap)).run Tryz.prog W = .ok (.string s) W :=
  Lib.run_convert_whole (P := Tryz.prog) W 35 5 9 Tryz.underlying35 Tryz.underlying5 Tryz.underlying9 b 0 s h cap
theorem bytes_same {W W' : World} {b : Nat} {s : ByteArray} (h : Lib.Bytes W b 0 s) (e : W'.heap[b]? = W.heap[b]?) : Lib.Bytes W' b 0 s := fun i hi => by
  have h2 := h i hi
  rw [← h2]
  unfold World.cell?
  simp only [e]
theorem h15_bytes (w : World) : Lib.Bytes (w.alloc (.cells #[.int .u8 97, .int .u8 32, .int .u8 61, .int .u8 32, .int .u8 49, .int .u8 10, .int .u8 97, .int .u8 32, .int .u8 61, .int .u8 32, .int .u8 50, .int .u8 10, .int .u8 45, .int .u8 97, .int .u8 32, .int .u8 61, .int .u8 32, .int .u8 51] 5 (18, 19))) w.heap.size 0 h15 := fun i hi => by
  have hc : ∀ k, (w.alloc (.cells #[.int .u8 97, .int .u8 32, .int .u8 61, .int .u8 32, .int .u8 49, .int .u8 10, .int .u8 97, .int .u8 32, .int .u8 61, .int .u8 32, .int .u8 50, .int .u8 10, .int .u8 45, .int .u8 97, .int .u8 32, .int .u8 61, .int .u8 32, .int .u8 51] 5 (18, 19))).cell? ⟨w.heap.size, k, none⟩ = (#[.int .u8 97, .int .u8 32, .int .u8 61, .int .u8 32, .int .u8 49, .int .u8 10, .int .u8 97, .int .u8 32, .int .u8 61, .int .u8 32, .int .u8 50, .int .u8 10, .int .u8 45, .int .u8 97, .int .u8 32, .int .u8 61, .int .u8 32, .int .u8 51] : Array Value)[k]? := by
    intro k
    rw [Lib.cell_of_heap (heap_alloc_new w _)]
  rw [hc]
  have h4 : i < 18 := hi
  match i, h4 with
  | 0, _ => rfl
  | 1, _ => rfl
  | 2, _ => rfl
  | 3, _ => rfl
  | 4, _ => rfl
  | 5, _ => rfl
  | 6, _ => rfl
  | 7, _ => rfl
  | 8, _ => rfl
  | 9, _ => rfl
  | 10, _ => rfl
  | 11, _ => rfl
  | 12, _ => rfl
  | 13, _ => rfl
  | 14, _ => rfl
  | 15, _ => rfl
  | 16, _ => rfl
  | 17, _ => rfl
  | k + 18, h => exact absurd h (by omega)
theorem dec15 : (⟨(decAll h15).toArray⟩ : ByteArray) = h15 := by
  have : decAll h15 = [97, 32, 61, 32, 49, 10, 97, 32, 61, 32, 50, 10, 45, 97, 32, 61, 32, 51] := by kernel_rfl
  rw [this]
theorem three_of {vs : List VE} {a b c : EN} (h : vs.map (·.x) = [a, b, c]) : ∃ e1 e2 e3 : VE, vs = [e1, e2, e3] ∧ e1.x = a ∧ e2.x = b ∧ e3.x = c := by
  match vs, h with
  | [e1, e2, e3], h =>
    simp at h
    exact ⟨e1, e2, e3, rfl, h.1, h.2.1, h.2.2⟩
theorem pat_one {W : World} {F : Nat → Prop} {A : Option Addr} {n c : Nat} {t0 : ByteArray} (h : PatF W F [.mk t0 none] (.slice A n c)) : ∃ b o, A = some ⟨b, o, none⟩ ∧ F b ∧ W.cell? ⟨b, o, none⟩ = some (.string t0) := by
  obtain ⟨A', c', e, _, _, h2⟩ := h
  simp only [Value.slice.injEq] at e
  obtain ⟨rfl, rfl, rfl⟩ := e
  obtain ⟨b, o, rfl, h3⟩ := h2 (by simp)
  rw [EsF] at h3
  exact ⟨b, o, rfl, h3.1, h3.2.1⟩
set_option maxHeartbeats 8000000 in
set_option maxRecDepth 100000 in
theorem head15_any (w : World) : Calls Tryz.prog 6 #[] w fun e w' => e = .returned (.bool true) ∧ Below w.heap.size w w' := by
  go_enter Tryz.func6, Tryz.ntmps6
  go_wp2_with fail
  go_at_call 13
  refine (new_any _ _ _ _).mono ?_
  rintro e w1 ⟨b, rfl, hb0, hB, hbel⟩
  have HB := Lib.hid hB
  have Hb := Lib.hid hbel
  have hbl := hB.lt
  have hcc := Lib.run_convert_bytes_const (P := Tryz.prog) w1 35 5 #[.int .u8 97, .int .u8 32, .int .u8 61, .int .u8 32, .int .u8 49, .int .u8 10, .int .u8 97, .int .u8 32, .int .u8 61, .int .u8 32, .int .u8 50, .int .u8 10, .int .u8 45, .int .u8 97, .int .u8 32, .int .u8 61, .int .u8 32, .int .u8 51] 18 18 Tryz.underlying35 Tryz.underlying5
  clear hB hbel
  go_wp2_with fail
  go_at_call 14
  have hV : BoxAt (w1.alloc (.cells #[.int .u8 97, .int .u8 32, .int .u8 61, .int .u8 32, .int .u8 49, .int .u8 10, .int .u8 97, .int .u8 32, .int .u8 61, .int .u8 32, .int .u8 50, .int .u8 10, .int .u8 45, .int .u8 97, .int .u8 32, .int .u8 61, .int .u8 32, .int .u8 51] 5 (18, 19))) b (bunC ⟨#[101, 110]⟩ ⟨#[]⟩ ⟨#[]⟩ (.map none) (.map none)) 68 := HB.out.alloc _
  have hbt := h15_bytes w1
  have hVb := Lib.hid (below_new Hb.out (Nat.le_refl _) (.cells #[.int .u8 97, .int .u8 32, .int .u8 61, .int .u8 32, .int .u8 49, .int .u8 10, .int .u8 97, .int .u8 32, .int .u8 61, .int .u8 32, .int .u8 50, .int .u8 10, .int .u8 45, .int .u8 97, .int .u8 32, .int .u8 61, .int .u8 32, .int .u8 51] 5 (18, 19)))
  have hVl : w1.heap.size < (w1.alloc (.cells #[.int .u8 97, .int .u8 32, .int .u8 61, .int .u8 32, .int .u8 49, .int .u8 10, .int .u8 97, .int .u8 32, .int .u8 61, .int .u8 32, .int .u8 50, .int .u8 10, .int .u8 45, .int .u8 97, .int .u8 32, .int .u8 61, .int .u8 32, .int .u8 51] 5 (18, 19))).heap.size := by simp
  have hVs : (w1.alloc (.cells #[.int .u8 97, .int .u8 32, .int .u8 61, .int .u8 32, .int .u8 49, .int .u8 10, .int .u8 97, .int .u8 32, .int .u8 61, .int .u8 32, .int .u8 50, .int .u8 10, .int .u8 45, .int .u8 97, .int .u8 32, .int .u8 61, .int .u8 32, .int .u8 51] 5 (18, 19))).heap.size = w1.heap.size + 1 := by simp
  generalize w1.alloc (.cells #[.int .u8 97, .int .u8 32, .int .u8 61, .int .u8 32, .int .u8 49, .int .u8 10, .int .u8 97, .int .u8 32, .int .u8 61, .int .u8 32, .int .u8 50, .int .u8 10, .int .u8 45, .int .u8 97, .int .u8 32, .int .u8 61, .int .u8 32, .int .u8 51] 5 (18, 19)) = V at *
  refine (add_core b V.heap.size (V.heap.size + 1) _ h15 false ⟨#[101, 110]⟩ ⟨#[]⟩ ⟨#[]⟩ [] [] V (by decide) (by rw [h15_parse]; decide) (by rw [h15_parse]; decide)
    (makeMaps_new b _ _ _ V hV) ⟨by omega, by omega, by omega⟩
    (fun W hK => by
      have := decode_any (some ⟨w1.heap.size, 0, none⟩) 18 h15 W (by decide) (fun W' hW => conv_bytes h15 _ 18 W' (bytes_same hbt ((hW.block _ (by have := hK.size; omega)).trans (hK.others _ hVl (by omega)))))
      rw [dec15] at this
      exact this)
    (fun W => parse_call (pat_calls (by decide)) (by decide) W)).mono ?_
  rintro e w5 ⟨vs, v, wa, wb, hv, hka, ⟨l1, l2, l3⟩, hbb, hk3, hpat, rfl, hown, hB5, hM5, hT5⟩
  rw [h15_parse] at hv
  obtain ⟨⟨x1, A1, c1, B1, d1⟩, ⟨x2, A2, c2, B2, d2⟩, ⟨x3, A3, c3, B3, d3⟩, rfl, h1, h2, h3⟩ := three_of hv
  dsimp only at h1 h2 h3
  subst h1 h2 h3
  have hp1 := (hpat _ (List.mem_cons_self ..)).1
  have hp3 := (hpat _ (List.mem_cons_of_mem _ (List.mem_cons_of_mem _ (List.mem_cons_self ..)))).1
  dsimp only at hp1 hp3
  obtain ⟨q1, o1, rfl, f1, k1⟩ := pat_one hp1
  obtain ⟨q3, o3, rfl, f3, k3⟩ := pat_one hp3
  have eR : addS false [⟨⟨1, 0, E0, ⟨#[97]⟩, [.mk ⟨#[49]⟩ none], [], 0, 6⟩, some ⟨q1, o1, none⟩, c1, B1, d1⟩, ⟨⟨1, 0, E0, ⟨#[97]⟩, [.mk ⟨#[50]⟩ none], [], 6, 12⟩, A2, c2, B2, d2⟩, ⟨⟨2, 0, E0, ⟨#[97]⟩, [.mk ⟨#[51]⟩ none], [], 12, 18⟩, some ⟨q3, o3, none⟩, c3, B3, d3⟩] ⟨[], [], [], 0⟩ =
      ⟨[⟨⟨1, 0, E0, ⟨#[97]⟩, [.mk ⟨#[49]⟩ none], [], 0, 6⟩, some ⟨q1, o1, none⟩, c1, B1, d1⟩], [⟨⟨2, 0, E0, ⟨#[97]⟩, [.mk ⟨#[51]⟩ none], [], 12, 18⟩, some ⟨q3, o3, none⟩, c3, B3, d3⟩], [⟨#[97]⟩], 0⟩ := by
    simp [addS, addE, putL]
  rw [eR] at hown hM5 hT5
  rw [eR]
  clear eR hv hpat hp1 hp3
  dsimp only at hown hM5 hT5 ⊢
  rcases hown.2 with ⟨rfl, h0⟩ | ⟨g, cap, cur, rfl, hgb, hg, hc1, hc2, hcs, htk⟩
  · simp at h0
  have tw0 : w5.cell? ⟨g, 0, none⟩ = some (.string ⟨#[97]⟩) := by
    have := hown.cells (g := g) rfl 0 (.string ⟨#[97]⟩) (by simp)
    rw [Addr.add_mid] at this
    simpa using this
  have k1' : w5.cell? ⟨q1, o1, none⟩ = some (.string ⟨#[49]⟩) := (hk3.cell (a := ⟨q1, o1, none⟩) f1.2 (by have := f1.1; show q1 ≠ _; omega) (by have := f1.1; show q1 ≠ _; omega)).trans k1
  have k3' : w5.cell? ⟨q3, o3, none⟩ = some (.string ⟨#[51]⟩) := (hk3.cell (a := ⟨q3, o3, none⟩) f3.2 (by have := f3.1; show q3 ≠ _; omega) (by have := f3.1; show q3 ≠ _; omega)).trans k3
  have hgl : g < w5.heap.size := (Array.getElem?_eq_some_iff.1 hg).1
  have hql1 : q1 < w5.heap.size := Nat.lt_of_lt_of_le f1.2 hk3.low.size
  have hql3 : q3 < w5.heap.size := Nat.lt_of_lt_of_le f3.2 hk3.low.size
  have hW5 : Below w.heap.size w w5 := by
    have a1 := hVb.out.size
    refine hVb.out.trans ?_
    have a2 : Below w.heap.size V wa := (hka.below).mono hb0
    have a3 : Below w.heap.size wa wb := hbb.mono (by have := a2.size; omega)
    have a4 : Below w.heap.size wb w5 := ⟨hk3.low.os, hk3.low.tape, hk3.low.output, hk3.low.size, fun k hk => hk3.others k (by have := a2.size; have := a3.size; omega) (by omega) (by omega)⟩
    exact (a2.trans a3).trans a4
  have HW5 := Lib.hid hW5
  have HB5 := Lib.hid hB5
  have HM5 := Lib.hid hM5
  have HT5 := Lib.hid hT5
  clear hown hM5 hT5 hB5 hW5 hcc hV hbt hg hcs htk k1 k3 hka hbb hk3
  go_wp2_with fail
  go_at_call 15
  refine (message_any _ _ _ _ _ _ _ _ _ (some (0, VE.v ⟨⟨1, 0, E0, ⟨#[97]⟩, [.mk ⟨#[49]⟩ none], [], 0, 6⟩, some ⟨q1, o1, none⟩, c1, B1, d1⟩)) 1 0 ((0 : Nat) : Int) ((6 : Nat) : Int) E0 ⟨#[97]⟩ (some ⟨q1, o1, none⟩) B1 1 c1 0 d1 _ HB5.out HM5.out rfl rfl).mono ?_
  rintro e w6 ⟨rfl, b6⟩
  have HB6 := Lib.hid (HB5.out.later b6)
  have HT6 := Lib.hid (HT5.out.later b6)
  have HW6 := Lib.hid (HW5.out.trans (b6.mono HW5.out.size))
  have tw6 := (b6.cell (p := ⟨g, 0, none⟩) hgl).trans tw0
  have k16 := (b6.cell (p := ⟨q1, o1, none⟩) hql1).trans k1'
  have k36 := (b6.cell (p := ⟨q3, o3, none⟩) hql3).trans k3'
  have hs6 := b6.size
  clear b6 tw0 k1' k3'
  have X6 := Lib.hid (BoxAt.new w6 #[.int .i64 1, .int .i64 0, .string E0, .string ⟨#[97]⟩, .slice (some ⟨q1, o1, none⟩) 1 c1, .slice B1 0 d1, .int .i64 ((0 : Nat) : Int), .int .i64 ((6 : Nat) : Int)] 26)
  go_wp2_with fail
  go_at_call 19
  refine (term_any _ _ _ _ _ _ _ _ _ (some (0, VE.v ⟨⟨2, 0, E0, ⟨#[97]⟩, [.mk ⟨#[51]⟩ none], [], 12, 18⟩, some ⟨q3, o3, none⟩, c3, B3, d3⟩)) 2 0 ((12 : Nat) : Int) ((18 : Nat) : Int) E0 ⟨#[97]⟩ (some ⟨q3, o3, none⟩) B3 1 c3 0 d3 _ (HB6.out.alloc _) (HT6.out.alloc _) rfl rfl).mono ?_
  rintro e w7 ⟨rfl, b7⟩
  have HW7 := Lib.hid (HW6.out.trans ((below_box b7).mono HW6.out.size))
  have X7 := X6.out.later b7
  have tw7 := ((below_box b7).cell (p := ⟨g, 0, none⟩) (by show g < _; omega)).trans tw6
  have k17 := ((below_box b7).cell (p := ⟨q1, o1, none⟩) (by show q1 < _; omega)).trans k16
  have k37 := ((below_box b7).cell (p := ⟨q3, o3, none⟩) (by show q3 < _; omega)).trans k36
  have x74 : w7.cell? ⟨w6.heap.size, 4, none⟩ = some (.slice (some ⟨q1, o1, none⟩) 1 c1) := X7.cell 4
  have zx7 := X7.lt
  have hs7 := (below_box b7).size
  have zg : g < w7.heap.size := by omega
  have zq1 : q1 < w7.heap.size := by omega
  have zq3 : q3 < w7.heap.size := by omega
  clear b7 X7 X6 tw6 k16 k36
  go_wp2
  go_ret
  exact ⟨rfl, below_new HW7.out (Nat.le_refl _) _⟩
end Go.Proofs.YtamghpleajbonaaGreatDoor
