/-
  Package script: ScriptCuts.
-/
import Derived.Test.YtnkijpjknbelfaaDoorSxb
import Derived.Test.YtnkijpjknbelfaaDoorSwy
import Derived.StillTailTactics
namespace Go.Proofs.YtnkijpjknbelfaaDoor
open Go.RowKit
set_option linter.unusedVariables false
set_option linter.unusedSimpArgs false

theorem encL_one (s : ST) : encL [s] = encS s := by simp [encL]
theorem own_pos {B : Nat} {W : World} {v : Value} {l : List UInt8} (h : OwnBy B W v l) (h0 : 0 < l.length) : ∃ g cap, v = .slice (some ⟨g, 0, none⟩) l.length cap ∧ l.length ≤ cap ∧ B ≤ g ∧ g < W.heap.size := by
  have h' := h
  rcases h.2 with ⟨_, h1⟩ | ⟨g, cap, cur, rfl, hb, hg, hc1, hc2, hcs, htk⟩
  · omega
  · exact ⟨g, cap, rfl, by omega, (World.ownsRow.lt h' g rfl).1, (World.ownsRow.lt h' g rfl).2⟩
theorem decode_pre {B : Nat} {w : World} {g cap k : Nat} {l : List UInt8} (ho : OwnBy B w (.slice (some ⟨g, 0, none⟩) l.length cap) l) (hk : k ≤ l.length) (hE : Env w) :
    Calls Tryd.prog 15 #[.slice (some ⟨g, 0, none⟩) k cap] w (GotD w (decD (mkS (l.take k)))) := by
  have hsz : (mkS (l.take k)).size = k := by rw [size_mkS, List.length_take]; omega
  have hb : Lib.Bytes w g 0 (mkS (l.take k)) := fun i hi => by
    rw [hsz] at hi
    have hi2 : i < (l.take k).length := by rw [List.length_take]; omega
    have := World.ownsRow.cells (g := g) ho rfl i (.int .u8 (((l.take k)[i]'hi2).toNat : Nat)) (by unfold Lib.byteCells; rw [List.getElem?_map, List.getElem_take, List.getElem?_eq_getElem (by omega)]; rfl)
    rw [addMid] at this
    exact this
  have hc := Lib.run_convert_whole (P := Tryd.prog) w 32 5 9 Tryd.underlying32 Tryd.underlying5 Tryd.underlying9 g 0 (mkS (l.take k)) hb cap
  have := decode_any (A := some ⟨g, 0, none⟩) (c := cap) (s := mkS (l.take k)) w hE hc
  rw [hsz] at this
  exact this
theorem decode_own {B : Nat} {w : World} {v : Value} {l : List UInt8} (ho : OwnBy B w v l) (hE : Env w) :
    Calls Tryd.prog 15 #[v] w (GotD w (decD (mkS l))) := by
  obtain ⟨A, c, rfl⟩ := own_len ho
  have := decode_any (A := A) (c := c) (s := mkS l) w hE (by rw [size_mkS]; exact own_conv ho)
  rw [size_mkS] at this
  exact this
set_option maxHeartbeats 8000000 in
set_option maxRecDepth 100000 in
theorem cuts_1 (s : ST) (A1 A2 : Option Addr) (c1 c2 : Nat) (cut : Int) (more : List ST) (A : Option Addr) (c : Nat) (w : World) (hE : Env w) (hs : StF w (Old w) s A1 A2) (hm : StsIn w (Old w) more A) (zs : szS s ≤ 2000000) (zm : sumOf szS more ≤ 2000000) (fs : fewB [s] = false) :
    Calls Tryd.prog 5 #[.agg (stA s A1 c1 A2 c2), .int .i64 cut, .slice A more.length c] w fun e w' => e = .returned (.bool true) ∧ Below w.heap.size w w' := by
  have HE := Lib.hid hE
  have HSf := Lib.hid hs
  have HM := Lib.hid hm
  have HZs := Lib.hid zs
  have HZm := Lib.hid zm
  clear hE hs hm zs zm
  unfold stA
  go_enter Tryd.func5, Tryd.ntmps5
  go_upto_region 1 with fail
  have X0 := BoxAt.new w #[.int .i64 s.kind, .string s.tag, .string s.bytes, .bool s.over, .slice A1 s.wishes.length c1, .string s.name, .string s.attr, .slice A2 s.args.length c2] 29
  have K0 := Lib.hid ((Below.refl w.heap.size w).alloc (Nat.le_refl _) (.cells #[.int .i64 s.kind, .string s.tag, .string s.bytes, .bool s.over, .slice A1 s.wishes.length c1, .string s.name, .string s.attr, .slice A2 s.args.length c2] 29))
  generalize w.alloc (.cells #[.int .i64 s.kind, .string s.tag, .string s.bytes, .bool s.over, .slice A1 s.wishes.length c1, .string s.name, .string s.attr, .slice A2 s.args.length c2] 29) = W at *
  have HX := Lib.hid X0
  clear X0
  go_wp2_with fail
  go_at_call 9
  refine (head_any _ (HE.out.below K0.out)).mono ?_
  rintro e w1 ⟨rfl, hb1⟩
  have HB1 := Lib.hid (K0.out.trans (hb1.mono K0.out.size))
  have HX1 := Lib.hid (HX.out.later hb1)
  obtain ⟨a0, a1, a2, a3, a4, a5, a6, a7, _⟩ := cellsB8 HX1.out
  clear hb1
  go_wp2_with fail
  go_at_call 10
  refine (few_any (l := [s]) (A := some ⟨w1.heap.size, 0, none⟩) (c := 1) (w1.alloc (.cells #[.int .i64 s.kind, .string s.tag, .string s.bytes, .bool s.over, .slice A1 s.wishes.length c1, .string s.name, .string s.attr, .slice A2 s.args.length c2] 29)) (one_sts (BoxAt.new w1 #[.int .i64 s.kind, .string s.tag, .string s.bytes, .bool s.over, .slice A1 s.wishes.length c1, .string s.name, .string s.attr, .slice A2 s.args.length c2] 29) (HSf.out.later (HB1.out.alloc HB1.out.size _))) (by have := HZs.out; rw [sumOf, sumOf]; omega)).mono ?_
  rw [fs]
  rintro e w2 ⟨rfl, hb2⟩
  have hb2' := below_box hb2
  have HB2 := Lib.hid (HB1.out.trans (hb2'.mono HB1.out.size))
  have HX2 := Lib.hid (HX1.out.later hb2')
  clear hb2 hb2' a0 a1 a2 a3 a4 a5 a6 a7
  go_wp2
  go_ret
  exact ⟨rfl, HB2.out⟩
set_option maxHeartbeats 8000000 in
set_option maxRecDepth 100000 in
theorem cuts_2 (s : ST) (A1 A2 : Option Addr) (c1 c2 : Nat) (cut : Int) (more : List ST) (A : Option Addr) (c : Nat) (w : World) (hE : Env w) (hs : StF w (Old w) s A1 A2) (hm : StsIn w (Old w) more A) (zs : szS s ≤ 2000000) (zm : sumOf szS more ≤ 2000000) (fs : fewB [s] = true) (fm : fewB more = false) :
    Calls Tryd.prog 5 #[.agg (stA s A1 c1 A2 c2), .int .i64 cut, .slice A more.length c] w fun e w' => e = .returned (.bool true) ∧ Below w.heap.size w w' := by
  have HE := Lib.hid hE
  have HSf := Lib.hid hs
  have HM := Lib.hid hm
  have HZs := Lib.hid zs
  have HZm := Lib.hid zm
  clear hE hs hm zs zm
  unfold stA
  go_enter Tryd.func5, Tryd.ntmps5
  go_upto_region 1 with fail
  have X0 := BoxAt.new w #[.int .i64 s.kind, .string s.tag, .string s.bytes, .bool s.over, .slice A1 s.wishes.length c1, .string s.name, .string s.attr, .slice A2 s.args.length c2] 29
  have K0 := Lib.hid ((Below.refl w.heap.size w).alloc (Nat.le_refl _) (.cells #[.int .i64 s.kind, .string s.tag, .string s.bytes, .bool s.over, .slice A1 s.wishes.length c1, .string s.name, .string s.attr, .slice A2 s.args.length c2] 29))
  generalize w.alloc (.cells #[.int .i64 s.kind, .string s.tag, .string s.bytes, .bool s.over, .slice A1 s.wishes.length c1, .string s.name, .string s.attr, .slice A2 s.args.length c2] 29) = W at *
  have HX := Lib.hid X0
  clear X0
  go_wp2_with fail
  go_at_call 9
  refine (head_any _ (HE.out.below K0.out)).mono ?_
  rintro e w1 ⟨rfl, hb1⟩
  have HB1 := Lib.hid (K0.out.trans (hb1.mono K0.out.size))
  have HX1 := Lib.hid (HX.out.later hb1)
  obtain ⟨a0, a1, a2, a3, a4, a5, a6, a7, _⟩ := cellsB8 HX1.out
  clear hb1
  go_wp2_with fail
  go_at_call 10
  refine (few_any (l := [s]) (A := some ⟨w1.heap.size, 0, none⟩) (c := 1) (w1.alloc (.cells #[.int .i64 s.kind, .string s.tag, .string s.bytes, .bool s.over, .slice A1 s.wishes.length c1, .string s.name, .string s.attr, .slice A2 s.args.length c2] 29)) (one_sts (BoxAt.new w1 #[.int .i64 s.kind, .string s.tag, .string s.bytes, .bool s.over, .slice A1 s.wishes.length c1, .string s.name, .string s.attr, .slice A2 s.args.length c2] 29) (HSf.out.later (HB1.out.alloc HB1.out.size _))) (by have := HZs.out; rw [sumOf, sumOf]; omega)).mono ?_
  rw [fs]
  rintro e w2 ⟨rfl, hb2⟩
  have hb2' := below_box hb2
  have HB2 := Lib.hid (HB1.out.trans (hb2'.mono HB1.out.size))
  have HX2 := Lib.hid (HX1.out.later hb2')
  clear hb2 hb2' a0 a1 a2 a3 a4 a5 a6 a7
  go_wp2_with fail
  go_at_call 10
  refine (few_any _ (HM.out.later HB2.out) HZm.out).mono ?_
  rw [fm]
  rintro e w3 ⟨rfl, hb3⟩
  have HB3 := Lib.hid (HB2.out.trans (hb3.mono HB2.out.size))
  have HX3 := Lib.hid (HX2.out.later hb3)
  clear hb3
  go_wp2
  go_ret
  exact ⟨rfl, HB3.out⟩
set_option maxHeartbeats 8000000 in
set_option maxRecDepth 100000 in
theorem cuts_3 (s : ST) (A1 A2 : Option Addr) (c1 c2 : Nat) (cut : Int) (more : List ST) (A : Option Addr) (c : Nat) (w : World) (hE : Env w) (hs : StF w (Old w) s A1 A2) (hm : StsIn w (Old w) more A) (zs : szS s ≤ 2000000) (zm : sumOf szS more ≤ 2000000) (fs : fewB [s] = true) (fm : fewB more = true) (r : rightS s = false) :
    Calls Tryd.prog 5 #[.agg (stA s A1 c1 A2 c2), .int .i64 cut, .slice A more.length c] w fun e w' => e = .returned (.bool true) ∧ Below w.heap.size w w' := by
  obtain ⟨_, hsh⟩ := few_short fs
  obtain ⟨hsS, hsw, hsa, hfw⟩ := hsh s (List.mem_singleton.2 rfl)
  unfold fwS at hfw
  have hR := fun W (g : Below w.heap.size w W) => lright_any s A1 A2 c1 c2 W (hE.below g) (hs.later g) (by omega) (by omega) (fun a ha => by have h : a.name.size + a.text.size ≤ _ := sum_mem fwA ha; omega)
  rw [r] at hR
  unfold stA at hR
  have HR := Lib.hid hR
  clear hR hfw hsh
  have HE := Lib.hid hE
  have HSf := Lib.hid hs
  have HM := Lib.hid hm
  have HZs := Lib.hid zs
  have HZm := Lib.hid zm
  clear hE hs hm zs zm
  unfold stA
  go_enter Tryd.func5, Tryd.ntmps5
  go_upto_region 1 with fail
  have X0 := BoxAt.new w #[.int .i64 s.kind, .string s.tag, .string s.bytes, .bool s.over, .slice A1 s.wishes.length c1, .string s.name, .string s.attr, .slice A2 s.args.length c2] 29
  have K0 := Lib.hid ((Below.refl w.heap.size w).alloc (Nat.le_refl _) (.cells #[.int .i64 s.kind, .string s.tag, .string s.bytes, .bool s.over, .slice A1 s.wishes.length c1, .string s.name, .string s.attr, .slice A2 s.args.length c2] 29))
  generalize w.alloc (.cells #[.int .i64 s.kind, .string s.tag, .string s.bytes, .bool s.over, .slice A1 s.wishes.length c1, .string s.name, .string s.attr, .slice A2 s.args.length c2] 29) = W at *
  have HX := Lib.hid X0
  clear X0
  go_wp2_with fail
  go_at_call 9
  refine (head_any _ (HE.out.below K0.out)).mono ?_
  rintro e w1 ⟨rfl, hb1⟩
  have HB1 := Lib.hid (K0.out.trans (hb1.mono K0.out.size))
  have HX1 := Lib.hid (HX.out.later hb1)
  obtain ⟨a0, a1, a2, a3, a4, a5, a6, a7, _⟩ := cellsB8 HX1.out
  clear hb1
  go_wp2_with fail
  go_at_call 10
  refine (few_any (l := [s]) (A := some ⟨w1.heap.size, 0, none⟩) (c := 1) (w1.alloc (.cells #[.int .i64 s.kind, .string s.tag, .string s.bytes, .bool s.over, .slice A1 s.wishes.length c1, .string s.name, .string s.attr, .slice A2 s.args.length c2] 29)) (one_sts (BoxAt.new w1 #[.int .i64 s.kind, .string s.tag, .string s.bytes, .bool s.over, .slice A1 s.wishes.length c1, .string s.name, .string s.attr, .slice A2 s.args.length c2] 29) (HSf.out.later (HB1.out.alloc HB1.out.size _))) (by have := HZs.out; rw [sumOf, sumOf]; omega)).mono ?_
  rw [fs]
  rintro e w2 ⟨rfl, hb2⟩
  have hb2' := below_box hb2
  have HB2 := Lib.hid (HB1.out.trans (hb2'.mono HB1.out.size))
  have HX2 := Lib.hid (HX1.out.later hb2')
  clear hb2 hb2' a0 a1 a2 a3 a4 a5 a6 a7
  go_wp2_with fail
  go_at_call 10
  refine (few_any _ (HM.out.later HB2.out) HZm.out).mono ?_
  rw [fm]
  rintro e w3 ⟨rfl, hb3⟩
  have HB3 := Lib.hid (HB2.out.trans (hb3.mono HB2.out.size))
  have HX3 := Lib.hid (HX2.out.later hb3)
  clear hb3
  obtain ⟨a0, a1, a2, a3, a4, a5, a6, a7, _⟩ := cellsB8 HX3.out
  go_wp2_with fail
  go_at_call 12
  refine (HR.out _ HB3.out).mono ?_
  rintro e w4 ⟨rfl, hb4⟩
  have HB4 := Lib.hid (HB3.out.trans (hb4.mono HB3.out.size))
  have HX4 := Lib.hid (HX3.out.later hb4)
  clear hb4 a0 a1 a2 a3 a4 a5 a6 a7
  go_wp2
  go_ret
  exact ⟨rfl, HB4.out⟩
theorem cut_at (cut : Int) {n : Nat} (h : 0 < n) (hn : n ≤ 100000) : ∃ k : Nat, wrap64 ((IntKind.u64.wrap cut).tmod (n : Int)) = (k : Int) ∧ k < n := by
  rw [IntKind.wrap_u64]
  have h0 : 0 ≤ cut % 18446744073709551616 := Int.emod_nonneg _ (by decide)
  rw [Int.tmod_eq_emod_of_nonneg h0]
  have h1 : 0 ≤ cut % 18446744073709551616 % (n : Int) := Int.emod_nonneg _ (by omega)
  have h2 : cut % 18446744073709551616 % (n : Int) < (n : Int) := Int.emod_lt_of_pos _ (by omega)
  generalize cut % 18446744073709551616 % (n : Int) = z at *
  refine ⟨z.toNat, ?_, by omega⟩
  unfold wrap64
  omega
theorem own_src {B : Nat} {W : World} {A : Option Addr} {m c : Nat} {l : List UInt8} (h : OwnBy B W (.slice A m c) l) (hm : m = l.length) : (Lib.byteCells l).length = m * 1 ∧ (0 < m → ∃ ad, A = some ad ∧ ∀ j u, (Lib.byteCells l)[j]? = some u → W.cell? (ad.add j) = some u) ∧ ∀ u ∈ Lib.byteCells l, u.oneCell' = true := by
  subst hm
  refine ⟨by simp [Lib.byteCells], fun h0 => ?_, fun u hu => ?_⟩
  · obtain ⟨g, cap, e, _⟩ := own_pos h h0
    cases e
    exact ⟨_, rfl, fun j u hu => World.ownsRow.cells (g := g) h rfl j u hu⟩
  · obtain ⟨b, _, rfl⟩ := List.mem_map.1 hu
    rfl
set_option maxHeartbeats 8000000 in
set_option maxRecDepth 100000 in
theorem cuts_4 (s : ST) (A1 A2 : Option Addr) (c1 c2 : Nat) (cut : Int) (more : List ST) (A : Option Addr) (c : Nat) (w : World) (hE : Env w) (hs : StF w (Old w) s A1 A2) (hm : StsIn w (Old w) more A) (zs : szS s ≤ 2000000) (zm : sumOf szS more ≤ 2000000) (fs : fewB [s] = true) (fm : fewB more = true) (r : rightS s = true) (rm : more.all rightS = false) :
    Calls Tryd.prog 5 #[.agg (stA s A1 c1 A2 c2), .int .i64 cut, .slice A more.length c] w fun e w' => e = .returned (.bool true) ∧ Below w.heap.size w w' := by
  obtain ⟨_, hsh⟩ := few_short fs
  obtain ⟨hsS, hsw, hsa, hfw⟩ := hsh s (List.mem_singleton.2 rfl)
  unfold fwS at hfw
  have hR := fun W (g : Below w.heap.size w W) => lright_any s A1 A2 c1 c2 W (hE.below g) (hs.later g) (by omega) (by omega) (fun a ha => by have h : a.name.size + a.text.size ≤ _ := sum_mem fwA ha; omega)
  rw [r] at hR
  unfold stA at hR
  have HR := Lib.hid hR
  clear hR hfw hsh
  have hes := few_enc fs
  rw [encL_one] at hes
  have hem := few_enc fm
  have hvs := valS_of hsS r
  obtain ⟨hml, hmsh⟩ := few_short fm
  have hposn := encS_pos s
  have HEs := Lib.hid (fun W g (hg : BoxAt W g (stA s A1 c1 A2 c2) 29) (gb : Below w.heap.size w W) => encode_any (A := some ⟨g, 0, none⟩) (c := 1) (l := [s]) W (hE.below gb) (one_sts hg (hs.later gb)) (fun x hx => by rw [List.mem_singleton.1 hx]; exact hsS.ok) (by show 1 ≤ 1000000; decide) (by rw [encL_one]; omega))
  rw [encR_few (show [s].length ≤ 4096 from (by decide : 1 ≤ 4096)), if_pos (by rw [List.all_cons, r]; rfl), encL_one] at HEs
  have HEm := Lib.hid (fun W (g : Below w.heap.size w W) => encode_any (c := c) W (hE.below g) (hm.later g) (fun x hx => (hmsh x hx).1.ok) (by omega) (by omega))
  rw [encR_few (show more.length ≤ 4096 by omega)] at HEm
  unfold stA at HEs
  have HCut := Lib.hid (fun (k : Nat) (h0 : 0 < k) (hk : k < (encS s).length) => dec_cut hvs h0 hk (by omega))
  rw [if_neg (by rw [rm]; simp)] at HEm
  have HE := Lib.hid hE
  have HSf := Lib.hid hs
  have HM := Lib.hid hm
  have HZs := Lib.hid zs
  have HZm := Lib.hid zm
  clear hE hs hm zs zm
  unfold stA
  go_enter Tryd.func5, Tryd.ntmps5
  go_upto_region 1 with fail
  have X0 := BoxAt.new w #[.int .i64 s.kind, .string s.tag, .string s.bytes, .bool s.over, .slice A1 s.wishes.length c1, .string s.name, .string s.attr, .slice A2 s.args.length c2] 29
  have K0 := Lib.hid ((Below.refl w.heap.size w).alloc (Nat.le_refl _) (.cells #[.int .i64 s.kind, .string s.tag, .string s.bytes, .bool s.over, .slice A1 s.wishes.length c1, .string s.name, .string s.attr, .slice A2 s.args.length c2] 29))
  generalize w.alloc (.cells #[.int .i64 s.kind, .string s.tag, .string s.bytes, .bool s.over, .slice A1 s.wishes.length c1, .string s.name, .string s.attr, .slice A2 s.args.length c2] 29) = W at *
  have HX := Lib.hid X0
  clear X0
  go_wp2_with fail
  go_at_call 9
  refine (head_any _ (HE.out.below K0.out)).mono ?_
  rintro e w1 ⟨rfl, hb1⟩
  have HB1 := Lib.hid (K0.out.trans (hb1.mono K0.out.size))
  have HX1 := Lib.hid (HX.out.later hb1)
  obtain ⟨a0, a1, a2, a3, a4, a5, a6, a7, _⟩ := cellsB8 HX1.out
  clear hb1
  go_wp2_with fail
  go_at_call 10
  refine (few_any (l := [s]) (A := some ⟨w1.heap.size, 0, none⟩) (c := 1) (w1.alloc (.cells #[.int .i64 s.kind, .string s.tag, .string s.bytes, .bool s.over, .slice A1 s.wishes.length c1, .string s.name, .string s.attr, .slice A2 s.args.length c2] 29)) (one_sts (BoxAt.new w1 #[.int .i64 s.kind, .string s.tag, .string s.bytes, .bool s.over, .slice A1 s.wishes.length c1, .string s.name, .string s.attr, .slice A2 s.args.length c2] 29) (HSf.out.later (HB1.out.alloc HB1.out.size _))) (by have := HZs.out; rw [sumOf, sumOf]; omega)).mono ?_
  rw [fs]
  rintro e w2 ⟨rfl, hb2⟩
  have hb2' := below_box hb2
  have HB2 := Lib.hid (HB1.out.trans (hb2'.mono HB1.out.size))
  have HX2 := Lib.hid (HX1.out.later hb2')
  clear hb2 hb2' a0 a1 a2 a3 a4 a5 a6 a7
  go_wp2_with fail
  go_at_call 10
  refine (few_any _ (HM.out.later HB2.out) HZm.out).mono ?_
  rw [fm]
  rintro e w3 ⟨rfl, hb3⟩
  have HB3 := Lib.hid (HB2.out.trans (hb3.mono HB2.out.size))
  have HX3 := Lib.hid (HX2.out.later hb3)
  clear hb3
  obtain ⟨a0, a1, a2, a3, a4, a5, a6, a7, _⟩ := cellsB8 HX3.out
  go_wp2_with fail
  go_at_call 12
  refine (HR.out _ HB3.out).mono ?_
  rintro e w4 ⟨rfl, hb4⟩
  have HB4 := Lib.hid (HB3.out.trans (hb4.mono HB3.out.size))
  have HX4 := Lib.hid (HX3.out.later hb4)
  clear hb4 a0 a1 a2 a3 a4 a5 a6 a7
  obtain ⟨a0, a1, a2, a3, a4, a5, a6, a7, _⟩ := cellsB8 HX4.out
  go_wp2_with fail
  go_at_call 14
  refine (HEs.out (w4.alloc (.cells #[.int .i64 s.kind, .string s.tag, .string s.bytes, .bool s.over, .slice A1 s.wishes.length c1, .string s.name, .string s.attr, .slice A2 s.args.length c2] 29)) w4.heap.size (BoxAt.new w4 _ _) (HB4.out.alloc HB4.out.size _)).mono ?_
  rintro e w5 ⟨vb, rfl, hb5, hob⟩
  have hb5' := below_box hb5
  have HB5 := Lib.hid (HB4.out.trans (hb5'.mono HB4.out.size))
  have HX5 := Lib.hid (HX4.out.later hb5')
  obtain ⟨gb, cb, rfl, hcb, _, hgb⟩ := own_pos hob hposn
  have HO5 := Lib.hid hob
  have HES := Lib.hid (rfl : encS s = encS s)
  clear hb5 hb5' hob a0 a1 a2 a3 a4 a5 a6 a7
  obtain ⟨n, hn⟩ : ∃ n, (encS s).length = n := ⟨_, rfl⟩
  rw [hn] at hes hposn hcb ⊢
  have HN := Lib.hid hn
  clear hn
  have q0 : ((n : Int) == 0) = false := by rw [beq_eq_false_iff_ne]; omega
  have q1 : (n : Int) ≤ 100000 := by omega
  have q2 : (0 : Int) < (n : Int) := by omega
  go_upto_region 9 with fail
  obtain ⟨k, ek, hk⟩ := cut_at cut hposn hes
  rw [ek]
  have k0 : (0 : Int) ≤ (k : Int) := by omega
  have k1 : (k : Int) ≤ (cb : Int) := by omega
  have k2 : (k : Int) ≤ 100000 := by omega
  have k3 : k ≤ cb := by omega
  have hdp := decode_pre (k := k) HO5.out (by have := HN.out; omega) (HE.out.below HB5.out)
  obtain ⟨f, hf, hor⟩ : ∃ f : Int, decD (mkS ((encS s).take k)) = ([], 0, f) ∧ ((0 < k ∧ f = 2) ∨ k = 0) := by
    by_cases hk0 : 0 < k
    · exact ⟨2, HCut.out k hk0 (by have := HN.out; omega), .inl ⟨hk0, rfl⟩⟩
    · obtain rfl : k = 0 := by omega
      exact ⟨0, by rw [List.take_zero]; exact dec_none, .inr rfl⟩
  rw [hf] at hdp
  have HDP := Lib.hid hdp
  have HOr := Lib.hid hor
  clear hdp hf hor ek
  go_wp2_with fail
  go_at_call 15
  refine HDP.out.mono ?_
  rintro e w6 ⟨A6, c6, rfl, hb6, hl6⟩
  have HB6 := Lib.hid (HB5.out.trans (hb6.mono HB5.out.size))
  have HX6 := Lib.hid (HX5.out.later hb6)
  have HO6 := Lib.hid (HO5.out.later hb6)
  clear hb6 hl6
  rw [List.length_nil]
  have hor := HOr.out
  rcases hor with ⟨d1, rfl⟩ | rfl
  have d2 : decide (0 < k) = true := decide_eq_true d1
  have d3 : (0 : Int) < (k : Int) := by omega
  have d4 : decide ((0 : Int) < (k : Int)) = true := decide_eq_true d3
  all_goals
    go_wp2_with fail
    go_at_call 14
    refine (HEm.out _ HB6.out).mono ?_
    rintro e w7 ⟨v7, rfl, hb7, ho7⟩
    have HB7 := Lib.hid (HB6.out.trans (hb7.mono HB6.out.size))
    clear hb7 ho7
    go_wp2
    go_ret
    exact ⟨rfl, HB7.out⟩
set_option maxHeartbeats 8000000 in
set_option maxRecDepth 100000 in
theorem cuts_5 (s : ST) (A1 A2 : Option Addr) (c1 c2 : Nat) (cut : Int) (more : List ST) (A : Option Addr) (c : Nat) (w : World) (hE : Env w) (hs : StF w (Old w) s A1 A2) (hm : StsIn w (Old w) more A) (zs : szS s ≤ 2000000) (zm : sumOf szS more ≤ 2000000) (fs : fewB [s] = true) (fm : fewB more = true) (r : rightS s = true) (rm : more.all rightS = true) :
    Calls Tryd.prog 5 #[.agg (stA s A1 c1 A2 c2), .int .i64 cut, .slice A more.length c] w fun e w' => e = .returned (.bool true) ∧ Below w.heap.size w w' := by
  obtain ⟨_, hsh⟩ := few_short fs
  obtain ⟨hsS, hsw, hsa, hfw⟩ := hsh s (List.mem_singleton.2 rfl)
  unfold fwS at hfw
  have hR := fun W (g : Below w.heap.size w W) => lright_any s A1 A2 c1 c2 W (hE.below g) (hs.later g) (by omega) (by omega) (fun a ha => by have h : a.name.size + a.text.size ≤ _ := sum_mem fwA ha; omega)
  rw [r] at hR
  unfold stA at hR
  have HR := Lib.hid hR
  clear hR hfw hsh
  have hes := few_enc fs
  rw [encL_one] at hes
  have hem := few_enc fm
  have hvs := valS_of hsS r
  obtain ⟨hml, hmsh⟩ := few_short fm
  have hposn := encS_pos s
  have HEs := Lib.hid (fun W g (hg : BoxAt W g (stA s A1 c1 A2 c2) 29) (gb : Below w.heap.size w W) => encode_any (A := some ⟨g, 0, none⟩) (c := 1) (l := [s]) W (hE.below gb) (one_sts hg (hs.later gb)) (fun x hx => by rw [List.mem_singleton.1 hx]; exact hsS.ok) (by show 1 ≤ 1000000; decide) (by rw [encL_one]; omega))
  rw [encR_few (show [s].length ≤ 4096 from (by decide : 1 ≤ 4096)), if_pos (by rw [List.all_cons, r]; rfl), encL_one] at HEs
  have HEm := Lib.hid (fun W (g : Below w.heap.size w W) => encode_any (c := c) W (hE.below g) (hm.later g) (fun x hx => (hmsh x hx).1.ok) (by omega) (by omega))
  rw [encR_few (show more.length ≤ 4096 by omega)] at HEm
  unfold stA at HEs
  have HCut := Lib.hid (fun (k : Nat) (h0 : 0 < k) (hk : k < (encS s).length) => dec_cut hvs h0 hk (by omega))
  rw [if_pos rm] at HEm
  have HAll := Lib.hid (dec_more hvs r (fun y hy => valS_of (hmsh y hy).1 (List.all_eq_true.1 rm y hy)) rm hml (by rw [List.length_append]; omega))
  have HSa := Lib.hid (fun W (A3 A4 : Option Addr) (c3 c4 : Nat) (h : StF W (Old W) s A3 A4) (h' : StF W (Old W) s A1 A2) => same_any s A3 A4 A1 A2 c3 c4 c1 c2 W h h' (by omega) (by omega))
  unfold stA at HSa
  obtain ⟨i0, hinf, hz0, hz1, hz2⟩ := info_split infoU8
  have HInf := Lib.hid hinf
  have HLm := Lib.hid hem
  have HMl := Lib.hid hml
  clear hinf
  have HE := Lib.hid hE
  have HSf := Lib.hid hs
  have HM := Lib.hid hm
  have HZs := Lib.hid zs
  have HZm := Lib.hid zm
  clear hE hs hm zs zm
  unfold stA
  go_enter Tryd.func5, Tryd.ntmps5
  go_upto_region 1 with fail
  have X0 := BoxAt.new w #[.int .i64 s.kind, .string s.tag, .string s.bytes, .bool s.over, .slice A1 s.wishes.length c1, .string s.name, .string s.attr, .slice A2 s.args.length c2] 29
  have K0 := Lib.hid ((Below.refl w.heap.size w).alloc (Nat.le_refl _) (.cells #[.int .i64 s.kind, .string s.tag, .string s.bytes, .bool s.over, .slice A1 s.wishes.length c1, .string s.name, .string s.attr, .slice A2 s.args.length c2] 29))
  generalize w.alloc (.cells #[.int .i64 s.kind, .string s.tag, .string s.bytes, .bool s.over, .slice A1 s.wishes.length c1, .string s.name, .string s.attr, .slice A2 s.args.length c2] 29) = W at *
  have HX := Lib.hid X0
  clear X0
  go_wp2_with fail
  go_at_call 9
  refine (head_any _ (HE.out.below K0.out)).mono ?_
  rintro e w1 ⟨rfl, hb1⟩
  have HB1 := Lib.hid (K0.out.trans (hb1.mono K0.out.size))
  have HX1 := Lib.hid (HX.out.later hb1)
  obtain ⟨a0, a1, a2, a3, a4, a5, a6, a7, _⟩ := cellsB8 HX1.out
  clear hb1
  go_wp2_with fail
  go_at_call 10
  refine (few_any (l := [s]) (A := some ⟨w1.heap.size, 0, none⟩) (c := 1) (w1.alloc (.cells #[.int .i64 s.kind, .string s.tag, .string s.bytes, .bool s.over, .slice A1 s.wishes.length c1, .string s.name, .string s.attr, .slice A2 s.args.length c2] 29)) (one_sts (BoxAt.new w1 #[.int .i64 s.kind, .string s.tag, .string s.bytes, .bool s.over, .slice A1 s.wishes.length c1, .string s.name, .string s.attr, .slice A2 s.args.length c2] 29) (HSf.out.later (HB1.out.alloc HB1.out.size _))) (by have := HZs.out; rw [sumOf, sumOf]; omega)).mono ?_
  rw [fs]
  rintro e w2 ⟨rfl, hb2⟩
  have hb2' := below_box hb2
  have HB2 := Lib.hid (HB1.out.trans (hb2'.mono HB1.out.size))
  have HX2 := Lib.hid (HX1.out.later hb2')
  clear hb2 hb2' a0 a1 a2 a3 a4 a5 a6 a7
  go_wp2_with fail
  go_at_call 10
  refine (few_any _ (HM.out.later HB2.out) HZm.out).mono ?_
  rw [fm]
  rintro e w3 ⟨rfl, hb3⟩
  have HB3 := Lib.hid (HB2.out.trans (hb3.mono HB2.out.size))
  have HX3 := Lib.hid (HX2.out.later hb3)
  clear hb3
  obtain ⟨a0, a1, a2, a3, a4, a5, a6, a7, _⟩ := cellsB8 HX3.out
  go_wp2_with fail
  go_at_call 12
  refine (HR.out _ HB3.out).mono ?_
  rintro e w4 ⟨rfl, hb4⟩
  have HB4 := Lib.hid (HB3.out.trans (hb4.mono HB3.out.size))
  have HX4 := Lib.hid (HX3.out.later hb4)
  clear hb4 a0 a1 a2 a3 a4 a5 a6 a7
  obtain ⟨a0, a1, a2, a3, a4, a5, a6, a7, _⟩ := cellsB8 HX4.out
  go_wp2_with fail
  go_at_call 14
  refine (HEs.out (w4.alloc (.cells #[.int .i64 s.kind, .string s.tag, .string s.bytes, .bool s.over, .slice A1 s.wishes.length c1, .string s.name, .string s.attr, .slice A2 s.args.length c2] 29)) w4.heap.size (BoxAt.new w4 _ _) (HB4.out.alloc HB4.out.size _)).mono ?_
  rintro e w5 ⟨vb, rfl, hb5, hob⟩
  have hb5' := below_box hb5
  have HB5 := Lib.hid (HB4.out.trans (hb5'.mono HB4.out.size))
  have HX5 := Lib.hid (HX4.out.later hb5')
  obtain ⟨gb, cb, rfl, hcb, _, hgb⟩ := own_pos hob hposn
  have HO5 := Lib.hid hob
  have HES := Lib.hid (rfl : encS s = encS s)
  clear hb5 hb5' hob a0 a1 a2 a3 a4 a5 a6 a7
  obtain ⟨n, hn⟩ : ∃ n, (encS s).length = n := ⟨_, rfl⟩
  rw [hn] at hes hposn hcb ⊢
  have HN := Lib.hid hn
  clear hn
  have q0 : ((n : Int) == 0) = false := by rw [beq_eq_false_iff_ne]; omega
  have q1 : (n : Int) ≤ 100000 := by omega
  have q2 : (0 : Int) < (n : Int) := by omega
  go_upto_region 9 with fail
  obtain ⟨k, ek, hk⟩ := cut_at cut hposn hes
  rw [ek]
  have k0 : (0 : Int) ≤ (k : Int) := by omega
  have k1 : (k : Int) ≤ (cb : Int) := by omega
  have k2 : (k : Int) ≤ 100000 := by omega
  have k3 : k ≤ cb := by omega
  have hdp := decode_pre (k := k) HO5.out (by have := HN.out; omega) (HE.out.below HB5.out)
  obtain ⟨f, hf, hor⟩ : ∃ f : Int, decD (mkS ((encS s).take k)) = ([], 0, f) ∧ ((0 < k ∧ f = 2) ∨ k = 0) := by
    by_cases hk0 : 0 < k
    · exact ⟨2, HCut.out k hk0 (by have := HN.out; omega), .inl ⟨hk0, rfl⟩⟩
    · obtain rfl : k = 0 := by omega
      exact ⟨0, by rw [List.take_zero]; exact dec_none, .inr rfl⟩
  rw [hf] at hdp
  have HDP := Lib.hid hdp
  have HOr := Lib.hid hor
  clear hdp hf hor ek
  go_wp2_with fail
  go_at_call 15
  refine HDP.out.mono ?_
  rintro e w6 ⟨A6, c6, rfl, hb6, hl6⟩
  have HB6 := Lib.hid (HB5.out.trans (hb6.mono HB5.out.size))
  have HX6 := Lib.hid (HX5.out.later hb6)
  have HO6 := Lib.hid (HO5.out.later hb6)
  clear hb6 hl6
  rw [List.length_nil]
  have hor := HOr.out
  have hml := HMl.out
  have hem := HLm.out
  rcases hor with ⟨d1, rfl⟩ | rfl
  have d2 : decide (0 < k) = true := decide_eq_true d1
  have d3 : (0 : Int) < (k : Int) := by omega
  have d4 : decide ((0 : Int) < (k : Int)) = true := decide_eq_true d3
  all_goals
    go_wp2_with fail
    go_at_call 14
    refine (HEm.out _ HB6.out).mono ?_
    rintro e w7 ⟨v7, rfl, hb7, ho7⟩
    have HB7 := Lib.hid (HB6.out.trans (hb7.mono HB6.out.size))
    have HX7 := Lib.hid (HX6.out.later hb7)
    have HO7 := Lib.hid (HO6.out.later hb7)
    have HM7 := Lib.hid ho7
    obtain ⟨A7, c7, rfl⟩ := own_len ho7
    clear hb7 ho7
    obtain ⟨m, hm⟩ : ∃ m, (encL more).length = m := ⟨_, rfl⟩
    rw [hm] at hem ⊢
    have HMm := Lib.hid hm
    have hal : Below w7.heap.size w7 (w7.alloc (.cells #[] 5)) := (Below.refl _ _).alloc (Nat.le_refl _) _
    have hWs : (w7.alloc (.cells #[] 5)).heap.size = w7.heap.size + 1 := by simp
    have hown0 := own_new (B := w7.heap.size) (n := 0) (size := 1) (BoxAt.new w7 #[] 5) (Nat.le_refl _) rfl (by decide)
    obtain ⟨s1, s2, s3⟩ := own_src (HO7.out.later hal) rfl
    rw [HN.out] at s1 s2
    clear hm
    go_wp2_with (at_builtin; refine wpList_append_spread _ rfl _ _ 32 rfl w7.heap.size 5 i0 (.int .u8 0) 1 1 Tryd.underlying32 HInf.out hz0 hz1 hz2 rfl (by decide) (.slice (some ⟨w7.heap.size, 0, none⟩) 0 0) 0 _ rfl hown0 (some ⟨gb, 0, none⟩) n cb (Lib.byteCells (encS s)) rfl s1 ?c1 s3 ?c3 ?c4 ?c5 ?_)
    case c1 => exact s2
    case c3 => unfold maxLen; omega
    case c4 => omega
    case c5 => omega
    intro v8 w8 ho8 hg8 hw8
    have hg8b : Below w7.heap.size w7 w8 := hal.grown hg8 (by omega) (fun q e => by have := Option.some.inj (show some w7.heap.size = some q from e); omega)
    have h88 := hg8b.size
    clear hg8 hw8 hown0 s1 s2 s3 hal hWs
    obtain ⟨t1, t2, t3⟩ := own_src (HM7.out.later hg8b) rfl
    rw [HMm.out] at t1 t2
    go_wp2_with (at_builtin; refine wpList_append_spread _ rfl _ _ 32 rfl w7.heap.size 5 i0 (.int .u8 0) 1 1 Tryd.underlying32 HInf.out hz0 hz1 hz2 rfl (by decide) v8 n _ rfl ho8 A7 m c7 (Lib.byteCells (encL more)) rfl t1 ?d1 t3 ?d3 ?d4 ?d5 ?_)
    case d1 => exact t2
    case d3 => unfold maxLen; omega
    case d4 => omega
    case d5 => omega
    intro v9 w9 ho9 hg9 hw9
    have hg9b : Below w7.heap.size w7 w9 := hg8b.grown hg9 h88 (fun q e => (World.ownsRow.lt ho8 q e).1)
    have HB9 := Lib.hid (HB7.out.trans (hg9b.mono HB7.out.size))
    have HX9 := Lib.hid (HX7.out.later hg9b)
    have hob9 : OwnBy w7.heap.size w9 v9 (encS s ++ encL more) := by unfold OwnBy; rw [List.length_append, HN.out, HMm.out, bytes_app]; exact ho9
    have hdo := decode_own hob9 (HE.out.below HB9.out)
    rw [HAll.out] at hdo
    have HDO := Lib.hid hdo
    clear ho8 ho9 hg8b hg9 hg9b hw9 h88 hob9 hdo t1 t2 t3
    go_wp2_with fail
    go_at_call 15
    refine HDO.out.mono ?_
    rintro e w10 ⟨A10, c10, rfl, hb10, hl10⟩
    have HB10 := Lib.hid (HB9.out.trans (hb10.mono HB9.out.size))
    have HX10 := Lib.hid (HX9.out.later hb10)
    obtain ⟨bl, ol, rfl, hbl, hcs⟩ := hl10 (by simp)
    obtain ⟨A3, c3, A4, c4, hst, hsf⟩ := hcs 0 s rfl
    obtain ⟨e0, e1, e2, e3, e4, e5, e6, e7⟩ := stL_cells (b := bl) (o := ol + 0 * 8) hst
    rw [Nat.zero_mul, Nat.add_zero] at e0 e1 e2 e3 e4 e5 e6 e7
    obtain ⟨a0, a1, a2, a3, a4, a5, a6, a7, _⟩ := cellsB8 HX10.out
    have hsO : StF w10 (Old w10) s A3 A4 := ⟨hsf.1.carry fun b hb => ⟨hb.2, rfl⟩, hsf.2.carry fun b hb => ⟨hb.2, rfl⟩⟩
    have HSM := Lib.hid (HSa.out w10.drew A3 A4 c3 c4 hsO (HSf.out.later HB10.out.drew))
    have hbl2 : bl < w10.heap.size := hbl.2
    clear hl10 hcs hst hsf hsO hb10 hbl
    dsimp only
    obtain ⟨L, hL⟩ : ∃ L, (s :: more).length = L := ⟨_, rfl⟩
    obtain ⟨T, hT⟩ : ∃ T, (encS s ++ encL more).length = T := ⟨_, rfl⟩
    rw [hL, hT]
    have hL2 : L = 1 + more.length := by rw [← hL, List.length_cons]; omega
    have hT2 : T = n + m := by rw [← hT, List.length_append, HN.out, HMm.out]
    have y0 : (0 : Int) < (L : Int) := by omega
    have y1 : 0 < L := by omega
    have y2 : (L : Int) ≤ 100 := by omega
    have y3 : IntKind.i64.wrap ((n : Int) + (m : Int)) = (n : Int) + (m : Int) := IntWalk.i64_in _ (by omega)
    have y4 : IntKind.i64.wrap (1 + (more.length : Int)) = 1 + (more.length : Int) := IntWalk.i64_in _ (by omega)
    have y5 : ((T : Int) == (n : Int) + (m : Int)) = true := by rw [beq_iff_eq]; omega
    have y6 : ((L : Int) == 1 + (more.length : Int)) = true := by rw [beq_iff_eq]; omega
    clear hL hT hL2 hT2
    go_upto_region 16 with fail
    go_still_tail 24, (by kernel_rfl)
    change wpList _ _ _ _ _ w10.drew
    go_wp2_with fail
    go_at_call 16
    refine HSM.out.mono ?_
    rintro e w11 ⟨rfl, hb11⟩
    have HB11 := Lib.hid (HB10.out.drew.trans (hb11.mono HB10.out.size))
    clear hb11
    go_wp2
    go_ret
    exact ⟨rfl, HB11.out⟩
end Go.Proofs.YtnkijpjknbelfaaDoor
