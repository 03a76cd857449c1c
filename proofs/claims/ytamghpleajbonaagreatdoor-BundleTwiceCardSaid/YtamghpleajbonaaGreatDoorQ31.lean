/-
  Several texts put together (part 31): what the law and the program call, walked; their contracts.
-/
import Derived.Test.YtamghpleajbonaaGreatDoorQ30
namespace Go.Proofs.YtamghpleajbonaaGreatDoor
open Go.RowKit Go.Maps
set_option linter.unusedVariables false
set_option linter.unusedSimpArgs false
set_option maxHeartbeats 4000000 in
set_option maxRecDepth 100000 in
theorem add_empty {B g o : Nat} (cs : Array Value) (al nv : Value) (n : Nat) (ys : List Value) (seen : List ByteArray) (X : ByteArray) (k : Int) (t nn a : ByteArray) (A1 : Option Addr) (n1 c1 : Nat) (p : Option Addr) (A2 : Option Addr) (n2 c2 : Nat) (w : World)
    (hg : w.heap[g]? = some (.cells cs 189 (0, 0))) (hBg : B ≤ g) (ho : o + 9 ≤ cs.size) (hc4 : cs[o + 4]? = some al) (hc7 : cs[o + 7]? = some nv) {c8 : Value} (hc8 : cs[o + 8]? = some c8) (hal : w.ownsRow B 99 8 al n ys) (hne : al.ownBlock ≠ some g) (hnm : NmOk B w nv seen n) (hn : n ≤ 1000000) (hX : X.size ≤ 1000000) (ho2 : o ≤ 100000000) (hx : emp X = true) :
    Calls Tryz.prog 134 #[.pointer (some ⟨g, o, none⟩), arV X k t nn a A1 n1 c1 p A2 n2 c2] w fun e w' =>
      e = .returned (.bool (decide (seen.length = 0) && !((k == 4) && !emp a))) ∧ Below B w w' ∧
      ((decide (seen.length = 0) && !((k == 4) && !emp a)) = true → Added B g o cs al nv n ys seen [.string X, .int .i64 k, .string t, .string nn, .string a, .slice A1 n1 c1, .pointer p, .slice A2 n2 c2] w w') := by
  have hgl := (Array.getElem?_eq_some_iff.1 hg).1
  obtain ⟨Al, cl, rfl⟩ : ∃ A c, al = .slice A n c := own_form hal
  obtain ⟨i0, hi0, hz0, hz1, hz2⟩ := info_parts infoA
  have d4 : w.cell? ⟨g, o + 4, none⟩ = some (.slice Al n cl) := (cell_of_row w g (o + 4) cs _ (0, 0) hg).trans hc4
  have d7 : w.cell? ⟨g, o + 7, none⟩ = some nv := (cell_of_row w g (o + 7) cs _ (0, 0) hg).trans hc7
  have hBw : B ≤ w.heap.size := by omega
  have HG := Lib.hid hg
  have HAl := Lib.hid hal
  have HT := Lib.hid (fun W => termsAttr_any k t nn a A1 n1 c1 p A2 n2 c2 W)
  obtain ⟨ta, hta⟩ : ∃ q, ((k == 4) && !emp a) = q := ⟨_, rfl⟩
  rw [hta] at HT ⊢
  unfold exV at HT
  unfold arV
  have hNe := Lib.hid (show some g ≠ (Value.slice Al n cl).ownBlock from fun h => hne h.symm)
  have hset := set_same hc7
  clear hta hg hal hne hc4 hc7
  have hx' : X.toList.isEmpty = true := hx
  clear hx
  rcases hnm with ⟨rfl, rfl⟩ | ⟨b, rfl, hb, h0, hN⟩
  case inr =>
    obtain ⟨D, hD1, hD2, hD3⟩ := hN
    have hlen : decide (seen.length = 0) = false := decide_eq_false (by omega)
    rw [hlen, Bool.false_and]
    obtain ⟨z, hz⟩ : ∃ z, Maps.size D = z := ⟨_, rfl⟩
    have hlen2 : ∀ ob, (Builtin.len_ #[187] 3 #[.map (some b)]).run Tryz.prog (w.alloc ob) = .ok (.int .i64 (z : Nat)) (w.alloc ob) := fun ob => by
      rw [← hz]
      exact (hD1.alloc ob).len Tryz.underlying187 _
    rw [hD3] at hz
    have hs : decide ((0 : Int) < (z : Nat)) = true := decide_eq_true (by omega)
    have hs' : (0 : Int) < (z : Nat) := by omega
    clear hD1 hD2 hlen hz h0
    go_enter Tryz.func134, Tryz.ntmps134
    go_wp2
    go_ret
    exact ⟨rfl, (Below.refl B w).alloc hBw _, fun h => by cases h⟩
  case inl =>
    have Hset := Lib.hid hset
    clear hset
    have hlen2 : ∀ ob, (Builtin.len_ #[187] 3 #[.map none]).run Tryz.prog (w.alloc ob) = .ok (.int .i64 0) (w.alloc ob) := fun ob => Maps.len_nil Tryz.underlying187 _
    have e0 : (decide (([] : List ByteArray).length = 0) && !ta) = !ta := by simp
    rw [e0]
    cases ta
    case true =>
      go_enter Tryz.func134, Tryz.ntmps134
      go_wp2_with fail
      go_at_call 124
      refine (HT.out _).mono ?_
      rintro e w1 ⟨rfl, hb1⟩
      have HB := Lib.hid (((Below.refl w.heap.size w).alloc (Nat.le_refl _) (.cells #[.string X, .int .i64 k, .string t, .string nn, .string a, .slice A1 n1 c1, .pointer p, .slice A2 n2 c2] 99)).trans (hb1.mono (by simp)))
      clear hb1
      go_wp2
      go_ret
      exact ⟨rfl, HB.out.mono hBw, fun h => by cases h⟩
    go_enter Tryz.func134, Tryz.ntmps134
    go_wp2_with fail
    go_at_call 124
    refine (HT.out _).mono ?_
    rintro e w1 ⟨rfl, hb1⟩
    have HB := Lib.hid (((Below.refl w.heap.size w).alloc (Nat.le_refl _) (.cells #[.string X, .int .i64 k, .string t, .string nn, .string a, .slice A1 n1 c1, .pointer p, .slice A2 n2 c2] 99)).trans (hb1.mono (by simp)))
    have hbox := (BoxAt.new w #[.string X, .int .i64 k, .string t, .string nn, .string a, .slice A1 n1 c1, .pointer p, .slice A2 n2 c2] 99).later hb1
    have hsz := HB.out.size
    have HBox := Lib.hid hbox
    have hbl := hbox.lt
    have e4 : w1.cell? ⟨g, o + 4, none⟩ = some (.slice Al n cl) := (HB.out.cell (p := ⟨g, o + 4, none⟩) hgl).trans d4
    have hgr : w1.heap[g]? = some (.cells cs 189 (0, 0)) := (HB.out.block g hgl).trans HG.out
    have HAl1 := Lib.hid (HAl.out.kept (⟨HB.out.os, HB.out.tape, HB.out.output, HB.out.size, fun k hk _ => HB.out.block k hk⟩ : w.grownBy w1 none) (by by_cases h : (Value.slice Al n cl).ownBlock = none; exact .inl h; exact .inr h))
    have HGr := Lib.hid hgr
    obtain ⟨q0, q1, q2, q3, q4, q5, q6, q7, p0, p1, p2, p3, p4, p5, p6, p7⟩ := cells8 hbox
    clear hb1 hbox hgr d4 d7
    have hn0 : (n : Int) ≤ 1000000 := by omega
    have fg : ∀ j, w1.frozen? ⟨g, j, none⟩ = false := fun j => Lib.frozen_of_heap HGr.out j
    have hAL := Lib.hid HAl1.out.1
    have hg1 : g < w1.heap.size := by omega
    have E4 := Lib.hid (fun ob : Obj => (((Below.refl w1.heap.size w1).alloc (Nat.le_refl _) ob).cell (p := ⟨g, o + 4, none⟩) hg1).trans e4)
    have hG2 := Lib.hid (fun ob : Obj => show g < (w1.alloc ob).heap.size by rw [World.size_alloc]; omega)
    have F4 := Lib.hid (fun ob : Obj => (((Below.refl w1.heap.size w1).alloc (Nat.le_refl _) ob).frozen (p := ⟨g, o + 4, none⟩) hg1).trans (fg (o + 4)))
    have x1 : (n : Int) < (n : Int) + 1 := by omega
    have x2 : (n : Int) < ((n + 1 : Nat) : Int) := by omega
    have x3 : (0 : Int) ≤ (n : Int) := by omega
    have B1 := Lib.hid (show n + 1 ≤ maxLen by unfold maxLen; omega)
    have B2 := Lib.hid (show (n + 1) * 128 ≤ 140737488355328 by omega)
    have B3 := Lib.hid (show B ≤ w1.heap.size by omega)
    go_wp2_with fail
    go_cut [] (fun wx => AddMid B g o cs (.slice Al n cl) n ys [.string X, .int .i64 k, .string t, .string nn, .string a, .slice A1 n1 c1, .pointer p, .slice A2 n2 c2] w1 wx)
    case first =>
     go_region_law (refine step_append_own rfl (.tmp 57) (.tmp 60) 85 rfl B 99 i0 (.agg #[.string ⟨#[]⟩, .int .i64 0, .string ⟨#[]⟩, .string ⟨#[]⟩, .string ⟨#[]⟩, .slice none 0 0, .pointer none, .slice none 0 0]) 8 128 Tryz.underlying85 hi0 hz0 hz1 hz2 rfl (by decide) (.slice Al n cl) n ys (by simp [Act.eval, Act.put]) (HAl1.out.drew.alloc _) ⟨w1.heap.size, 0, none⟩ 1 1 [.string ⟨#[]⟩, .int .i64 0, .string ⟨#[]⟩, .string ⟨#[]⟩, .string ⟨#[]⟩, .slice none 0 0, .pointer none, .slice none 0 0] (by simp [Act.eval, Act.put]) rfl (new8 _ _) (by simp [Value.oneCell']) B1.out B2.out (by show B ≤ (w1.alloc _).heap.size; rw [World.size_alloc]; exact Nat.le_succ_of_le B3.out) (by decide) ?_; intro v' w' hown hgrow hwh; obtain ⟨gA, cA, rfl⟩ := own_some hown; have hZ := hown.1; have s0 := row_at0 hown (ys := ys) hAL.out _ rfl; have s1 := row_at hown (ys := ys) hAL.out 1 _ rfl; have s2 := row_at hown (ys := ys) hAL.out 2 _ rfl; have s3 := row_at hown (ys := ys) hAL.out 3 _ rfl; have s4 := row_at hown (ys := ys) hAL.out 4 _ rfl; have s5 := row_at hown (ys := ys) hAL.out 5 _ rfl; have s6 := row_at hown (ys := ys) hAL.out 6 _ rfl; have s7 := row_at hown (ys := ys) hAL.out 7 _ rfl; have sf := fun j => hown.frozenAt j; have s4' := hgrow.cell (a := ⟨g, o + 4, none⟩) (E4.out _) hNe.out; have ng := own_ne hwh hNe.out (hG2.out _); have ng2 := own_ne' hwh hNe.out (hG2.out _); have f4' := (World.frozen?_of_block (a := ⟨g, o + 4, none⟩) (hgrow.block g (hG2.out _) hNe.out)).trans (F4.out _); have hOwn := Lib.hid hown; have hGrow := Lib.hid hgrow; have hWh := Lib.hid hwh; clear hown hgrow hwh)
     all_goals (go_wp2_with fail; go_meet)
     all_goals first | with_reducible exact mid_a B3.out (Below.alloc (Below.refl _ _) (Nat.le_refl _) _).drew (by simp) HGr.out hBg HAl1.out hNe.out hGrow.out hOwn.out hWh.out ng | with_reducible exact mid_b B3.out (Below.alloc (Below.refl _ _) (Nat.le_refl _) _).drew (by simp) HGr.out hBg HAl1.out hNe.out hGrow.out hOwn.out hWh.out ng
    case rest =>
    have Hcut := Lib.hid hcut
    obtain ⟨_, ⟨al', hm2, _, _⟩, _⟩ := hcut
    have k8 : wc.cell? ⟨g, o + 8, none⟩ = some c8 := by
      rw [cell_of_row wc g (o + 8) _ _ (0, 0) hm2]
      simpa using hc8
    have f8 : wc.frozen? ⟨g, o + 8, none⟩ = false := Lib.frozen_of_heap hm2 (o + 8)
    clear hm2
    go_wp2
    go_ret
    have hE := added_end (nv' := .map none) (HB.out.mono hBw) (fun k hk _ _ => HB.out.block k hk) (by rw [Hset.out]; exact HGr.out) hBg HAl1.out (.inl ⟨rfl, rfl⟩) (.inl rfl) (by rw [Hset.out]; exact Hcut.out)
    exact ⟨rfl, hE.1, fun _ => hE.2⟩
end Go.Proofs.YtamghpleajbonaaGreatDoor
