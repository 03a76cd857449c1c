/-
  Several texts put together (part 7): what the law and the program call, walked; their contracts.
-/
import Derived.Test.YtamghpleajbonaaGreatDoorQ4
import Derived.Test.YtamghpleajbonaaGreatDoorQ5
import Derived.Test.YtamghpleajbonaaGreatDoorQ6
namespace Go.Proofs.YtamghpleajbonaaGreatDoor
open Go.RowKit Go.ChangeMaps
set_option linter.unusedVariables false
set_option linter.unusedSimpArgs false
set_option maxHeartbeats 2000000 in
set_option maxRecDepth 100000 in
theorem copied_nil (l sc rg : ByteArray) (w : World) :
    Calls Tryz.prog 25 #[.agg #[.string l, .string sc, .string rg, .slice none 0 0]] w fun e w' => e = .returned (.agg #[.string l, .string sc, .string rg, .slice none 0 0]) ∧ Below w.heap.size w w' := by
  go_enter Tryz.func25, Tryz.ntmps25
  go_wp2_with (go_at_call 38; refine (Tryz.slices_Clone_string_nil _ _ _).mono ?_; rintro e w2 ⟨rfl, rfl⟩)
  exact bodyPost_ret (v := .agg #[.string l, .string sc, .string rg, .slice none 0 0]) (by simp [results, Tryz.results25, go_sem]) rfl ⟨rfl, ((Below.refl _ _).alloc (Nat.le_refl _) _).alloc (by simp) _⟩
def bunC (l sc rg : ByteArray) (m t : Value) : Array Value := #[.string l, .string sc, .string rg, .slice none 0 0, m, t]
set_option maxHeartbeats 2000000 in
set_option maxRecDepth 100000 in
theorem new_any (l sc rg : ByteArray) (w : World) :
    Calls Tryz.prog 13 #[.agg #[.string l, .string sc, .string rg, .slice none 0 0]] w fun e w' => ∃ b, e = .returned (.pointer (some ⟨b, 0, none⟩)) ∧ w.heap.size ≤ b ∧ BoxAt w' b (bunC l sc rg (.map none) (.map none)) 68 ∧ Below w.heap.size w w' := by
  have hc := fun W => copied_nil l sc rg W
  go_enter Tryz.func13, Tryz.ntmps13
  go_wp2_with (go_at_call 25; refine (hc _).mono ?_; rintro e w2 ⟨rfl, hb2⟩)
  have hb3 := below_box hb2
  go_ret
  exact ⟨w2.heap.size, rfl, hb3.size, BoxAt.new _ _ _, below_new hb3 (Nat.le_refl _) _⟩
theorem map_nil (w : World) : (binOp .eql 55 (.map none) (.map none)).run Tryz.prog w = .ok (.bool true) w := by kernel_rfl
theorem map_some (b : Nat) (w : World) : (binOp .eql 55 (.map (some b)) (.map none)).run Tryz.prog w = .ok (.bool false) w := by kernel_rfl
def MapAt (W : World) (b : Nat) (es : Array MapEntry) (c : Nat) : Prop := W.heap[b]? = some (.map es c)
theorem MapAt.lt {W : World} {b c : Nat} {es : Array MapEntry} (h : MapAt W b es c) : b < W.heap.size := (Array.getElem?_eq_some_iff.1 h).1
theorem MapAt.later {W W' : World} {b c : Nat} {es : Array MapEntry} (h : MapAt W b es c) (g : Below W.heap.size W W') : MapAt W' b es c := (g.block b h.lt).trans h
theorem MapAt.alloc {W : World} {b c : Nat} {es : Array MapEntry} (h : MapAt W b es c) (o : Obj) : MapAt (W.alloc o) b es c := h.later ((Below.refl _ _).alloc (Nat.le_refl _) o)
theorem MapAt.kp {rb : Nat} {W W' : World} {b c : Nat} {es : Array MapEntry} (h : MapAt W b es c) (g : Kp rb W W') (hk : b ≠ rb) : MapAt W' b es c := (g.others b h.lt hk).trans h
theorem MapAt.new (W : World) (b : Nat) (es : Array MapEntry) (c : Nat) (hb : b = W.heap.size) : MapAt (W.alloc (.map es c)) b es c := by
  subst hb
  show (W.heap.push _)[W.heap.size]? = _
  simp
theorem MapAt.setCell {W : World} {b c : Nat} {es : Array MapEntry} (h : MapAt W b es c) (p : Addr) (v : Value) (hp : b ≠ p.block) : MapAt (W.setCell p v) b es c := (Below.heap_setCell W p v b hp).trans h
theorem box_cells6 {w : World} {b : Nat} {l sc rg : ByteArray} {m t : Value} (h : BoxAt w b (bunC l sc rg m t) 68) (m' t' : Value) :
    BoxAt ((w.setCell ⟨b, 4, none⟩ m').setCell ⟨b, 5, none⟩ t') b (bunC l sc rg m' t') 68 := by
  unfold BoxAt bunC at h ⊢
  simp [World.setCell, Array.getElem?_modify, h]
set_option maxHeartbeats 2000000 in
set_option maxRecDepth 100000 in
theorem makeMaps_new (b : Nat) (l sc rg : ByteArray) (w : World) (h : BoxAt w b (bunC l sc rg (.map none) (.map none)) 68) :
    Calls Tryz.prog 26 #[.pointer (some ⟨b, 0, none⟩)] w fun e w' => e = .returned (.tuple #[]) ∧ BoxAt w' b (bunC l sc rg (.map (some w.heap.size)) (.map (some (w.heap.size + 1)))) 68 ∧ MapAt w' w.heap.size #[] 0 ∧ MapAt w' (w.heap.size + 1) #[] 0 ∧ Kp b w w' := by
  have c4 : w.cell? ⟨b, 4, none⟩ = some (.map none) := h.cell 4
  have z4 : w.frozen? ⟨b, 4, none⟩ = false := Lib.frozen_of_heap h 4
  have z5 : w.frozen? ⟨b, 5, none⟩ = false := Lib.frozen_of_heap h 5
  have c5 : w.cell? ⟨b, 5, none⟩ = some (.map none) := h.cell 5
  have hl := h.lt
  have H := Lib.hid h
  have hq := map_nil
  have hmk := fun W => run_makeMap (P := Tryz.prog) 55 W
  clear h
  go_enter Tryz.func26, Tryz.ntmps26
  go_wp2
  go_end0
  have K2 := Lib.hid (((Kp.refl b w).setCell 4 (.map (some w.heap.size))).setCell 5 (.map (some (w.heap.size + 1))))
  have X2 := Lib.hid (box_cells6 H.out (.map (some w.heap.size)) (.map (some (w.heap.size + 1))))
  refine ⟨rfl, (X2.out.alloc _).alloc _, (MapAt.new _ _ _ _ (by simp)).alloc _, MapAt.new _ _ _ _ (by simp), (K2.out.alloc (by simp; omega) _).alloc (by simp; omega) _⟩
theorem enInfo : (Tryz.prog.info? 26).map (fun i => (i.zero, i.size)) = some (some (.agg #[.int .i64 0, .int .i64 0, .string ⟨#[]⟩, .string ⟨#[]⟩, .slice none 0 0, .slice none 0 0, .int .i64 0, .int .i64 0]), 8) := by kernel_rfl
theorem enZero (w : World) : (zeroValue 26).run Tryz.prog w = .ok (.agg #[.int .i64 0, .int .i64 0, .string ⟨#[]⟩, .string ⟨#[]⟩, .slice none 0 0, .slice none 0 0, .int .i64 0, .int .i64 0]) w := (zero_of_info enInfo).1 w
theorem MapAt.set {W : World} {b c : Nat} {es : Array MapEntry} (h : MapAt W b es c) (es' : Array MapEntry) (c' : Nat) : MapAt (setBlock W b (.map es' c')) b es' c' := by
  have hl := h.lt
  unfold MapAt setBlock
  simp [hl]
theorem kp_setBlock {W : World} {b : Nat} (o : Obj) : Kp b W (setBlock W b o) := by
  have hh : ∀ k, k ≠ b → (setBlock W b o).heap[k]? = W.heap[k]? := fun k hk => by
    show (W.heap.setIfInBounds b o)[k]? = _
    rw [Array.getElem?_setIfInBounds_ne (fun e => hk e.symm)]
  exact ⟨⟨rfl, rfl, rfl, by simp [setBlock], fun k hk => hh k (by omega)⟩, fun k hk hn => hh k hn⟩
abbrev zEnB : Array Value := #[.int .i64 0, .int .i64 0, .string ⟨#[]⟩, .string ⟨#[]⟩, .slice none 0 0, .slice none 0 0, .int .i64 0, .int .i64 0]
set_option maxHeartbeats 2000000 in
set_option maxRecDepth 100000 in
theorem put_new (mb c : Nat) (es : Array MapEntry) (nm : ByteArray) (x0 x1 x2 x4 x5 x6 x7 : Value) (over : Bool) (w : World) (hm : MapAt w mb es c) (hn : Instr.findNow .string (.string nm) es.toList 0 = some none) :
    Calls Tryz.prog 27 #[.map (some mb), .agg #[x0, x1, x2, .string nm, x4, x5, x6, x7], .bool over] w fun e w' => e = .returned (.bool false) ∧ MapAt w' mb (es.push { key := .string nm, val := .agg #[x0, x1, x2, .string nm, x4, x5, x6, x7], born := c }) (c + 1) ∧ Kp mb w w' := by
  have hL := fun (W : World) (h : W.heap[mb]? = some (.map es c)) => run_look (t := 55) Tryz.underlying55 Tryz.underlying9 W (enZero W) mb es c h nm none hn
  have hl := hm.lt
  have c1 : (w.alloc (.cells #[x0, x1, x2, .string nm, x4, x5, x6, x7] 26)).heap[mb]? = some (.map es c) := hm.alloc _
  have hL1 := hL _ c1
  have hU1 := run_put_new (t := 55) Tryz.underlying55 Tryz.underlying9 ((w.alloc (.cells #[x0, x1, x2, .string nm, x4, x5, x6, x7] 26)).alloc (.cells zEnB 26)) mb es c ((hm.alloc _).alloc _) nm (.agg #[x0, x1, x2, .string nm, x4, x5, x6, x7]) hn
  have HM := Lib.hid ((hm.alloc (.cells #[x0, x1, x2, .string nm, x4, x5, x6, x7] 26)).alloc (.cells zEnB 26))
  clear hL hm hn
  go_enter Tryz.func27, Tryz.ntmps27
  go_wp2
  go_ret
  exact ⟨rfl, HM.out.set _ _, ((Kp.refl mb w).alloc (Nat.le_of_lt hl) _).alloc (by simp; omega) _ |>.trans (kp_setBlock _)⟩
end Go.Proofs.YtamghpleajbonaaGreatDoor

namespace Go.Proofs.YtamghpleajbonaaGreatDoor
open Go.RowKit Go.ChangeMaps
set_option linter.unusedVariables false
set_option linter.unusedSimpArgs false
set_option maxHeartbeats 2000000 in
set_option maxRecDepth 100000 in
theorem put_kept (mb c i : Nat) (es : Array MapEntry) (nm : ByteArray) (x0 x1 x2 x4 x5 x6 x7 : Value) (ty lv fr tu : Int) (tx yn : ByteArray) (A1 A2 : Option Addr) (n1 c1 n2 c2 : Nat) (w : World) (hm : MapAt w mb es c) (hn : Instr.findNow .string (.string nm) es.toList 0 = some (some (i, .agg #[.int .i64 ty, .int .i64 lv, .string tx, .string yn, .slice A1 n1 c1, .slice A2 n2 c2, .int .i64 fr, .int .i64 tu]))) :
    Calls Tryz.prog 27 #[.map (some mb), .agg #[x0, x1, x2, .string nm, x4, x5, x6, x7], .bool false] w fun e w' => e = .returned (.bool true) ∧ MapAt w' mb es c ∧ Below w.heap.size w w' := by
  have k1 : (w.alloc (.cells #[x0, x1, x2, .string nm, x4, x5, x6, x7] 26)).heap[mb]? = some (.map es c) := hm.alloc _
  have hL1 := run_look (t := 55) Tryz.underlying55 Tryz.underlying9 _ (enZero _) mb es c k1 nm _ hn
  have HM := Lib.hid ((hm.alloc (.cells #[x0, x1, x2, .string nm, x4, x5, x6, x7] 26)).alloc (.cells #[.int .i64 ty, .int .i64 lv, .string tx, .string yn, .slice A1 n1 c1, .slice A2 n2 c2, .int .i64 fr, .int .i64 tu] 26))
  clear hm hn
  go_enter Tryz.func27, Tryz.ntmps27
  go_wp2
  go_ret
  exact ⟨rfl, HM.out, ((Below.refl _ _).alloc (Nat.le_refl _) _).alloc (by simp) _⟩
set_option maxHeartbeats 2000000 in
set_option maxRecDepth 100000 in
theorem put_over (mb c i : Nat) (es : Array MapEntry) (nm : ByteArray) (x0 x1 x2 x4 x5 x6 x7 : Value) (ty lv fr tu : Int) (tx yn : ByteArray) (A1 A2 : Option Addr) (n1 c1 n2 c2 : Nat) (x : MapEntry) (w : World) (hm : MapAt w mb es c) (hn : Instr.findNow .string (.string nm) es.toList 0 = some (some (i, .agg #[.int .i64 ty, .int .i64 lv, .string tx, .string yn, .slice A1 n1 c1, .slice A2 n2 c2, .int .i64 fr, .int .i64 tu]))) (hi : es[i]? = some x) (hx : x.key = .string nm) :
    Calls Tryz.prog 27 #[.map (some mb), .agg #[x0, x1, x2, .string nm, x4, x5, x6, x7], .bool true] w fun e w' => e = .returned (.bool true) ∧ MapAt w' mb (es.modify i fun y => { y with key := .string nm, val := .agg #[x0, x1, x2, .string nm, x4, x5, x6, x7] }) c ∧ Kp mb w w' := by
  have hl := hm.lt
  have k1 : (w.alloc (.cells #[x0, x1, x2, .string nm, x4, x5, x6, x7] 26)).heap[mb]? = some (.map es c) := hm.alloc _
  have hL1 := run_look (t := 55) Tryz.underlying55 Tryz.underlying9 _ (enZero _) mb es c k1 nm _ hn
  have hU1 := run_put_old (t := 55) Tryz.underlying55 Tryz.underlying9 ((w.alloc (.cells #[x0, x1, x2, .string nm, x4, x5, x6, x7] 26)).alloc (.cells #[.int .i64 ty, .int .i64 lv, .string tx, .string yn, .slice A1 n1 c1, .slice A2 n2 c2, .int .i64 fr, .int .i64 tu] 26)) mb es c ((hm.alloc _).alloc _) nm (.agg #[x0, x1, x2, .string nm, x4, x5, x6, x7]) i _ x hn hi hx
  have HM := Lib.hid ((hm.alloc (.cells #[x0, x1, x2, .string nm, x4, x5, x6, x7] 26)).alloc (.cells #[.int .i64 ty, .int .i64 lv, .string tx, .string yn, .slice A1 n1 c1, .slice A2 n2 c2, .int .i64 fr, .int .i64 tu] 26))
  clear hm hn hi hx
  go_enter Tryz.func27, Tryz.ntmps27
  go_wp2
  go_ret
  exact ⟨rfl, HM.out.set _ _, ((Kp.refl mb w).alloc (Nat.le_of_lt hl) _).alloc (by simp; omega) _ |>.trans (kp_setBlock _)⟩
set_option maxHeartbeats 2000000 in
set_option maxRecDepth 100000 in
theorem message_any (b mb c : Nat) (es : Array MapEntry) (l sc rg nm : ByteArray) (t : Value) (r : Option (Nat × Value)) (ty lv fr tu : Int) (tx yn : ByteArray) (A1 A2 : Option Addr) (n1 c1 n2 c2 : Nat) (w : World) (hb : BoxAt w b (bunC l sc rg (.map (some mb)) t) 68) (hm : MapAt w mb es c)
    (hn : Instr.findNow .string (.string nm) es.toList 0 = some r) (hr : (r.map (·.2)).getD (.agg zEnB) = .agg #[.int .i64 ty, .int .i64 lv, .string tx, .string yn, .slice A1 n1 c1, .slice A2 n2 c2, .int .i64 fr, .int .i64 tu]) :
    Calls Tryz.prog 15 #[.pointer (some ⟨b, 0, none⟩), .string nm] w fun e w' => e = .returned (.tuple #[.agg #[.int .i64 ty, .int .i64 lv, .string tx, .string yn, .slice A1 n1 c1, .slice A2 n2 c2, .int .i64 fr, .int .i64 tu], .bool r.isSome]) ∧ Below w.heap.size w w' := by
  have c4 : w.cell? ⟨b, 4, none⟩ = some (.map (some mb)) := hb.cell 4
  have hl := hb.lt
  have k1 : (w.alloc (.cells zEnB 26)).heap[mb]? = some (.map es c) := hm.alloc _
  have hL1 := run_look (t := 55) Tryz.underlying55 Tryz.underlying9 _ (enZero _) mb es c k1 nm _ hn
  rw [hr] at hL1
  clear hm hn hr hb
  go_enter Tryz.func15, Tryz.ntmps15
  go_wp2
  exact bodyPost_ret (v := .tuple #[.agg #[.int .i64 ty, .int .i64 lv, .string tx, .string yn, .slice A1 n1 c1, .slice A2 n2 c2, .int .i64 fr, .int .i64 tu], .bool r.isSome]) (by simp [results, Tryz.results15, go_sem]) rfl ⟨rfl, ((Below.refl _ _).alloc (Nat.le_refl _) _).alloc (by simp) _⟩
set_option maxHeartbeats 2000000 in
set_option maxRecDepth 100000 in
theorem term_any (b mb c : Nat) (es : Array MapEntry) (l sc rg nm : ByteArray) (t : Value) (r : Option (Nat × Value)) (ty lv fr tu : Int) (tx yn : ByteArray) (A1 A2 : Option Addr) (n1 c1 n2 c2 : Nat) (w : World) (hb : BoxAt w b (bunC l sc rg t (.map (some mb))) 68) (hm : MapAt w mb es c)
    (hn : Instr.findNow .string (.string nm) es.toList 0 = some r) (hr : (r.map (·.2)).getD (.agg zEnB) = .agg #[.int .i64 ty, .int .i64 lv, .string tx, .string yn, .slice A1 n1 c1, .slice A2 n2 c2, .int .i64 fr, .int .i64 tu]) :
    Calls Tryz.prog 19 #[.pointer (some ⟨b, 0, none⟩), .string nm] w fun e w' => e = .returned (.tuple #[.agg #[.int .i64 ty, .int .i64 lv, .string tx, .string yn, .slice A1 n1 c1, .slice A2 n2 c2, .int .i64 fr, .int .i64 tu], .bool r.isSome]) ∧ Below w.heap.size w w' := by
  have c4 : w.cell? ⟨b, 5, none⟩ = some (.map (some mb)) := hb.cell 5
  have hl := hb.lt
  have k1 : (w.alloc (.cells zEnB 26)).heap[mb]? = some (.map es c) := hm.alloc _
  have hL1 := run_look (t := 55) Tryz.underlying55 Tryz.underlying9 _ (enZero _) mb es c k1 nm _ hn
  rw [hr] at hL1
  clear hm hn hr hb
  go_enter Tryz.func19, Tryz.ntmps19
  go_wp2
  exact bodyPost_ret (v := .tuple #[.agg #[.int .i64 ty, .int .i64 lv, .string tx, .string yn, .slice A1 n1 c1, .slice A2 n2 c2, .int .i64 fr, .int .i64 tu], .bool r.isSome]) (by simp [results, Tryz.results19, go_sem]) rfl ⟨rfl, ((Below.refl _ _).alloc (Nat.le_refl _) _).alloc (by simp) _⟩
end Go.Proofs.YtamghpleajbonaaGreatDoor

namespace Go.Proofs.YtamghpleajbonaaGreatDoor
open Go.RowKit Go.ChangeMaps
set_option linter.unusedVariables false
set_option linter.unusedSimpArgs false
def StrKeys (l : List MapEntry) : Prop := ∀ e ∈ l, ∃ s, e.key = .string s
theorem find_keys (s : ByteArray) : ∀ (l : List MapEntry) (j : Nat), StrKeys l → ∃ r, Instr.findNow .string (.string s) l j = some r ∧
    (r = none → ∀ e ∈ l, e.key ≠ .string s) ∧ (∀ i v, r = some (i, v) → j ≤ i ∧ ∃ e, l[i - j]? = some e ∧ e.key = .string s ∧ v = e.val)
  | [], j, _ => ⟨none, rfl, fun _ e h => by simp at h, fun i v h => by cases h⟩
  | x :: l, j, h => by
    obtain ⟨t, ht⟩ := h x (List.mem_cons_self ..)
    have e0 : Instr.findNow .string (.string s) (x :: l) j = (match (some (s == t) : Option Bool) with | some true => some (some (j, x.val)) | some false => Instr.findNow .string (.string s) l (j + 1) | none => none) := by
      show (match Instr.sameNow .string (.string s) x.key with | some true => some (some (j, x.val)) | some false => Instr.findNow .string (.string s) l (j + 1) | none => none) = _
      rw [ht]
      rfl
    rw [e0]
    cases hb : (s == t) with
    | true =>
      have hst : s.data = t.data := by
        have h1 : (s.data == t.data) = true := hb
        simpa using h1
      have hst2 : t = s := by
        obtain ⟨a⟩ := s
        obtain ⟨b⟩ := t
        simp only at hst
        rw [hst]
      exact ⟨some (j, x.val), rfl, (fun h => by cases h), fun i v h => by
        cases h
        exact ⟨Nat.le_refl _, x, by simp, by rw [ht, hst2], rfl⟩⟩
    | false =>
      obtain ⟨r, h1, h2, h3⟩ := find_keys s l (j + 1) (fun e he => h e (List.mem_cons_of_mem _ he))
      refine ⟨r, h1, fun hr e he => ?_, fun i v hr => ?_⟩
      · rcases List.mem_cons.1 he with rfl | he
        · rw [ht]
          intro hh
          have : t = s := by injection hh
          subst this
          have h4 : (t.data == t.data) = false := hb
          rw [beq_self_eq_true] at h4
          cases h4
        · exact h2 hr e he
      · obtain ⟨h4, e, h5, h6, h7⟩ := h3 i v hr
        refine ⟨by omega, e, ?_, h6, h7⟩
        rw [show i - j = (i - (j + 1)) + 1 by omega, List.getElem?_cons_succ]
        exact h5
end Go.Proofs.YtamghpleajbonaaGreatDoor
