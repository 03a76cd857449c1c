/-
  Package chain: one without bundles.
-/
import Derived.Test.YtgdkpamlkpncgabGreatDoorTea
namespace Go.Proofs.YtgdkpamlkpncgabGreatDoor
open Go.RowKit
set_option linter.unusedVariables false
set_option linter.unusedSimpArgs false

def chE : Array Value := #[.map none, .slice none 0 0, .bool false, .slice none 0 0, .string ⟨#[]⟩, .string ⟨#[]⟩, .string ⟨#[]⟩, .slice none 0 0, .int .u32 0, .int .i32 0, .int .u32 0, .map none, .int .i64 0]
/-- A chain without bundles. -/
def ChE (W : World) (b : Nat) : Prop := BoxAt W b chE 91
theorem ChE.later {W W' : World} {b : Nat} (h : ChE W b) (g : Below W.heap.size W W') : ChE W' b := BoxAt.later h g
set_option maxHeartbeats 2000000 in
set_option maxRecDepth 100000 in
theorem cnew_any (w : World) : Calls Tryz.prog 14 #[] w fun e w' => e = .returned (.pointer (some ⟨w.heap.size, 0, none⟩)) ∧ ChE w' w.heap.size ∧ Below w.heap.size w w' := by
  go_enter Tryz.func14, Tryz.ntmps14
  go_wp2
  go_ret
  exact ⟨rfl, BoxAt.new w _ _, (Below.refl _ _).alloc (Nat.le_refl _) _⟩
set_option maxHeartbeats 2000000 in
set_option maxRecDepth 100000 in
theorem casked_any (b : Nat) (w : World) (h : ChE w b) : Calls Tryz.prog 63 #[.pointer (some ⟨b, 0, none⟩)] w fun e w' => e = .returned (.slice none 0 0) ∧ w' = w := by
  have c1 : w.cell? ⟨b, 1, none⟩ = some (.slice none 0 0) := BoxAt.cell h 1
  have c2 : w.cell? ⟨b, 2, none⟩ = some (.bool false) := BoxAt.cell h 2
  have hl : b < w.heap.size := BoxAt.lt h
  clear h
  go_enter Tryz.func63, Tryz.ntmps63
  go_wp2
  go_ret
  exact ⟨rfl, rfl⟩
set_option maxHeartbeats 2000000 in
set_option maxRecDepth 100000 in
theorem corder_any (b : Nat) (w : World) (h : ChE w b) : Calls Tryz.prog 38 #[.pointer (some ⟨b, 0, none⟩)] w fun e w' => e = .returned (.slice none 0 0) ∧ w' = w := by
  have HA := Lib.hid (casked_any b w h)
  clear h
  go_enter Tryz.func38, Tryz.ntmps38
  go_wp2_with fail
  go_at_call 63
  refine HA.out.mono ?_
  rintro e w2 ⟨rfl, rfl⟩
  go_wp2
  go_loopw [3, 12] (fun t3 t12 wr => t3 = .slice none 0 0 ∧ t12 = .int .i64 0 ∧ wr = w2) (fun _ _ _ => 0)
  case atStart => exact ⟨rfl, rfl, rfl⟩
  case round =>
    obtain ⟨rfl, rfl, rfl⟩ := hrel
    go_wp2
    go_ret
    exact ⟨rfl, rfl⟩
set_option maxHeartbeats 2000000 in
set_option maxRecDepth 100000 in
theorem cnone_any (name : ByteArray) (w : World) : Calls Tryz.prog 40 #[.string name, .string ⟨#[]⟩] w fun e w' => (∃ k, e = .returned (.agg #[.string name, .slice (some ⟨k, 0, none⟩) 1 1, .string ⟨#[]⟩]) ∧ BoxAt w' k #[.int .i64 2, .string name] 105) ∧ Below w.heap.size w w' := by
  go_enter Tryz.func40, Tryz.ntmps40
  go_wp2
  refine bodyPost_ret (v := .agg #[.string name, .slice (some ⟨w.heap.size + 1, 0, none⟩) 1 1, .string ⟨#[]⟩]) (by simp [results, Tryz.results40, go_sem]) rfl ⟨⟨_, rfl, ?_⟩, ?_⟩
  · exact BoxAt.new' _ _ _ _ (by simp)
  · repeat' first | with_reducible exact Below.refl _ _ | with_reducible apply Below.drew | with_reducible apply Below.setCell | with_reducible apply Below.alloc | exact Nat.le_refl _ | (simp; done)
theorem box_a012 {w : World} {E : Nat} {x0 x1 x2 : Value} {t : TypeId} (h : BoxAt w E #[x0, x1, x2] t) (y0 y1 y2 : Value) :
    BoxAt (((w.setCell ⟨E, 0, none⟩ y0).setCell ⟨E, 1, none⟩ y1).setCell ⟨E, 2, none⟩ y2) E #[y0, y1, y2] t := by
  unfold BoxAt at h ⊢
  simp [World.setCell, Array.getElem?_modify, h]
set_option maxRecDepth 100000 in
theorem resA3 {fn : Func} {A M : Nat} {tmps : Array Value} {w : World} {b : Nat} {x0 x1 x2 v : Value} {t : TypeId} (hres : fn.results = #[.cell A 38, .tmp M]) (ha : tmps.getD A undef = .pointer (some ⟨b, 0, none⟩)) (hm : tmps.getD M undef = v)
    (hb : BoxAt w b #[x0, x1, x2] t) : (results fn tmps).run Tryz.prog w = .ok (.tuple #[.agg #[x0, x1, x2], v]) w := by
  have q0 : w.cell? ⟨b, 0, none⟩ = some x0 := hb.cell 0
  have q1 : w.cell? ⟨b, 1, none⟩ = some x1 := hb.cell 1
  have q2 : w.cell? ⟨b, 2, none⟩ = some x2 := hb.cell 2
  have ha' : tmps[A]?.getD undef = .pointer (some ⟨b, 0, none⟩) := by rw [← ha]; simp
  have hm' : tmps[M]?.getD undef = v := by rw [← hm]; simp
  simp [results, hres, ha', hm', go_sem, q0, q1, q2]
theorem endA3 {fn : Func} {R : Ending → World → Prop} {a : Act} {w2 : World} {A M b : Nat} {x0 x1 x2 v : Value} {t : TypeId} (hres : fn.results = #[.cell A 38, .tmp M]) (hbox : BoxAt w2 b #[x0, x1, x2] t)
    (ha : a.tmps.getD A undef = .pointer (some ⟨b, 0, none⟩)) (hm : a.tmps.getD M undef = v) (hd : a.defers = []) (hR : R (.returned (.tuple #[.agg #[x0, x1, x2], v])) w2) : bodyPost Tryz.prog fn R .ret a w2 :=
  bodyPost_ret (resA3 hres ha hm hbox) hd hR
set_option maxHeartbeats 2000000 in
set_option maxRecDepth 100000 in
theorem cformat_any (b : Nat) (name : ByteArray) (M : Value) (w : World) (h : ChE w b) : Calls Tryz.prog 26 #[.pointer (some ⟨b, 0, none⟩), .string name, .string ⟨#[]⟩, M] w fun e w' => (∃ k, e = .returned (.tuple #[.agg #[.string name, .slice (some ⟨k, 0, none⟩) 1 1, .string ⟨#[]⟩], .bool false]) ∧ BoxAt w' k #[.int .i64 2, .string name] 105) ∧ Below w.heap.size w w' := by
  have HO := Lib.hid (fun W (g : Below w.heap.size w W) => corder_any b W (h.later g))
  have C0 := Lib.hid (BoxAt.new w #[.string ⟨#[]⟩, .slice none 0 0, .string ⟨#[]⟩] 38)
  have HB0 := Lib.hid ((Below.refl w.heap.size w).alloc (Nat.le_refl _) (.cells #[.string ⟨#[]⟩, .slice none 0 0, .string ⟨#[]⟩] 38))
  have HO1 := Lib.hid (HO.out _ HB0.out)
  clear h HO
  go_enter Tryz.func26, Tryz.ntmps26
  go_wp2_with fail
  go_at_call 38
  refine HO1.out.mono ?_
  rintro e w2 ⟨rfl, rfl⟩
  generalize w.alloc (.cells #[.string ⟨#[]⟩, .slice none 0 0, .string ⟨#[]⟩] 38) = V at *
  go_wp2
  go_loopw [18] (fun t18 wr => t18 = .int .i64 0 ∧ wr = V) (fun _ _ => 0)
  case atStart => exact ⟨rfl, rfl⟩
  case round =>
    obtain ⟨rfl, rfl⟩ := hrel
    have HN := Lib.hid (cnone_any name wr)
    have hl := C0.out.lt
    go_wp2_with fail
    go_at_call 40
    refine HN.out.mono ?_
    rintro e w3 ⟨⟨k, rfl, hk⟩, h3⟩
    have C3 := Lib.hid (C0.out.later h3)
    have hl3 := C3.out.lt
    have e0 : w3.cell? ⟨w.heap.size, 0, none⟩ = some (.string ⟨#[]⟩) := C3.out.cell 0
    have e1 : w3.cell? ⟨w.heap.size, 1, none⟩ = some (.slice none 0 0) := C3.out.cell 1
    have e2 : w3.cell? ⟨w.heap.size, 2, none⟩ = some (.string ⟨#[]⟩) := C3.out.cell 2
    have z0 : w3.frozen? ⟨w.heap.size, 0, none⟩ = false := Lib.frozen_of_heap C3.out 0
    have z1 : w3.frozen? ⟨w.heap.size, 1, none⟩ = false := Lib.frozen_of_heap C3.out 1
    have z2 : w3.frozen? ⟨w.heap.size, 2, none⟩ = false := Lib.frozen_of_heap C3.out 2
    have hkw : k < w3.heap.size := BoxAt.lt hk
    have hkn : k ≠ w.heap.size := fun e => by
      subst e
      have h1 := C3.out
      unfold BoxAt at h1 hk
      rw [h1] at hk
      cases hk
    have HB3 := Lib.hid (HB0.out.trans (h3.mono HB0.out.size))
    have HK := Lib.hid hk
    clear h3 hk
    go_wp2
    refine endA3 rfl (box_a012 C3.out _ _ _) rfl rfl rfl ⟨⟨_, rfl, ?_⟩, ?_⟩
    · exact ((HK.out.setOther _ _ hkn).setOther _ _ hkn).setOther _ _ hkn
    · exact ((HB3.out.setCell (Nat.le_refl _) _).setCell (Nat.le_refl _) _).setCell (Nat.le_refl _) _
end Go.Proofs.YtgdkpamlkpncgabGreatDoor
