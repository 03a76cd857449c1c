/-
  Several texts put together (part 48): what the law and the program call, walked; their contracts.
-/
import Derived.Test.YtpgiboblonlddaaGreatDoorQ5
import Derived.Deep.WholeRow
namespace Go.Proofs.YtpgiboblonlddaaGreatDoor
open Go.RowKit Go.ChangeMaps
set_option linter.unusedVariables false
set_option linter.unusedSimpArgs false
theorem infoSg : (Tryz.prog.info? 179).map (fun i => (i.zero, i.size)) = some (some (sgV [] []), 2) := by kernel_rfl
theorem zeroSg (w : World) : (zeroValue 179).run Tryz.prog w = .ok (sgV [] []) w := (zero_of_info infoSg).1 w
set_option maxHeartbeats 2000000 in
set_option maxRecDepth 100000 in
theorem makeSigns_any (b : Nat) (x : Value) (w : World) (hb : b < w.heap.size) (hc : w.cell? ⟨b, 3, none⟩ = some x) (hz : w.frozen? ⟨b, 3, none⟩ = false) :
    Calls Tryz.prog 86 #[pt b] w fun e w' => e = .returned (.tuple #[]) ∧ w' = (w.setCell ⟨b, 3, none⟩ (.map (some w.heap.size))).alloc (.map (tabE 8) 8) := by
  have c3 : (w.alloc (.map (tabE 8) 8)).cell? ⟨b, 3, none⟩ = some x := by rw [World.cell?_alloc_past _ _ _ hb]; exact hc
  have z3 : (w.alloc (.map (tabE 8) 8)).frozen? ⟨b, 3, none⟩ = false := by rw [World.frozen?_alloc_past _ _ _ hb]; exact hz
  have ht : Tryz.prog.underlying 50 = some (.map 9 179) := Tryz.underlying50
  have hk : Tryz.prog.underlying 9 = some .string := Tryz.underlying9
  have h0 := run_ins (P := Tryz.prog) ht hk w #[] (tabE 1) 0 ⟨#[100, 101]⟩ (.agg #[.string ⟨#[44]⟩, .string ⟨#[46]⟩]) (by kernel_rfl) (by kernel_rfl)
  have h1 := run_ins (P := Tryz.prog) ht hk w (tabE 1) (tabE 2) 1 ⟨#[110, 108]⟩ (.agg #[.string ⟨#[44]⟩, .string ⟨#[46]⟩]) (by kernel_rfl) (by kernel_rfl)
  have h2 := run_ins (P := Tryz.prog) ht hk w (tabE 2) (tabE 3) 2 ⟨#[101, 115]⟩ (.agg #[.string ⟨#[44]⟩, .string ⟨#[46]⟩]) (by kernel_rfl) (by kernel_rfl)
  have h3 := run_ins (P := Tryz.prog) ht hk w (tabE 3) (tabE 4) 3 ⟨#[102, 114]⟩ (.agg #[.string ⟨#[44]⟩, .string ⟨#[226, 128, 175]⟩]) (by kernel_rfl) (by kernel_rfl)
  have h4 := run_ins (P := Tryz.prog) ht hk w (tabE 4) (tabE 5) 4 ⟨#[114, 117]⟩ (.agg #[.string ⟨#[44]⟩, .string ⟨#[194, 160]⟩]) (by kernel_rfl) (by kernel_rfl)
  have h5 := run_ins (P := Tryz.prog) ht hk w (tabE 5) (tabE 6) 5 ⟨#[99, 115]⟩ (.agg #[.string ⟨#[44]⟩, .string ⟨#[194, 160]⟩]) (by kernel_rfl) (by kernel_rfl)
  have h6 := run_ins (P := Tryz.prog) ht hk w (tabE 6) (tabE 7) 6 ⟨#[112, 108]⟩ (.agg #[.string ⟨#[44]⟩, .string ⟨#[194, 160]⟩]) (by kernel_rfl) (by kernel_rfl)
  have h7 := run_ins (P := Tryz.prog) ht hk w (tabE 7) (tabE 8) 7 ⟨#[115, 118]⟩ (.agg #[.string ⟨#[44]⟩, .string ⟨#[194, 160]⟩]) (by kernel_rfl) (by kernel_rfl)
  have hmk := fun W => run_makeMap (P := Tryz.prog) 50 W
  clear ht hk
  unfold pt
  go_enter Tryz.func86, Tryz.ntmps86
  go_wp2
  go_end0
  exact ⟨rfl, rfl⟩
end Go.Proofs.YtpgiboblonlddaaGreatDoor

namespace Go.Proofs.YtpgiboblonlddaaGreatDoor
open Go.RowKit Go.ChangeMaps
set_option linter.unusedVariables false
set_option linter.unusedSimpArgs false
set_option maxRecDepth 100000 in
set_option maxHeartbeats 1600000 in
theorem slow_any (b n : Nat) (x : Value) (w : World) (h : BoxAt w b #[.int .u32 0, .int .i32 0, .int .u32 0, x, .int .i64 (n : Int)] 55) :
    Calls Tryz.prog 122 #[pt b, .func (.func 86) #[pt b] #[]] w fun e w' => e = .returned (.tuple #[]) ∧ MarksAt w' b true n ∧ Kp b w w' := by
  have hlt := h.lt
  have g1 : BoxAt (w.setCell ⟨b, 1, none⟩ (.int .i32 1)) b #[.int .u32 0, .int .i32 1, .int .u32 0, x, .int .i64 (n : Int)] 55 := h.set 1 _
  obtain ⟨w1, hw1⟩ : ∃ w1, w.setCell ⟨b, 1, none⟩ (.int .i32 1) = w1 := ⟨_, rfl⟩
  rw [hw1] at g1
  have k1 : Kp b w w1 := by rw [← hw1]; exact (Kp.refl b w).setCell 1 _
  have hlt1 := g1.lt
  have g2 : BoxAt ((w1.setCell ⟨b, 3, none⟩ (.map (some w1.heap.size))).alloc (.map (tabE 8) 8)) b #[.int .u32 0, .int .i32 1, .int .u32 0, .map (some w1.heap.size), .int .i64 (n : Int)] 55 := (g1.set 3 _).alloc _
  have k2 : Kp b w ((w1.setCell ⟨b, 3, none⟩ (.map (some w1.heap.size))).alloc (.map (tabE 8) 8)) := (k1.setCell 3 _).alloc (by simp; omega) _
  have m2 : ((w1.setCell ⟨b, 3, none⟩ (.map (some w1.heap.size))).alloc (.map (tabE 8) 8)).heap[w1.heap.size]? = some (.map (tabE 8) 8) := by
    have : (w1.setCell ⟨b, 3, none⟩ (.map (some w1.heap.size))).heap.size = w1.heap.size := by simp
    show ((w1.setCell ⟨b, 3, none⟩ (.map (some w1.heap.size))).heap.push _)[w1.heap.size]? = _
    rw [Array.getElem?_push, if_pos this.symm]
  have hlk := lock_free ⟨b, 1, none⟩ w (h.cell 1) (h.z 1)
  rw [hw1] at hlk
  have hmk := makeSigns_any b x w1 hlt1 (g1.cell 3) (g1.z 3)
  obtain ⟨w2, hw2⟩ : ∃ w2, (w1.setCell ⟨b, 3, none⟩ (.map (some w1.heap.size))).alloc (.map (tabE 8) 8) = w2 := ⟨_, rfl⟩
  rw [hw2] at g2 k2 m2 hmk
  have hl := run_call_load (P := Tryz.prog) Tryz.func154 (by kernel_rfl) (by kernel_rfl) (by kernel_rfl) .u32 (by kernel_rfl) (w := w1) (a := ⟨b, 0, none⟩) (x := 0) (g1.cell 0)
  have g3 : BoxAt (w2.drew.setCell ⟨b, 0, none⟩ (.int .u32 1)) b #[.int .u32 1, .int .i32 1, .int .u32 0, .map (some w1.heap.size), .int .i64 (n : Int)] 55 := (BoxAt.drew g2).set 0 _
  have hnot : ∀ (x : Bool) (w : World), (Op.unary .not (.bool x)).run Tryz.prog w = .ok (.bool (!x)) w := fun _ _ => rfl
  have G2 := Lib.hid g2
  have G3 := Lib.hid g3
  have K2 := Lib.hid k2
  have M2 := Lib.hid m2
  have HL := Lib.hid hlk
  have HM := Lib.hid hmk
  clear g1 g2 g3 k1 k2 m2 hlk hmk hw1 hw2 h
  unfold pt at HM ⊢
  go_enter_defers Tryz.func122, Tryz.ntmps122
  go_wp2_with fail
  go_at_call 155
  refine (HL.out).mono ?_
  rintro e w' ⟨rfl, rfl⟩
  go_wp2_with (first | (go_at_call 86; refine (HM.out).mono ?_; rintro e w'' ⟨rfl, rfl⟩) | (go_at_call 121; go_in))
  refine leaves_cons (f := 157) (args := #[.pointer (some ⟨b, 0, none⟩), .bool true]) (by simp) (by simp [go_sem]) ?_
  refine (store_deferred ⟨b, 0, none⟩ (.int .u32 0) .returning _ (G2.out.cell 0) (G2.out.z 0)).mono ?_
  rintro e u' w'' ⟨rfl, rfl, rfl⟩
  refine leaves_cons (f := 156) (args := #[.pointer (some ⟨b, 1, none⟩)]) (by simp [settle]) (by simp [go_sem]) ?_
  refine (unlock_deferred ⟨b, 1, none⟩ _ _ (G3.out.cell 1) (G3.out.z 1)).mono ?_
  rintro e u' w'' ⟨rfl, rfl, rfl⟩
  have hfin : MarksAt ((World.setCell (World.drew _) ⟨b, 0, none⟩ (.int .u32 1)).setCell ⟨b, 1, none⟩ (.int .i32 0)) b true n := ⟨_, G3.out.set 1 _, fun _ => ⟨_, rfl, Nat.ne_of_gt hlt1, by
    rw [Below.heap_setCell _ _ _ _ (Nat.ne_of_gt hlt1), Below.heap_setCell _ _ _ _ (Nat.ne_of_gt hlt1)]
    exact M2.out⟩⟩
  have hfin2 := ((K2.out.drew).setCell 0 (.int .u32 1)).setCell 1 (.int .i32 0)
  simp [Leaves, settle, results, Tryz.results122]
  exact ⟨hfin, hfin2⟩
theorem do_any (b n : Nat) (made : Bool) (w : World) (h : MarksAt w b made n) :
    Calls Tryz.prog 85 #[pt b, .func (.func 86) #[pt b] #[]] w fun e w' => e = .returned (.tuple #[]) ∧ MarksAt w' b true n ∧ Kp b w w' := by
  obtain ⟨x, h1, h2⟩ := h
  cases made
  case true =>
    have hl := run_call_load (P := Tryz.prog) Tryz.func154 (by kernel_rfl) (by kernel_rfl) (by kernel_rfl) .u32 (by kernel_rfl) (w := w) (a := ⟨b, 0, none⟩) (x := 1) (h1.cell 0)
    have hnot : ∀ (x : Bool) (w : World), (Op.unary .not (.bool x)).run Tryz.prog w = .ok (.bool (!x)) w := fun _ _ => rfl
    have hM : MarksAt w b true n := ⟨x, h1, h2⟩
    have HM := Lib.hid hM
    clear h1 h2 hM
    unfold pt
    go_enter Tryz.func85, Tryz.ntmps85
    go_wp2
    go_end0
    exact ⟨rfl, HM.out, Kp.refl _ _⟩
  case false =>
    have hl := run_call_load (P := Tryz.prog) Tryz.func154 (by kernel_rfl) (by kernel_rfl) (by kernel_rfl) .u32 (by kernel_rfl) (w := w) (a := ⟨b, 0, none⟩) (x := 0) (h1.cell 0)
    have hnot : ∀ (x : Bool) (w : World), (Op.unary .not (.bool x)).run Tryz.prog w = .ok (.bool (!x)) w := fun _ _ => rfl
    have HS := Lib.hid (slow_any b n x w h1)
    clear h1 h2
    unfold pt at HS ⊢
    go_enter Tryz.func85, Tryz.ntmps85
    go_wp2_with (first | (go_at_call 122; refine (HS.out).mono ?_; rintro e w' ⟨rfl, hm, hk⟩) | (go_at_call 121; go_in))
    go_end0
    exact ⟨rfl, hm, hk⟩
set_option maxRecDepth 100000 in
set_option maxHeartbeats 1600000 in
theorem of_any (b n : Nat) (made : Bool) (lang : ByteArray) (hn : n ≤ 1000) (w : World) (h : MarksAt w b made n) :
    Calls Tryz.prog 55 #[pt b, .string lang] w fun e w' => e = .returned (.tuple #[.string ⟨(sgn lang).1.toArray⟩, .string ⟨(sgn lang).2.toArray⟩]) ∧ MarksAt w' b true (n + 1) ∧ Kp b w w' := by
  obtain ⟨x, h1, h2⟩ := h
  have hlt := h1.lt
  have hadd := add_anyM b 4 n hn w (h1.cell 4) (h1.z 4)
  have g1 : MarksAt (w.setCell ⟨b, 4, none⟩ (.int .i64 ((n + 1 : Nat) : Int))) b made (n + 1) := ⟨x, h1.set 4 _, fun hm => by
    obtain ⟨mb, e1, e2, e3⟩ := h2 hm
    exact ⟨mb, e1, e2, by rw [Below.heap_setCell _ _ _ _ e2]; exact e3⟩⟩
  have k1 : Kp b w (w.setCell ⟨b, 4, none⟩ (.int .i64 ((n + 1 : Nat) : Int))) := (Kp.refl b w).setCell 4 _
  obtain ⟨w1, hw1⟩ : ∃ w1, w.setCell ⟨b, 4, none⟩ (.int .i64 ((n + 1 : Nat) : Int)) = w1 := ⟨_, rfl⟩
  rw [hw1] at g1 k1 hadd
  have hdo := do_any b (n + 1) made w1 g1
  have HA := Lib.hid hadd
  have HD := Lib.hid hdo
  have K1 := Lib.hid k1
  clear hadd hdo k1 g1 hw1 h1 h2
  obtain ⟨r, hf, hr1, hr3⟩ := find_tab lang
  have hz := zeroSg
  have hr2 : r.isSome = false → (sgn lang).1 = [46] ∧ (sgn lang).2 = [44] := fun hr => by rw [hr3 hr]; exact ⟨rfl, rfl⟩
  clear hr3
  obtain ⟨sp, hsp⟩ : ∃ p, (sgn lang).1 = p := ⟨_, rfl⟩
  obtain ⟨sq, hsq⟩ : ∃ q, (sgn lang).2 = q := ⟨_, rfl⟩
  rw [hsp] at hr1 hr2 ⊢
  rw [hsq] at hr1 hr2 ⊢
  clear hsp hsq
  unfold pt at HA HD ⊢
  go_enter Tryz.func55, Tryz.ntmps55
  go_wp2_with fail
  go_at_call 84
  refine (HA.out).mono ?_
  rintro e w' ⟨rfl, rfl⟩
  go_wp2_with fail
  go_at_call 85
  refine (HD.out).mono ?_
  rintro e w2 ⟨rfl, hm2, hk2⟩
  have KK := Lib.hid (K1.out.trans hk2)
  have MM := Lib.hid hm2
  obtain ⟨y, i1, i2⟩ := hm2
  obtain ⟨mb, rfl, e2, e3⟩ := i2 rfl
  have c3 : w2.cell? ⟨b, 3, none⟩ = some (.map (some mb)) := i1.cell 3
  have hlook := run_look (P := Tryz.prog) (t := 50) (k := 9) (e := 179) Tryz.underlying50 Tryz.underlying9 w2 (hz w2) mb (tabE 8) 8 e3 lang r hf
  clear hk2 i1 i2 e3 hz hf
  cases hr : r.isSome
  · obtain ⟨rfl, rfl⟩ := hr2 hr
    rw [hr] at hlook
    have hnone : r = none := by cases r with | none => rfl | some p => cases hr
    subst hnone
    simp only [Option.map_none, Option.getD_none, sgV] at hlook
    clear hr1 hr2 hr
    go_wp2
    go_ret2
    exact ⟨rfl, MM.out.later ((Below.refl _ _).alloc (Nat.le_refl _) _), KK.out.alloc (by have := MM.out.lt; omega) _⟩
  · have hs := hr1 hr
    rw [hs, hr] at hlook
    simp only [Option.getD_some, sgV] at hlook
    clear hs hr1 hr2 hr
    go_wp2
    go_region
    go_wp2
    go_ret2
    exact ⟨rfl, (MM.out.later ((Below.refl _ _).alloc (Nat.le_refl _) _)).drew, (KK.out.alloc (by have := MM.out.lt; omega) _).drew⟩
end Go.Proofs.YtpgiboblonlddaaGreatDoor
