/-
  Package number: Marks: the signs are made; Of.
-/
import Derived.Test.YtglennfjeacpoaaGreatDoorNb
import Derived.Deep.WholeRow
namespace Go.Proofs.YtglennfjeacpoaaGreatDoor
open Go.RowKit Go.ChangeMaps
set_option linter.unusedVariables false
set_option linter.unusedSimpArgs false

theorem infoSg : (Tryz.prog.info? 121).map (fun i => (i.zero, i.size)) = some (some (sgV [] []), 2) := by kernel_rfl
theorem zeroSg (w : World) : (zeroValue 121).run Tryz.prog w = .ok (sgV [] []) w := (zero_of_info infoSg).1 w
set_option maxHeartbeats 2000000 in
set_option maxRecDepth 100000 in
theorem makeSigns_any (b : Nat) (x : Value) (w : World) (hb : b < w.heap.size) (hc : w.cell? ⟨b, 3, none⟩ = some x) (hz : w.frozen? ⟨b, 3, none⟩ = false) :
    Calls Tryz.prog 73 #[pt b] w fun e w' => e = .returned (.tuple #[]) ∧ w' = (w.setCell ⟨b, 3, none⟩ (.map (some w.heap.size))).alloc (.map (tabE 8) 8) := by
  have c3 : (w.alloc (.map (tabE 8) 8)).cell? ⟨b, 3, none⟩ = some x := by rw [World.cell?_alloc_past _ _ _ hb]; exact hc
  have z3 : (w.alloc (.map (tabE 8) 8)).frozen? ⟨b, 3, none⟩ = false := by rw [World.frozen?_alloc_past _ _ _ hb]; exact hz
  have ht : Tryz.prog.underlying 48 = some (.map 9 121) := Tryz.underlying48
  have hk : Tryz.prog.underlying 9 = some .string := Tryz.underlying9
  have h0 := run_ins (P := Tryz.prog) ht hk w #[] (tabE 1) 0 ⟨#[100, 101]⟩ (.agg #[.string ⟨#[44]⟩, .string ⟨#[46]⟩]) (by kernel_rfl) (by kernel_rfl)
  have h1 := run_ins (P := Tryz.prog) ht hk w (tabE 1) (tabE 2) 1 ⟨#[110, 108]⟩ (.agg #[.string ⟨#[44]⟩, .string ⟨#[46]⟩]) (by kernel_rfl) (by kernel_rfl)
  have h2 := run_ins (P := Tryz.prog) ht hk w (tabE 2) (tabE 3) 2 ⟨#[101, 115]⟩ (.agg #[.string ⟨#[44]⟩, .string ⟨#[46]⟩]) (by kernel_rfl) (by kernel_rfl)
  have h3 := run_ins (P := Tryz.prog) ht hk w (tabE 3) (tabE 4) 3 ⟨#[102, 114]⟩ (.agg #[.string ⟨#[44]⟩, .string ⟨#[226, 128, 175]⟩]) (by kernel_rfl) (by kernel_rfl)
  have h4 := run_ins (P := Tryz.prog) ht hk w (tabE 4) (tabE 5) 4 ⟨#[114, 117]⟩ (.agg #[.string ⟨#[44]⟩, .string ⟨#[194, 160]⟩]) (by kernel_rfl) (by kernel_rfl)
  have h5 := run_ins (P := Tryz.prog) ht hk w (tabE 5) (tabE 6) 5 ⟨#[99, 115]⟩ (.agg #[.string ⟨#[44]⟩, .string ⟨#[194, 160]⟩]) (by kernel_rfl) (by kernel_rfl)
  have h6 := run_ins (P := Tryz.prog) ht hk w (tabE 6) (tabE 7) 6 ⟨#[112, 108]⟩ (.agg #[.string ⟨#[44]⟩, .string ⟨#[194, 160]⟩]) (by kernel_rfl) (by kernel_rfl)
  have h7 := run_ins (P := Tryz.prog) ht hk w (tabE 7) (tabE 8) 7 ⟨#[115, 118]⟩ (.agg #[.string ⟨#[44]⟩, .string ⟨#[194, 160]⟩]) (by kernel_rfl) (by kernel_rfl)
  have hmk := fun W => run_makeMap (P := Tryz.prog) 48 W
  clear ht hk
  unfold pt
  go_enter Tryz.func73, Tryz.ntmps73
  go_wp2
  go_end0
  exact ⟨rfl, rfl⟩
end Go.Proofs.YtglennfjeacpoaaGreatDoor
