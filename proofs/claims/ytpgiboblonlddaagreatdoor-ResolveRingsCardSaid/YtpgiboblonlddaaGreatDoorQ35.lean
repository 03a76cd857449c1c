/-
  Several texts put together (part 35): what the law and the program call, walked; their contracts.
-/
import Derived.Test.YtpgiboblonlddaaGreatDoorQ24
import Derived.Test.YtpgiboblonlddaaGreatDoorQ34
import Derived.Test.YtpgiboblonlddaaGreatDoorQ10
import Derived.Lib.ConvBytes
import Derived.Lib.SlBytesRow
import Derived.Lib.SlBytesConst
namespace Go.Proofs.YtpgiboblonlddaaGreatDoor
open Go.RowKit Go.ChangeMaps
set_option linter.unusedVariables false
set_option linter.unusedSimpArgs false
theorem conv_bytes (s : ByteArray) (b cap : Nat) (W : World) (h : Lib.Bytes W b 0 s) : (convert 24 9 (.slice (some ⟨b, 0, none⟩) s.size cap)).run Tryz.prog W = .ok (.string s) W :=
  Lib.run_convert_whole (P := Tryz.prog) W 24 5 9 Tryz.underlying24 Tryz.underlying5 Tryz.underlying9 b 0 s h cap
theorem bytes_same {W W' : World} {b : Nat} {s : ByteArray} (h : Lib.Bytes W b 0 s) (e : W'.heap[b]? = W.heap[b]?) : Lib.Bytes W' b 0 s := fun i hi => by
  have h2 := h i hi
  rw [← h2]
  unfold World.cell?
  simp only [e]
theorem three_of {vs : List VE} {a b c : EN} (h : vs.map (·.x) = [a, b, c]) : ∃ e1 e2 e3 : VE, vs = [e1, e2, e3] ∧ e1.x = a ∧ e2.x = b ∧ e3.x = c := by
  match vs, h with
  | [e1, e2, e3], h =>
    simp at h
    exact ⟨e1, e2, e3, rfl, h.1, h.2.1, h.2.2⟩
theorem pat_one {W : World} {F : Nat → Prop} {A : Option Addr} {n c : Nat} {t0 : ByteArray} (h : PatF W F [.mk t0 none] (.slice A n c)) : ∃ b o, A = some ⟨b, o, none⟩ ∧ F b ∧ W.cell? ⟨b, o, none⟩ = some (.string t0) := by
  obtain ⟨A', c', e, _, _, h2⟩ := h
  simp only [Value.slice.injEq] at e
  obtain ⟨rfl, rfl, rfl⟩ := e
  obtain ⟨b, o, rfl, h3⟩ := h2 (by simp)
  rw [EsF] at h3
  exact ⟨b, o, rfl, h3.1, h3.2.1⟩
end Go.Proofs.YtpgiboblonlddaaGreatDoor
