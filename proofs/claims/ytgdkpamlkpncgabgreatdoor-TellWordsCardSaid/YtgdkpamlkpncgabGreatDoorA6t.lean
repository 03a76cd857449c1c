import Derived.Test.YtgdkpamlkpncgabGreatDoorA1
import Derived.Test.YtgdkpamlkpncgabGreatDoorShelf
import Derived.Lib.TrimByte
namespace Go.Proofs.YtgdkpamlkpncgabGreatDoor
open Go.RowKit

def TrimTo (a c : ByteArray) : Prop := ∀ W : World, Calls Tryz.prog 81 #[.string a, .string ⟨#[48]⟩] W fun e w' => e = .returned (.string c) ∧ W = w'
theorem trimTo (a : ByteArray) : TrimTo a ⟨(Lib.trimLeftB a.data.toList 48).toArray⟩ := by
  intro W
  refine (Tryz.strings_TrimLeft_one _ 48 (by decide) _).mono ?_
  rintro e w' ⟨rfl, rfl⟩
  exact ⟨rfl, rfl⟩

end Go.Proofs.YtgdkpamlkpncgabGreatDoor
