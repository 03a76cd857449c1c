/-
  Package script: the document's example.
-/
import Derived.Test.YtnkijpjknbelfaaDoorSwo
namespace Go.Proofs.YtnkijpjknbelfaaDoor
open Go.RowKit
set_option linter.unusedVariables false
set_option linter.unusedSimpArgs false

def hdS : ST := ⟨1, ⟨#[]⟩, ⟨#[]⟩, false, [], ⟨#[]⟩, ⟨#[]⟩, []⟩
def hdX : ST := ⟨1, ⟨#[101, 110]⟩, ⟨#[]⟩, false, [], ⟨#[]⟩, ⟨#[]⟩, []⟩
def hdB : List UInt8 := [49, 58, 99, 44, 50, 58, 101, 110, 44, 49, 58, 48, 44]
theorem hd_enc : encL [hdX] = hdB := by
  unfold encL encS textsS hdX encT hdB
  simp [Lib.decDigits_one]
theorem hd_right : rightS hdX = true := rfl
theorem hd_short : ShortS hdX := ⟨by decide, by decide, by decide, by decide, by decide, (fun w h => by cases h), by decide, (fun a h => by cases h)⟩
theorem hd_encR : encR [hdX] = (hdB, 0) := by
  unfold encR
  rw [if_neg (by decide), if_pos (by rfl), hd_enc]
theorem hd_dec : decD ⟨#[49, 58, 99, 44, 50, 58, 101, 110, 44, 49, 58, 48, 44]⟩ = ([hdX], 13, 0) := by
  have h := decD_enc [hdX] (fun x hx => by rw [List.mem_singleton.1 hx]; exact ⟨valS_of hd_short hd_right, hd_right⟩) (by decide) (by rw [hd_enc]; decide)
  rw [hd_enc] at h
  exact h
set_option maxHeartbeats 8000000 in
set_option maxRecDepth 100000 in
theorem head_any (w : World) (hE : Env w) : Calls Tryd.prog 9 #[] w fun e w' => e = .returned (.bool true) ∧ Below w.heap.size w w' := by
  have hEn := encode_any (A := some ⟨w.heap.size, 0, none⟩) (c := 1) (l := [hdX]) (w.alloc (.cells #[.int .i64 1, .string ⟨#[101, 110]⟩, .string ⟨#[]⟩, .bool false, .slice none 0 0, .string ⟨#[]⟩, .string ⟨#[]⟩, .slice none 0 0] 29)) (hE.below ((Below.refl _ _).alloc (Nat.le_refl _) _))
    (fun _ => ⟨w.heap.size, 0, rfl, by show w.heap.size < (w.alloc _).heap.size; rw [World.size_alloc]; omega, fun j x hx => by
      match j, hx with
      | 0, hx =>
        simp at hx
        subst hx
        refine ⟨none, 0, none, 0, fun i u hu => ?_, WsIn.nil _ _ _, AsIn.nil _ _ _⟩
        have hb := BoxAt.new w #[.int .i64 1, .string ⟨#[101, 110]⟩, .string ⟨#[]⟩, .bool false, .slice none 0 0, .string ⟨#[]⟩, .string ⟨#[]⟩, .slice none 0 0] 29
        rw [Nat.zero_mul, Nat.zero_add, hb.cell i]
        simpa [stL, hdX] using hu⟩)
    (fun x hx => by rw [List.mem_singleton.1 hx]; exact hd_short.ok) (by decide) (by rw [hd_enc]; decide)
  rw [hd_encR] at hEn
  have HEn := Lib.hid hEn
  have HE := Lib.hid hE
  clear hEn hE
  go_enter Tryd.func9, Tryd.ntmps9
  go_wp2_with fail
  go_at_call 14
  refine HEn.out.mono ?_
  rintro e w1 ⟨v, rfl, hb1, ho1⟩
  obtain ⟨A, c, rfl⟩ := own_len ho1
  have hcv : (convert 32 9 (.slice A hdB.length c)).run Tryd.prog w1 = .ok (.string ⟨#[49, 58, 99, 44, 50, 58, 101, 110, 44, 49, 58, 48, 44]⟩) w1 := own_conv ho1
  have HB1 := Lib.hid (below_box hb1)
  have HE1 := Lib.hid (HE.out.below HB1.out)
  rw [show hdB.length = 13 from rfl] at hcv ⊢
  clear hb1 ho1
  go_wp2_with fail
  go_at_call 15
  refine (decode_any (A := A) (c := c) (s := ⟨#[49, 58, 99, 44, 50, 58, 101, 110, 44, 49, 58, 48, 44]⟩) w1 HE1.out hcv).mono ?_
  rw [hd_dec]
  rintro e w2 ⟨A2, c2, rfl, hb2, hl2⟩
  obtain ⟨b, o, rfl, hbk, hcs⟩ := hl2 (by decide)
  obtain ⟨A3, c3, A4, c4, hst, _⟩ := hcs 0 hdX rfl
  obtain ⟨_, kx, _⟩ := stL_cells (b := b) (o := o + 0 * 8) hst
  have k1 : w2.cell? ⟨b, o + 1, none⟩ = some (.string ⟨#[101, 110]⟩) := by rw [Nat.zero_mul, Nat.add_zero] at kx; exact kx
  have HB2 := Lib.hid (HB1.out.trans (hb2.mono HB1.out.size))
  have hbl : b < w2.heap.size := hbk.2
  have k9 : ((⟨#[101, 110]⟩ : ByteArray).toList == [101, 110]) = true := by rw [Lib.toList_data]; rfl
  clear hcs hst hb2 hl2 hcv kx
  dsimp only [List.length_singleton]
  go_wp2
  go_ret
  exact ⟨rfl, HB2.out⟩
end Go.Proofs.YtnkijpjknbelfaaDoor
