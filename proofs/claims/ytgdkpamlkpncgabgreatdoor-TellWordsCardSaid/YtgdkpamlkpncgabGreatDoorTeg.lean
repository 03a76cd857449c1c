/-
  Package run: one step, an Ask of no bundles.
-/
import Derived.Test.YtgdkpamlkpncgabGreatDoorTed
namespace Go.Proofs.YtgdkpamlkpncgabGreatDoor
open Go.RowKit
set_option linter.unusedVariables false
set_option linter.unusedSimpArgs false

theorem infoOut : (Tryz.prog.info? 40).map (fun i => (i.zero, i.size, i.bytes)) = some (some (.agg #[.int .i64 0, .slice none 0 0, .int .i64 0, .string ⟨#[]⟩, .slice none 0 0, .string ⟨#[]⟩, .bool false]), 7, 104) := by kernel_rfl
/-- What came of it, in a row. -/
def outL (name : ByteArray) (k : Nat) : List Value := [.int .i64 0, .slice none 0 0, .int .i64 0, .string name, .slice (some ⟨k, 0, none⟩) 1 1, .string ⟨#[]⟩, .bool false]
set_option maxHeartbeats 4000000 in
set_option maxRecDepth 100000 in
theorem rsteps_one (name : ByteArray) (x : ST) (hx : x = ⟨2, ⟨#[]⟩, ⟨#[]⟩, false, [], name, ⟨#[]⟩, []⟩) (hr : rightS x = true) (A1 A2 : Option Addr) (c1 c2 g o c : Nat) (w : World) (hE : Env w) (hg : g < w.heap.size) (hst : ∀ i y, (stL x A1 c1 A2 c2)[i]? = some y → w.cell? ⟨g, o + i, none⟩ = some y) :
    Calls Tryz.prog 9 #[.slice (some ⟨g, o, none⟩) 1 c] w fun e w' => (∃ G cap k, e = .returned (.slice (some ⟨G, 0, none⟩) 1 cap) ∧ w.heap.size ≤ G ∧ G < w'.heap.size ∧ (∀ i y, (outL name k)[i]? = some y → w'.cell? ⟨G, i, none⟩ = some y) ∧ BoxAt w' k #[.int .i64 2, .string name] 105) ∧ Below w.heap.size w w' := by
  obtain ⟨i0, hi0, hz0, hz1, hz2⟩ := info_split infoOut
  have HDo := Lib.hid (fun W (g' : Below w.heap.size w W) B (h : ChE W B) => rdo_none B name x hx hr A1 A2 c1 c2 W (hE.below g') h)
  have HSt := Lib.hid hst
  subst hx
  unfold stL stA at *
  dsimp only [List.length_nil] at *
  clear hE hst hr
  go_enter Tryz.func9, Tryz.ntmps9
  go_wp2_with fail
  go_at_call 14
  refine (cnew_any w).mono ?_
  rintro e w1 ⟨rfl, hc1, h1⟩
  have HC1 := Lib.hid hc1
  have HB1 := Lib.hid h1
  clear hc1 h1
  go_wp2_with fail
  go_loopw [4, 10] (fun t4 t10 wr => (t10 = .int .i64 0 ∧ t4 = .slice none 0 0 ∧ wr = w1) ∨ (t10 = .int .i64 1 ∧ Hid (Below w.heap.size w wr) ∧ ∃ G cap k, t4 = .slice (some ⟨G, 0, none⟩) 1 cap ∧ w.heap.size ≤ G ∧ G < wr.heap.size ∧ Hid (∀ i y, (outL name k)[i]? = some y → wr.cell? ⟨G, i, none⟩ = some y) ∧ Hid (BoxAt wr k #[.int .i64 2, .string name] 105))) (fun _ t10 _ => 1 - (intOf t10).toNat)
  case atStart => exact .inl ⟨rfl, rfl, rfl⟩
  case round =>
    rcases hrel with ⟨rfl, rfl, rfl⟩ | ⟨rfl, HB, G, cap, k, rfl, hG1, hG2, HO, HK⟩
    · have hcell := fun i y (hy : ([.int .i64 2, .string ⟨#[]⟩, .string ⟨#[]⟩, .bool false, .slice A1 0 c1, .string name, .string ⟨#[]⟩, .slice A2 0 c2] : List Value)[i]? = some y) => (HB1.out.cell (p := ⟨g, o + i, none⟩) hg).trans (HSt.out i y hy)
      have e0 : wr.cell? ⟨g, o, none⟩ = some (.int .i64 2) := hcell 0 _ rfl
      have e1 : wr.cell? ⟨g, o + 1, none⟩ = some (.string ⟨#[]⟩) := hcell 1 _ rfl
      have e2 : wr.cell? ⟨g, o + 2, none⟩ = some (.string ⟨#[]⟩) := hcell 2 _ rfl
      have e3 : wr.cell? ⟨g, o + 3, none⟩ = some (.bool false) := hcell 3 _ rfl
      have e4 : wr.cell? ⟨g, o + 4, none⟩ = some (.slice A1 0 c1) := hcell 4 _ rfl
      have e5 : wr.cell? ⟨g, o + 5, none⟩ = some (.string name) := hcell 5 _ rfl
      have e6 : wr.cell? ⟨g, o + 6, none⟩ = some (.string ⟨#[]⟩) := hcell 6 _ rfl
      have e7 : wr.cell? ⟨g, o + 7, none⟩ = some (.slice A2 0 c2) := hcell 7 _ rfl
      have hlg : g < wr.heap.size := Nat.lt_of_lt_of_le hg HB1.out.size
      have hws := HB1.out.size
      have HD1 := Lib.hid (fun W (g' : Below wr.heap.size wr W) => HDo.out W (HB1.out.trans (g'.mono HB1.out.size)) w.heap.size (HC1.out.later g'))
      clear hcell
      go_wp2_with fail
      go_at_call 15
      refine (HD1.out _ (by exact (Below.refl _ _).alloc (Nat.le_refl _) _)).mono ?_
      rintro e w2 ⟨⟨k, rfl, hk⟩, h2⟩
      have h2' := ((Below.refl wr.heap.size wr).alloc (Nat.le_refl _) _).trans (h2.mono (by simp))
      have HB2 := Lib.hid (HB1.out.trans (h2'.mono HB1.out.size))
      have HK := Lib.hid hk
      have hs2 := HB2.out.size
      clear h2 h2' hk e0 e1 e2 e3 e4 e5 e6 e7
      go_wp2_with (at_builtin; refine wpList_append_where _ rfl _ _ 34 rfl w.heap.size 40 i0 _ 7 104 Tryz.underlying34 hi0 hz0 hz1 hz2 rfl (by decide) _ _ _ rfl (World.ownsRow_nil _ _ _ _) ⟨w2.heap.size, 0, none⟩ 1 1 (outL name k) rfl rfl ?c1 ?c2 ?c3 ?c4 ?c5 ?c6 ?_)
      case c1 =>
        intro j u hj
        have hb := BoxAt.new w2 (outL name k).toArray 40
        rw [addMid, Nat.zero_add]
        refine (hb.cell j).trans ?_
        simpa using hj
      case c2 =>
        intro u hu
        simp only [outL, List.mem_cons, List.not_mem_nil, or_false] at hu
        rcases hu with rfl | rfl | rfl | rfl | rfl | rfl | rfl <;> rfl
      case c3 => unfold maxLen; omega
      case c4 => omega
      case c5 => simp; omega
      case c6 => decide
      intro v' w8 hown hgrow hwh
      have hO : OwnG 40 7 (fun _ : Unit => outL name k) w.heap.size w8 v' [()] := by
        unfold OwnG
        exact hown
      obtain ⟨G, cap, rfl⟩ := own_some (k := 0) hown
      obtain ⟨hlG1, hlG2⟩ := hO.lt G rfl
      have hcs := hO.cells (fun _ => rfl) rfl (by decide)
      have HCs := Lib.hid hcs
      have HB8 := Lib.hid ((HB2.out.alloc HB2.out.size (.cells (outL name k).toArray 40)).grown hgrow (by simp; omega) (fun g e => by cases e))
      have HK8 := Lib.hid (show BoxAt w8 k #[.int .i64 2, .string name] 105 from (hgrow.block k (HK.out.alloc _).lt (fun e => by cases e)).trans (HK.out.alloc _))
      clear hown hgrow hwh hO hcs
      go_wp2
      go_roundw
      case rel =>
        refine .inr ⟨by go_num, Lib.hid HB8.out, G, cap, k, rfl, hlG1, hlG2, Lib.hid ?_, Lib.hid HK8.out⟩
        intro i y hy
        obtain ⟨g', e, -, hc⟩ := HCs.out
        cases e
        have := hc 0 () i y rfl hy
        rw [Nat.zero_mul, Nat.zero_add] at this
        exact this
      case measure => simp [intOf]
    · go_wp2
      go_ret
      exact ⟨⟨G, cap, k, rfl, hG1, hG2, HO.out, HK.out⟩, HB.out⟩
end Go.Proofs.YtgdkpamlkpncgabGreatDoor
