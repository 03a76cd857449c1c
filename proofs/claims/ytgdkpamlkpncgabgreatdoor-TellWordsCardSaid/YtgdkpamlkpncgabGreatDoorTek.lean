/-
  Package script: Decode gives what decD tells, and a row that is long enough.
-/
import Derived.Test.YtgdkpamlkpncgabGreatDoorSwk
namespace Go.Proofs.YtgdkpamlkpncgabGreatDoor
open Go.RowKit
set_option linter.unusedVariables false
set_option linter.unusedSimpArgs false

def GotD2 (w : World) (R : List ST × Nat × Int) (e : Ending) (w' : World) : Prop :=
  ∃ A c, e = .returned (.tuple #[.slice A R.1.length c, .int .i64 (R.2.1 : Nat), .int .i64 R.2.2]) ∧ Below w.heap.size w w' ∧ StsIn w' (Snc w.heap.size w') R.1 A ∧ R.1.length ≤ c
theorem OwnSt.cap {B : Nat} {W : World} {A : Option Addr} {n c : Nat} {l : List ST} (h : OwnSt B W (.slice A n c) l) : n ≤ c := by
  obtain ⟨xs, ho, -⟩ := h
  rcases ho.2 with ⟨e, _⟩ | ⟨g, cap, cur, e, hB, hg, hc, _⟩
  · cases e; exact Nat.le_refl _
  · cases e; exact hc
set_option maxHeartbeats 8000000 in
set_option maxRecDepth 100000 in
theorem decode_few2 {A : Option Addr} {c : Nat} {s : ByteArray} (w : World) (hE : Env w) (hs : s.size ≤ 262144) (hc : CvT (.slice A s.size c) s w) : Calls Tryz.prog 8 #[.slice A s.size c] w (GotD2 w (decG s.size (s.size + 1) [] s)) := by
  obtain ⟨i0, hi0, hz0, hz1, hz2⟩ := info_split infoSt
  obtain ⟨RES, hRES⟩ : ∃ R, decG s.size (s.size + 1) [] s = R := ⟨_, rfl⟩
  rw [hRES]
  have HRES := Lib.hid hRES
  have hs0 : (s.size : Int) ≤ 262144 := by omega
  have d1 : decide ((262144 : Int) < (s.size : Int)) = false := decide_eq_false (by omega)
  have d2 : ¬ (262144 : Int) < (s.size : Int) := by omega
  have HR0 := Lib.hid (show Rs w.heap.size (s, false) (w.alloc (.cells #[.string s, .bool false] 50)) from BoxAt.new _ _ _)
  have HE0 := Lib.hid (hE.b.alloc (.cells #[.string s, .bool false] 50))
  have HB0 := Lib.hid ((Below.refl w.heap.size w).alloc (Nat.le_refl _) (.cells #[.string s, .bool false] 50))
  unfold CvT at hc
  clear hRES hE
  go_enter Tryz.func8, Tryz.ntmps8
  go_wp2_with fail
  go_loopw [5] (fun t5 wr => ∃ (acc : List ST) (A : Option Addr) (c : Nat) (r : ByteArray), t5 = .slice A acc.length c ∧ acc.length ≤ 4096 ∧ r.size ≤ s.size ∧ Hid (decG s.size (r.size + 1) acc r = RES) ∧ Hid (Rs w.heap.size (r, false) wr) ∧ Hid (Below w.heap.size w wr) ∧ Hid (EnvB w.heap.size wr) ∧ Hid (OwnSt (w.heap.size + 1) wr (.slice A acc.length c) acc)) (fun _ wr => restAt wr w.heap.size)
  case atStart => exact ⟨[], none, 0, s, rfl, by simp, Nat.le_refl _, HRES, HR0, HB0, HE0, Lib.hid (OwnSt.nil _ _)⟩
  case round =>
    obtain ⟨acc, A, c, r, rfl, hal, hr, HG, HR, HB, HE, HO⟩ := hrel
    have hal0 : (acc.length : Int) ≤ 4096 := by omega
    have hr0 : (r.size : Int) ≤ (s.size : Int) := by omega
    have c0 := HR.out.c0
    have c1 := HR.out.c1
    dsimp only at c0 c1
    by_cases h0 : r.size = 0
    · have e0 : r.toList.isEmpty = true := by
        rw [Lib.toList_data, List.isEmpty_iff]
        exact List.eq_nil_of_length_eq_zero (by rw [size_data]; exact h0)
      have hG := HG.out
      rw [decG, if_pos h0] at hG
      subst hG
      clear h0
      go_wp2
      go_ret3
      obtain ⟨A', c', e', hl⟩ := HO.out.list
      cases e'
      exact ⟨A, c, rfl, HB.out, hl.carry fun b hb => ⟨⟨by have := hb.1; omega, hb.2⟩, rfl⟩, OwnSt.cap HO.out⟩
    · have e0 : r.toList.isEmpty = false := by
        rw [Lib.toList_data]
        cases hq : r.data.toList with
        | nil => exact absurd (by rw [← size_data, hq]; rfl) h0
        | cons _ _ => rfl
      have hsub : (0 : Int) ≤ (s.size : Int) - (r.size : Int) := by omega
      have hsub2 : (s.size : Int) - (r.size : Int) ≤ 262144 := by omega
      have hG := HG.out
      rw [decG, if_neg h0] at hG
      have HSt := Lib.hid (step_any (Nat.le_refl w.heap.size) (r, false) (by show r.size ≤ 4000000; omega) wr HR.out HE.out)
      have hsh : (stepG (r, false)).2.2 = false → (stepG (r, false)).2.1.size < r.size := stepG_shrinks
      have hok : (stepG (r, false)).2.2 = false → (stepG (r, false)).1.wishes.length ≤ 4000000 ∧ (stepG (r, false)).1.args.length ≤ 4000000 ∧ ∀ a ∈ (stepG (r, false)).1.args, a.text.size ≤ 4000000 := fun h => by
        refine ⟨(stepG_ok h (by omega)).1, (stepG_ok h (by omega)).2, ?_⟩
        rcases (rds_step.got h).2.1 with ⟨_, _, _, _, h4, _⟩ | ⟨_, _, _, _, _, h5, _⟩ | ⟨_, _, _, _, _, _, _, _, h8⟩
        · rw [h4]; intro a ha; cases ha
        · rw [h5]; intro a ha; cases ha
        · intro a ha; have := (h8 a ha).2.2; omega
      generalize stepG (r, false) = Q at *
      obtain ⟨x, r1, f1⟩ := Q
      dsimp only at hG hsh hok
      have HG1 := Lib.hid hG
      have HSh := Lib.hid hsh
      have HOk := Lib.hid hok
      unfold pt at HSt
      clear hG hsh hok h0
      have hat : ((s.size - r.size : Nat) : Int) = (s.size : Int) - (r.size : Int) := by omega
      have HAt := Lib.hid hat
      clear hat
      go_wp2_with fail
      go_at_call 12
      refine HSt.out.mono ?_
      rintro e w1 ⟨hr1, hk1, hE1, A1, n1, A2, n2, rfl, hst⟩
      have HR1 := Lib.hid (hr1.alloc (.cells (stA x A1 n1 A2 n2) 45))
      have HB1 := Lib.hid (HB.out.trans hk1.below)
      have HE1 := Lib.hid hE1
      have HS1 := Lib.hid hst
      have HK1 := Lib.hid hk1
      have hsz1 := hk1.size
      have hwr := HB.out.size
      have g1 := hr1.c1
      dsimp only at g1
      have hlt1 := hr1.lt
      clear hr1 hk1 hE1 hst
      unfold stA
      have B1 := Lib.hid (BoxAt.new w1 (stA x A1 n1 A2 n2) 45)
      unfold stA at HR1
      cases f1
      case true =>
        have hG := HG1.out
        rw [if_pos (.inl rfl)] at hG
        subst hG
        go_wp2
        go_ret3
        obtain ⟨A', c', e', hl⟩ := HO.out.list
        cases e'
        exact ⟨A, c, by rw [HAt.out]; rfl, HB1.out.alloc (by omega) _, hl.carry fun b hb => ⟨⟨by have := hb.1; omega, by have := hb.2; rw [World.size_alloc]; omega⟩, (Lib.alloc_old w1 _ b (by have := hb.2; omega)).trans (HK1.out.others b hb.2 (by have := hb.1; omega))⟩, OwnSt.cap HO.out⟩
      case false =>
        obtain ⟨k1, k2, k3⟩ := HOk.out rfl
        have hshr := HSh.out rfl
        have HRt := Lib.hid (fun W (g : Below w1.heap.size w1 W) => right_any x A1 A2 n1 n2 W (HE1.out.env.below g) (HS1.out.carry fun b hb => ⟨Nat.lt_of_lt_of_le hb.2 g.size, g.block b hb.2⟩) k1 k2 k3)
        obtain ⟨rb, hrb⟩ : ∃ b, rightS x = b := ⟨_, rfl⟩
        rw [hrb] at HRt
        have HRb := Lib.hid hrb
        unfold stA at HRt
        clear hrb k1 k2 k3
        go_wp2_with fail
        go_at_call 13
        refine (HRt.out _ ((Below.refl _ _).alloc (Nat.le_refl _) _)).mono ?_
        rintro e w2 ⟨rfl, hb2⟩
        have HB2 := Lib.hid ((HB1.out.alloc (by omega) (.cells #[.int .i64 x.kind, .string x.tag, .string x.bytes, .bool x.over, .slice A1 x.wishes.length n1, .string x.name, .string x.attr, .slice A2 x.args.length n2] 45)).trans (hb2.mono (by rw [World.size_alloc]; omega)))
        have HR2 := Lib.hid (HR1.out.later hb2)
        have B2 := Lib.hid (B1.out.later hb2)
        have HE2 := Lib.hid ((HE1.out.alloc (.cells #[.int .i64 x.kind, .string x.tag, .string x.bytes, .bool x.over, .slice A1 x.wishes.length n1, .string x.name, .string x.attr, .slice A2 x.args.length n2] 45)).later hb2)
        have HL2 := Lib.hid ((Below.refl w1.heap.size w1).alloc (Nat.le_refl _) (.cells #[.int .i64 x.kind, .string x.tag, .string x.bytes, .bool x.over, .slice A1 x.wishes.length n1, .string x.name, .string x.attr, .slice A2 x.args.length n2] 45) |>.trans (hb2.mono (by simp)))
        have HK2 := Lib.hid (HK1.out.trans (Kp.of_below HL2.out (by omega)))
        clear hb2
        cases rb
        case false =>
          have hG := HG1.out
          rw [if_pos (.inr HRb.out)] at hG
          subst hG
          go_wp2
          go_ret3
          obtain ⟨A', c', e', hl⟩ := HO.out.list
          cases e'
          exact ⟨A, c, by rw [HAt.out]; rfl, HB2.out, hl.carry fun b hb => ⟨⟨by have := hb.1; omega, by have := hb.2; have := HK2.out.size; omega⟩, HK2.out.others b hb.2 (by have := hb.1; omega)⟩, OwnSt.cap HO.out⟩
        case true =>
          have hG := HG1.out
          rw [if_neg (by rw [HRb.out]; simp)] at hG
          by_cases h4 : acc.length = 4096
          · rw [if_pos h4] at hG
            subst hG
            have q1 : ((acc.length : Int) == 4096) = true := by rw [h4]; rfl
            have q2 : (acc.length : Int) = 4096 := by omega
            have H4 := Lib.hid h4
            clear h4
            go_wp2
            go_ret3
            obtain ⟨A', c', e', hl⟩ := HO.out.list
            cases e'
            exact ⟨A, c, by rw [HAt.out]; first | rfl | (rw [q2]; rfl), HB2.out, hl.carry fun b hb => ⟨⟨by have := hb.1; omega, by have := hb.2; have := HK2.out.size; omega⟩, HK2.out.others b hb.2 (by have := hb.1; omega)⟩, OwnSt.cap HO.out⟩
          · rw [if_neg h4, decG_fuel s.size r.size (r1.size + 1) _ _ (by omega) (by omega)] at hG
            have HG2 := Lib.hid hG
            have q1 : ((acc.length : Int) == 4096) = false := by rw [beq_eq_false_iff_ne]; omega
            have q2 : ¬ (acc.length : Int) = 4096 := by omega
            have hl4 : acc.length + 1 ≤ 4096 := by omega
            clear h4 hG
            have HO2 := Lib.hid (HO.out.kp HK2.out (by omega))
            obtain ⟨xs, ho2, hz⟩ := HO2.out
            have Hz := Lib.hid hz
            have Hv := Lib.hid (fun k e => World.ownsRow.lt ho2 k e)
            obtain ⟨b0, b1, b2, b3, b4, b5, b6, b7, f0, f1, f2, f3, f4, f5, f6, f7⟩ := cellsB8 B2.out
            have hl2 := B2.out.lt
            have hsz2 := HK2.out.size
            have hown1 := ho2.alloc (.cells #[.int .i64 x.kind, .string x.tag, .string x.bytes, .bool x.over, .slice A1 x.wishes.length n1, .string x.name, .string x.attr, .slice A2 x.args.length n2] 45)
            have Hnew := Lib.hid (BoxAt.new w2 #[.int .i64 x.kind, .string x.tag, .string x.bytes, .bool x.over, .slice A1 x.wishes.length n1, .string x.name, .string x.attr, .slice A2 x.args.length n2] 45)
            clear ho2 hz
            go_wp2_with (at_builtin; refine wpList_append_where _ rfl _ _ 30 rfl (w.heap.size + 1) 45 i0 (.agg #[.int .i64 0, .string ⟨#[]⟩, .string ⟨#[]⟩, .bool false, .slice none 0 0, .string ⟨#[]⟩, .string ⟨#[]⟩, .slice none 0 0]) 8 128 Tryz.underlying30 hi0 hz0 hz1 hz2 rfl (by decide) (.slice A acc.length c) acc.length xs rfl hown1 ⟨w2.heap.size, 0, none⟩ 1 1 (stL x A1 n1 A2 n2) rfl rfl ?c1 ?c2 ?c3 ?c4 ?c5 ?c6 ?_)
            case c1 =>
              intro j u hj
              rw [addMid, Nat.zero_add, Hnew.out.cell j]
              simpa [stL] using hj
            case c2 => intro u hu; simp [stL] at hu; rcases hu with rfl | rfl | rfl | rfl | rfl | rfl | rfl | rfl <;> rfl
            case c3 => unfold maxLen; omega
            case c4 => omega
            case c5 => simp; omega
            case c6 => decide
            intro v' w8 hown' hgrow hwh
            have hrow : ∀ k, (Value.slice A acc.length c).ownBlock = some k → w.heap.size + 1 ≤ k ∧ k < wr.heap.size := fun k e => HO.out.lt k e
            have hW2 : Below w2.heap.size w2 (w2.alloc (.cells #[.int .i64 x.kind, .string x.tag, .string x.bytes, .bool x.over, .slice A1 x.wishes.length n1, .string x.name, .string x.attr, .slice A2 x.args.length n2] 45)) := (Below.refl _ _).alloc (Nat.le_refl _) _
            have hW2s : (w2.alloc (.cells #[.int .i64 x.kind, .string x.tag, .string x.bytes, .bool x.over, .slice A1 x.wishes.length n1, .string x.name, .string x.attr, .slice A2 x.args.length n2] 45)).heap.size = w2.heap.size + 1 := by simp
            have hR3 := HR2.out.later hW2
            have hB3 := HB2.out.trans (hW2.mono (by omega))
            have hE3 := HE2.out.later hW2
            have hz3 := SZip.carry (W' := w2.alloc (.cells #[.int .i64 x.kind, .string x.tag, .string x.bytes, .bool x.over, .slice A1 x.wishes.length n1, .string x.name, .string x.attr, .slice A2 x.args.length n2] 45)) (F' := fun b => Snc (w.heap.size + 1) (w2.alloc (.cells #[.int .i64 x.kind, .string x.tag, .string x.bytes, .bool x.over, .slice A1 x.wishes.length n1, .string x.name, .string x.attr, .slice A2 x.args.length n2] 45)) b ∧ some b ≠ (Value.slice A acc.length c).ownBlock) (fun b hb => ⟨⟨⟨hb.1.1, Nat.lt_of_lt_of_le hb.1.2 hW2.size⟩, hb.2⟩, hW2.block b hb.1.2⟩) _ _ Hz.out
            have hs3 := HS1.out.carry (W' := w2.alloc (.cells #[.int .i64 x.kind, .string x.tag, .string x.bytes, .bool x.over, .slice A1 x.wishes.length n1, .string x.name, .string x.attr, .slice A2 x.args.length n2] 45)) (F' := fun b => Snc (w.heap.size + 1) (w2.alloc (.cells #[.int .i64 x.kind, .string x.tag, .string x.bytes, .bool x.over, .slice A1 x.wishes.length n1, .string x.name, .string x.attr, .slice A2 x.args.length n2] 45)) b ∧ some b ≠ (Value.slice A acc.length c).ownBlock) (fun b hb => ⟨⟨⟨by have := hb.1; have := HR.out.lt; omega, by have := hb.2; have := HL2.out.size; omega⟩, fun e => by have := hrow b e.symm; have := hb.1; omega⟩, (hW2.block b (by have := hb.2; have := HL2.out.size; omega)).trans (HL2.out.block b hb.2)⟩)
            generalize (w2.alloc (.cells #[.int .i64 x.kind, .string x.tag, .string x.bytes, .bool x.over, .slice A1 x.wishes.length n1, .string x.name, .string x.attr, .slice A2 x.args.length n2] 45)) = W2 at *
            have hO8 := OwnSt.push hz3 hs3 hown' hgrow (by rw [hW2s]; exact hwh)
            have hb8 : Below (w.heap.size + 1) W2 w8 := (Below.refl _ _).grown hgrow (by omega) (fun k e => (hrow k e).1)
            have HR8 := Lib.hid (show Rs w.heap.size (r1, false) w8 from (hb8.block w.heap.size (by omega)).trans hR3)
            have HB8 := Lib.hid (hB3.trans (hb8.mono (by omega)))
            have HE8 := Lib.hid (hE3.step (hb8.mono (by omega)))
            have HO8 := Lib.hid hO8
            obtain ⟨gA, cA, rfl⟩ := own_some hown'
            clear hown' hgrow hwh hR3 hB3 hE3 hz3 hs3 hO8 hb8 hW2 hown1
            go_wp2
            go_roundw
            case rel =>
              refine ⟨acc ++ [x], some ⟨gA, 0, none⟩, cA, r1, ?_, ?_, ?_, Lib.hid HG2.out, HR8, HB8, HE8, Lib.hid ?_⟩
              · rw [List.length_append, List.length_singleton]
              · rw [List.length_append, List.length_singleton]; exact hl4
              · omega
              · rw [List.length_append, List.length_singleton]; exact HO8.out
            case measure =>
              rw [restAt_of HR8.out, restAt_of HR.out]
              exact hshr
end Go.Proofs.YtgdkpamlkpncgabGreatDoor
