/-
  Package plural: the first rule that holds.
-/
import Derived.Test.YtglennfjeacpoaaGreatDoorPl3
namespace Go.Proofs.YtglennfjeacpoaaGreatDoor
open Go.RowKit
set_option linter.unusedVariables false

structure Rule where
  kind : Int
  val : Value
  holds : ByteArray → Nat → Bool
/-- The kind of the first rule that holds. -/
def firstR : List Rule → ByteArray → Nat → Int
  | [], _, _ => 0
  | r :: R, s, k => if r.holds s k = true then r.kind else firstR R s k
/-- Rules in a block. -/
def RulesAt (W : World) (g : Nat) (R : List Rule) : Prop := g < W.heap.size ∧ ∀ j r, R[j]? = some r → W.cell? ⟨g, j * 2, none⟩ = some (.int .i64 r.kind) ∧ W.cell? ⟨g, j * 2 + 1, none⟩ = some r.val ∧ CondV r.val W r.holds
theorem RulesAt.later {W W1 : World} {g : Nat} {R : List Rule} (h : RulesAt W g R) (hb : Below W.heap.size W W1) : RulesAt W1 g R :=
  ⟨Nat.lt_of_lt_of_le h.1 hb.size, fun j r hr => by
    obtain ⟨a, b, c⟩ := h.2 j r hr
    exact ⟨(hb.cell (p := ⟨g, j * 2, none⟩) h.1).trans a, (hb.cell (p := ⟨g, j * 2 + 1, none⟩) h.1).trans b, c.later hb⟩⟩
set_option maxHeartbeats 2000000 in
theorem first_any (R : List Rule) (g cap : Nat) (n : Bool) (s : ByteArray) (k : Nat) (w : World) (hR : RulesAt w g R) (hl : R.length ≤ 100) (hg : GoodD s k) :
    Calls Tryz.prog 145 #[.slice (some ⟨g, 0, none⟩) R.length cap, dv n s k] w fun e w' => e = .returned (.int .i64 (firstR R s k)) ∧ Below w.heap.size w w' := by
  have HR := Lib.hid hR
  have Hg := Lib.hid hg
  obtain ⟨B, hB⟩ : ∃ B, firstR R s k = B := ⟨_, rfl⟩
  rw [hB]
  have HB := Lib.hid hB
  clear hR hg hB
  generalize hL : R.length = L at *
  have HL := Lib.hid hL
  clear hL
  unfold dv
  go_enter Tryz.func145, Tryz.ntmps145
  go_wp2_with fail
  go_loopw [6, 9] (fun _ t wr => ∃ j : Nat, t = .int .i64 j ∧ j ≤ L ∧ Hid (firstR (R.drop j) s k = B) ∧ Hid (Below (w.alloc (.cells #[.bool n, .string s, .int .i64 k] 23)).heap.size (w.alloc (.cells #[.bool n, .string s, .int .i64 k] 23)) wr)) (fun _ t _ => L - (intOf t).toNat)
  case atStart => exact ⟨0, rfl, Nat.zero_le _, HB, Lib.hid (Below.refl _ _)⟩
  case round =>
    obtain ⟨j, rfl, hj, hd, hb⟩ := hrel
    have hBox := hb.out
    obtain ⟨hcb, hfb⟩ := bcell hBox
    have hsz := hBox.size
    have hz : w.heap.size < wr.heap.size := by simp at hsz; omega
    by_cases hlt : j < L
    · have hjl : j < R.length := by rw [HL.out]; exact hlt
      have hdr : R.drop j = R[j] :: R.drop (j + 1) := List.drop_eq_getElem_cons hjl
      have hRw := HR.out.later (below_box (w := w) hBox)
      obtain ⟨c1, c2, ⟨N, caps, hv, he, hC⟩⟩ := hRw.2 j R[j] (List.getElem?_eq_getElem hjl)
      have hgl := hRw.1
      have hfr : firstR (R.drop j) s k = if R[j].holds s k = true then R[j].kind else firstR (R.drop (j + 1)) s k := by rw [hdr]; rfl
      rw [hv] at c2
      generalize R[j] = r at *
      obtain ⟨kind, val, holds⟩ := r
      dsimp only at *
      have HC := Lib.hid hC
      have Hfr := Lib.hid hfr
      have Hb := Lib.hid hBox
      clear hC hfr hdr hRw hv hBox hsz
      unfold Enters at he
      cases hp : holds s k
      · have Hp := Lib.hid hp
        clear hp
        go_wp2_with fail
        refine (HC.out _ ((Below.refl _ wr).alloc (Nat.le_refl _) _) n s k Hg.out).mono ?_
        rw [Hp.out]
        rintro e w2 ⟨rfl, h2⟩
        obtain ⟨hc2, hf2⟩ := bcell h2
        have hbw := below_box h2
        have HBW := Lib.hid (Hb.out.trans (hbw.mono Hb.out.size))
        clear h2 hbw
        go_wp2
        go_roundw
        case rel => exact ⟨j + 1, by go_num, by omega, Lib.hid (by rw [← hd.out, Hfr.out, if_neg (by rw [Hp.out]; decide)]), HBW⟩
        case measure => simp [intOf]; omega
      · have Hp := Lib.hid hp
        clear hp
        go_wp2_with fail
        refine (HC.out _ ((Below.refl _ wr).alloc (Nat.le_refl _) _) n s k Hg.out).mono ?_
        rw [Hp.out]
        rintro e w2 ⟨rfl, h2⟩
        obtain ⟨hc2, hf2⟩ := bcell h2
        have hbw := below_box h2
        have HBW := Lib.hid (Hb.out.trans (hbw.mono Hb.out.size))
        clear h2 hbw
        have Hk := Lib.hid (show B = kind by rw [← hd.out, Hfr.out, if_pos Hp.out])
        go_wp2
        go_ret
        exact ⟨ret_int Hk.out.symm, below_box HBW.out⟩
    · obtain rfl : j = L := by omega
      have hnil : R.drop j = [] := List.drop_eq_nil_of_le (by rw [HL.out]; exact Nat.le_refl _)
      have Hk := Lib.hid (show B = 0 by rw [← hd.out, hnil]; rfl)
      have HBx := Lib.hid hBox
      clear hnil hBox
      go_wp2
      go_ret
      exact ⟨ret_int Hk.out.symm, below_box HBx.out⟩
theorem first_nil (n : Bool) (s : ByteArray) (k : Nat) (w : World) :
    Calls Tryz.prog 145 #[.slice none 0 0, dv n s k] w fun e w' => e = .returned (.int .i64 0) ∧ Below w.heap.size w w' := by
  unfold dv
  go_enter Tryz.func145, Tryz.ntmps145
  go_wp2_with fail
  go_loop [6, 9] (fun _ t => t = .int .i64 0) (fun _ _ => 0)
  case atStart => rfl
  case round =>
    subst hrel
    go_wp2
    go_ret
    exact ⟨rfl, (Below.refl _ _).alloc (Nat.le_refl _) _⟩

/-- The cells of rules. -/
def cellsR (l : List Rule) : List Value := l.flatMap fun r => [.int .i64 r.kind, r.val]
theorem cellsR_at : ∀ (l : List Rule) (j : Nat) (r : Rule), l[j]? = some r → (cellsR l)[j * 2]? = some (.int .i64 r.kind) ∧ (cellsR l)[j * 2 + 1]? = some r.val
  | [], j, r, h => by simp at h
  | x :: l, 0, r, h => by
    simp at h
    subst h
    exact ⟨rfl, rfl⟩
  | x :: l, j + 1, r, h => by
    have := cellsR_at l j r (by simpa using h)
    have e : cellsR (x :: l) = .int .i64 x.kind :: x.val :: cellsR l := rfl
    rw [e, show (j + 1) * 2 = j * 2 + 1 + 1 by omega, show (j * 2 + 1 + 1 + 1) = (j * 2 + 1) + 1 + 1 by omega]
    exact this
theorem rulesAt_new (W : World) (cs : Array Value) (t : TypeId) (l : List Rule) (hcs : cs = (cellsR l).toArray) (hl : ∀ r ∈ l, CondV r.val W r.holds) : RulesAt (W.alloc (.cells cs t)) W.heap.size l := by
  subst hcs
  refine ⟨by simp, fun j r hr => ?_⟩
  obtain ⟨a, b⟩ := cellsR_at l j r hr
  refine ⟨?_, ?_, (hl r (List.mem_of_getElem? hr)).later ((Below.refl _ _).alloc (Nat.le_refl _) _)⟩
  · rw [World.cell?_alloc_new]; simpa using a
  · rw [World.cell?_alloc_new]; simpa using b
/-- A call hands back rules of which the first that holds is told by F. -/
def RulesEnd (F : ByteArray → Nat → Int) (e : Ending) (w' : World) : Prop :=
  (∃ g l, e = .returned (.slice (some ⟨g, 0, none⟩) l.length l.length) ∧ l.length ≤ 100 ∧ (∀ s k, firstR l s k = F s k) ∧ RulesAt w' g l) ∨ (e = .returned (.slice none 0 0) ∧ ∀ s k, F s k = 0)
def GivesR (f : FuncId) (args : Array Value) (w : World) (F : ByteArray → Nat → Int) : Prop := Calls Tryz.prog f args w fun e w' => RulesEnd F e w' ∧ Below w.heap.size w w'
end Go.Proofs.YtglennfjeacpoaaGreatDoor
