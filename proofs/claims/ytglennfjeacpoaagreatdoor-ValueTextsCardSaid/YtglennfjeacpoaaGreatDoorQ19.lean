/-
  Several texts put together (part 19): what the law and the program call, walked; their contracts.
-/
import Derived.Test.YtglennfjeacpoaaGreatDoorQ13
import Derived.Laws.EntriesVeiled
namespace Go.Proofs.YtglennfjeacpoaaGreatDoor
open Go.RowKit
set_option linter.unusedVariables false
theorem hmfP : ∀ (fn : Fn) (first cap : Array Value) (w : World), (Instr.makeFunc fn first cap).run Tryz.prog w = .ok (.func fn first cap) w := fun _ _ _ _ => rfl
theorem enters_scale : Enters 187 := fun args w => by go_simp
theorem enters_isWhole : Enters 183 := fun args w => by go_simp
theorem enters_always : Enters 188 := fun args w => by go_simp
def pScale (s : ByteArray) (k : Nat) : Bool := (k : Int) != 0
theorem cond_scale (W : World) : CondV (.func (.func 187) #[] #[]) W pScale := ⟨_, _, rfl, enters_scale, fun W1 _ n s k _ => hasScale_any n s k W1⟩
theorem cond_whole (W : World) : CondV (.func (.func 183) #[] #[]) W pWhole := ⟨_, _, rfl, enters_isWhole, fun W1 _ n s k hg => isWhole_any n s k W1 hg⟩
theorem cond_always (W : World) : CondV (.func (.func 188) #[] #[]) W (fun _ _ => true) := ⟨_, _, rfl, enters_always, fun W1 _ n s k hg => always_any n s k W1⟩
def GivesC (f : FuncId) (args : Array Value) (w : World) (p : ByteArray → Nat → Bool) : Prop := Calls Tryz.prog f args w fun e w' => ∃ v, e = .returned v ∧ CondV v w' p ∧ Below w.heap.size w w'
theorem not_gives {fa : Value} {p : ByteArray → Nat → Bool} (w : World) (ha : CondV fa w p) : GivesC 182 #[fa] w (fun s k => !p s k) := by
  have hmf := hmfP
  obtain ⟨N, caps, rfl, he, hC⟩ := ha
  have hA : Hid (CondV (.func (.func N) #[] caps) (w.alloc (.cells #[.func (.func N) #[] caps] 222)) (fun s k => p s k)) := Lib.hid (CondV.later ⟨N, caps, rfl, he, hC⟩ ((Below.refl _ w).alloc (Nat.le_refl _) _))
  clear he hC
  unfold GivesC
  go_enter Tryz.func182, Tryz.ntmps182
  go_wp2
  go_ret
  exact ⟨_, rfl, ⟨_, _, rfl, enters_not, not1_any w.heap.size _ (by simp) (by simp) hA.out⟩, (Below.refl _ _).alloc (Nat.le_refl _) _⟩
theorem both_gives {fa fb : Value} {p q : ByteArray → Nat → Bool} (w : World) (ha : CondV fa w p) (hb : CondV fb w q) : GivesC 186 #[fa, fb] w (fun s k => p s k && q s k) := by
  have hmf := hmfP
  obtain ⟨N, caps, rfl, he, hC⟩ := ha
  obtain ⟨N', caps', rfl, he', hC'⟩ := hb
  have B : Below w.heap.size w ((w.alloc (.cells #[.func (.func N) #[] caps] 222)).alloc (.cells #[.func (.func N') #[] caps'] 222)) := ((Below.refl _ w).alloc (Nat.le_refl _) _).alloc (by simp) _
  have hA := Lib.hid (CondV.later (p := fun s k => p s k) ⟨N, caps, rfl, he, hC⟩ B)
  have hB := Lib.hid (CondV.later (p := fun s k => q s k) ⟨N', caps', rfl, he', hC'⟩ B)
  have HB := Lib.hid B
  clear he hC he' hC' B
  unfold GivesC
  go_enter Tryz.func186, Tryz.ntmps186
  go_wp2
  go_ret
  exact ⟨_, rfl, ⟨_, _, rfl, enters_both, both1_any w.heap.size (w.heap.size + 1) _ (by simp) (by simp) (by simp; omega) (by simp) hA.out hB.out⟩, HB.out⟩
theorem three_boxes (w : World) (x y z : Int) (t : TypeId) :
    let W := ((w.alloc (.cells #[.int .i64 x] t)).alloc (.cells #[.int .i64 y] t)).alloc (.cells #[.int .i64 z] t)
    W.cell? ⟨w.heap.size, 0, none⟩ = some (.int .i64 x) ∧ W.cell? ⟨w.heap.size + 1, 0, none⟩ = some (.int .i64 y) ∧ W.cell? ⟨w.heap.size + 1 + 1, 0, none⟩ = some (.int .i64 z) ∧ W.heap.size = w.heap.size + 3 := by
  intro W
  refine ⟨?_, ?_, ?_, ?_⟩
  · show (((w.alloc _).alloc _).alloc _).cell? _ = _
    go_simp
  · show (((w.alloc _).alloc _).alloc _).cell? _ = _
    go_simp
  · show (((w.alloc _).alloc _).alloc _).cell? _ = _
    go_simp
  · show (((w.alloc _).alloc _).alloc _).heap.size = _
    simp
theorem last_gives (c : Nat) (lo hi : Int) (w : World) (h1 : 1 ≤ c) (h2 : c ≤ 2) : GivesC 185 #[.int .i64 c, .int .i64 lo, .int .i64 hi] w (pLast c lo hi) := by
  have hmf := hmfP
  unfold GivesC
  go_enter Tryz.func185, Tryz.ntmps185
  go_wp2
  go_ret
  obtain ⟨q1, q2, q3, q4⟩ := three_boxes w c lo hi 3
  exact ⟨_, rfl, ⟨_, _, rfl, enters_last, lastIn1_any c lo hi w.heap.size (w.heap.size + 1) (w.heap.size + 1 + 1) _ h1 h2 q1 q2 q3 (by omega) (by omega) (by omega)⟩, (((Below.refl _ w).alloc (Nat.le_refl _) _).alloc (by simp) _).alloc (by simp; omega) _⟩
def pIn (lo hi : Int) (s : ByteArray) (k : Nat) : Bool := decide ((trW s k).size ≤ 2) && pLast 2 lo hi s k
theorem in_gives (lo hi : Int) (w : World) : GivesC 184 #[.int .i64 lo, .int .i64 hi] w (pIn lo hi) := by
  have hmf := hmfP
  unfold GivesC
  go_enter Tryz.func184, Tryz.ntmps184
  go_wp2_with fail
  go_at_call 185
  refine (last_gives 2 lo hi _ (by omega) (by omega)).mono ?_
  rintro e w1 ⟨v, rfl, ⟨N, caps, rfl, he, hC⟩, hb⟩
  have hA := Lib.hid (CondV.later (p := fun s k => pLast 2 lo hi s k) ⟨N, caps, rfl, he, hC⟩ ((Below.refl _ w1).alloc (Nat.le_refl _) (.cells #[.func (.func N) #[] caps] 222)))
  have Hb := Lib.hid hb
  clear he hC hb
  go_wp2
  go_ret
  exact ⟨_, rfl, ⟨_, _, rfl, enters_whole, wholeIn1_any w1.heap.size _ (by simp) (by simp) hA.out⟩, below_new Hb.out (Nat.le_refl _) _⟩
end Go.Proofs.YtglennfjeacpoaaGreatDoor

namespace Go.Proofs.YtglennfjeacpoaaGreatDoor
open Go.RowKit
set_option linter.unusedVariables false
structure Rule where
  kind : Int
  val : Value
  holds : ByteArray → Nat → Bool
def firstR : List Rule → ByteArray → Nat → Int
  | [], _, _ => 0
  | r :: R, s, k => if r.holds s k = true then r.kind else firstR R s k
def RulesAt (W : World) (g : Nat) (R : List Rule) : Prop := g < W.heap.size ∧ ∀ j r, R[j]? = some r → W.cell? ⟨g, j * 2, none⟩ = some (.int .i64 r.kind) ∧ W.cell? ⟨g, j * 2 + 1, none⟩ = some r.val ∧ CondV r.val W r.holds
theorem RulesAt.later {W W1 : World} {g : Nat} {R : List Rule} (h : RulesAt W g R) (hb : Below W.heap.size W W1) : RulesAt W1 g R :=
  ⟨Nat.lt_of_lt_of_le h.1 hb.size, fun j r hr => by
    obtain ⟨a, b, c⟩ := h.2 j r hr
    exact ⟨(hb.cell (p := ⟨g, j * 2, none⟩) h.1).trans a, (hb.cell (p := ⟨g, j * 2 + 1, none⟩) h.1).trans b, c.later hb⟩⟩
set_option maxHeartbeats 2000000 in
theorem first_any (R : List Rule) (g cap : Nat) (n : Bool) (s : ByteArray) (k : Nat) (w : World) (hR : RulesAt w g R) (hl : R.length ≤ 100) (hg : GoodD s k) :
    Calls Tryz.prog 145 #[.slice (some ⟨g, 0, none⟩) R.length cap, dv n s k] w fun e w' => e = .returned (.int .i64 (firstR R s k)) ∧ Below w.heap.size w w' := by
  have HR := Lib.hid hR
  have Hg := Lib.hid hg
  obtain ⟨B, hB⟩ : ∃ B, firstR R s k = B := ⟨_, rfl⟩
  rw [hB]
  have HB := Lib.hid hB
  clear hR hg hB
  generalize hL : R.length = L at *
  have HL := Lib.hid hL
  clear hL
  unfold dv
  go_enter Tryz.func145, Tryz.ntmps145
  go_wp2_with fail
  go_loopw [6, 9] (fun _ t wr => ∃ j : Nat, t = .int .i64 j ∧ j ≤ L ∧ Hid (firstR (R.drop j) s k = B) ∧ Hid (Below (w.alloc (.cells #[.bool n, .string s, .int .i64 k] 23)).heap.size (w.alloc (.cells #[.bool n, .string s, .int .i64 k] 23)) wr)) (fun _ t _ => L - (intOf t).toNat)
  case atStart => exact ⟨0, rfl, Nat.zero_le _, HB, Lib.hid (Below.refl _ _)⟩
  case round =>
    obtain ⟨j, rfl, hj, hd, hb⟩ := hrel
    have hBox := hb.out
    obtain ⟨hcb, hfb⟩ := bcell hBox
    have hsz := hBox.size
    have hz : w.heap.size < wr.heap.size := by simp at hsz; omega
    by_cases hlt : j < L
    · have hjl : j < R.length := by rw [HL.out]; exact hlt
      have hdr : R.drop j = R[j] :: R.drop (j + 1) := List.drop_eq_getElem_cons hjl
      have hRw := HR.out.later (below_box (w := w) hBox)
      obtain ⟨c1, c2, ⟨N, caps, hv, he, hC⟩⟩ := hRw.2 j R[j] (List.getElem?_eq_getElem hjl)
      have hgl := hRw.1
      have hfr : firstR (R.drop j) s k = if R[j].holds s k = true then R[j].kind else firstR (R.drop (j + 1)) s k := by rw [hdr]; rfl
      rw [hv] at c2
      generalize R[j] = r at *
      obtain ⟨kind, val, holds⟩ := r
      dsimp only at *
      have HC := Lib.hid hC
      have Hfr := Lib.hid hfr
      have Hb := Lib.hid hBox
      clear hC hfr hdr hRw hv hBox hsz
      unfold Enters at he
      cases hp : holds s k
      · have Hp := Lib.hid hp
        clear hp
        go_wp2_with fail
        refine (HC.out _ ((Below.refl _ wr).alloc (Nat.le_refl _) _) n s k Hg.out).mono ?_
        rw [Hp.out]
        rintro e w2 ⟨rfl, h2⟩
        obtain ⟨hc2, hf2⟩ := bcell h2
        have hbw := below_box h2
        have HBW := Lib.hid (Hb.out.trans (hbw.mono Hb.out.size))
        clear h2 hbw
        go_wp2
        go_roundw
        case rel => exact ⟨j + 1, by go_num, by omega, Lib.hid (by rw [← hd.out, Hfr.out, if_neg (by rw [Hp.out]; decide)]), HBW⟩
        case measure => simp [intOf]; omega
      · have Hp := Lib.hid hp
        clear hp
        go_wp2_with fail
        refine (HC.out _ ((Below.refl _ wr).alloc (Nat.le_refl _) _) n s k Hg.out).mono ?_
        rw [Hp.out]
        rintro e w2 ⟨rfl, h2⟩
        obtain ⟨hc2, hf2⟩ := bcell h2
        have hbw := below_box h2
        have HBW := Lib.hid (Hb.out.trans (hbw.mono Hb.out.size))
        clear h2 hbw
        have Hk := Lib.hid (show B = kind by rw [← hd.out, Hfr.out, if_pos Hp.out])
        go_wp2
        go_ret
        exact ⟨ret_int Hk.out.symm, below_box HBW.out⟩
    · obtain rfl : j = L := by omega
      have hnil : R.drop j = [] := List.drop_eq_nil_of_le (by rw [HL.out]; exact Nat.le_refl _)
      have Hk := Lib.hid (show B = 0 by rw [← hd.out, hnil]; rfl)
      have HBx := Lib.hid hBox
      clear hnil hBox
      go_wp2
      go_ret
      exact ⟨ret_int Hk.out.symm, below_box HBx.out⟩
theorem first_nil (n : Bool) (s : ByteArray) (k : Nat) (w : World) :
    Calls Tryz.prog 145 #[.slice none 0 0, dv n s k] w fun e w' => e = .returned (.int .i64 0) ∧ Below w.heap.size w w' := by
  unfold dv
  go_enter Tryz.func145, Tryz.ntmps145
  go_wp2_with fail
  go_loop [6, 9] (fun _ t => t = .int .i64 0) (fun _ _ => 0)
  case atStart => rfl
  case round =>
    subst hrel
    go_wp2
    go_ret
    exact ⟨rfl, (Below.refl _ _).alloc (Nat.le_refl _) _⟩
def cellsR (l : List Rule) : List Value := l.flatMap fun r => [.int .i64 r.kind, r.val]
theorem cellsR_at : ∀ (l : List Rule) (j : Nat) (r : Rule), l[j]? = some r → (cellsR l)[j * 2]? = some (.int .i64 r.kind) ∧ (cellsR l)[j * 2 + 1]? = some r.val
  | [], j, r, h => by simp at h
  | x :: l, 0, r, h => by
    simp at h
    subst h
    exact ⟨rfl, rfl⟩
  | x :: l, j + 1, r, h => by
    have := cellsR_at l j r (by simpa using h)
    have e : cellsR (x :: l) = .int .i64 x.kind :: x.val :: cellsR l := rfl
    rw [e, show (j + 1) * 2 = j * 2 + 1 + 1 by omega, show (j * 2 + 1 + 1 + 1) = (j * 2 + 1) + 1 + 1 by omega]
    exact this
theorem rulesAt_new (W : World) (cs : Array Value) (t : TypeId) (l : List Rule) (hcs : cs = (cellsR l).toArray) (hl : ∀ r ∈ l, CondV r.val W r.holds) : RulesAt (W.alloc (.cells cs t)) W.heap.size l := by
  subst hcs
  refine ⟨by simp, fun j r hr => ?_⟩
  obtain ⟨a, b⟩ := cellsR_at l j r hr
  refine ⟨?_, ?_, (hl r (List.mem_of_getElem? hr)).later ((Below.refl _ _).alloc (Nat.le_refl _) _)⟩
  · rw [World.cell?_alloc_new]; simpa using a
  · rw [World.cell?_alloc_new]; simpa using b
def RulesEnd (F : ByteArray → Nat → Int) (e : Ending) (w' : World) : Prop :=
  (∃ g l, e = .returned (.slice (some ⟨g, 0, none⟩) l.length l.length) ∧ l.length ≤ 100 ∧ (∀ s k, firstR l s k = F s k) ∧ RulesAt w' g l) ∨ (e = .returned (.slice none 0 0) ∧ ∀ s k, F s k = 0)
def GivesR (f : FuncId) (args : Array Value) (w : World) (F : ByteArray → Nat → Int) : Prop := Calls Tryz.prog f args w fun e w' => RulesEnd F e w' ∧ Below w.heap.size w w'
end Go.Proofs.YtglennfjeacpoaaGreatDoor
