/-
  Several texts put together (part 22): what the law and the program call, walked; their contracts.
-/
import Derived.Test.YthlccfjhgejlmaaDoorQ21
import Derived.Deep.RegionWith
import Derived.Deep.RegionHeld3
import Derived.Deep.RegionLaw
namespace Go.Proofs.YthlccfjhgejlmaaDoor
open Go.RowKit Go.Shelf
set_option linter.unusedVariables false
set_option linter.unusedSimpArgs false
def shortB (ss : List ByteArray) : Bool := ss.all (fun s => decide (s.size ≤ 60)) && decide (ss.length ≤ 20)
theorem shortB_of {ss : List ByteArray} (h : shortB ss = true) : (∀ s ∈ ss, s.size ≤ 60) ∧ ss.length ≤ 20 := by
  unfold shortB at h
  rw [Bool.and_eq_true, List.all_eq_true] at h
  exact ⟨fun s hs => of_decide_eq_true (h.1 s hs), of_decide_eq_true h.2⟩
set_option maxHeartbeats 4000000 in
set_option maxRecDepth 100000 in
theorem short_any (v : Value) (ss : List ByteArray) (w : World) (hin : SAt w v ss) (hn : ss.length ≤ maxLen) :
    Calls Tryd.prog 6 #[v] w fun e w' => e = .returned (.bool (shortB ss)) ∧ w' = w := by
  obtain ⟨A, c, rfl, hcs0⟩ := hin
  have HIn := Lib.hid hcs0
  have hn0 : (ss.length : Int) ≤ 9223372036854775807 := by unfold maxLen at hn; omega
  clear hcs0
  go_enter Tryd.func6, Tryd.ntmps6
  go_wp2
  go_loopw [7] (fun t7 wr => ∃ (i : Nat), t7 = .int .i64 i ∧ i ≤ ss.length ∧ Hid ((ss.take i).all (fun s => decide (s.size ≤ 60)) = true) ∧ wr = w) (fun t7 _ => ss.length - (intOf t7).toNat)
  case atStart => exact ⟨0, rfl, Nat.zero_le _, Lib.hid rfl, rfl⟩
  case round =>
    obtain ⟨i, rfl, hi, HE, rfl⟩ := hrel
    have hi0 : (i : Int) ≤ 9223372036854775807 := by omega
    by_cases hlt : i < ss.length
    · have f1 : decide ((i : Int) < (ss.length : Int)) = true := decide_eq_true (by omega)
      have f2 : (i : Int) < (ss.length : Int) := by omega
      obtain ⟨b, o, rfl, hb, hcs⟩ := HIn.out (by omega)
      have hk0 := hcs i hlt
      rw [List.getElem?_eq_getElem hlt, Option.getD_some] at hk0
      have htk : ss.take (i + 1) = ss.take i ++ [ss[i]] := List.take_succ_eq_append_getElem hlt
      have HMem := Lib.hid (List.getElem_mem hlt)
      generalize ss[i] = s at *
      have HTk := Lib.hid htk
      clear htk hcs
      by_cases hs : s.size ≤ 60
      · have g1 : decide ((60 : Int) < (s.size : Int)) = false := decide_eq_false (by omega)
        have HE2 := Lib.hid (show (ss.take (i + 1)).all (fun s => decide (s.size ≤ 60)) = true by rw [HTk.out, List.all_append, HE.out]; simp [hs])
        go_wp2
        exact ⟨⟨i + 1, by go_num, hlt, HE2, trivial⟩, by simp [intOf]; omega⟩
      · have g1 : decide ((60 : Int) < (s.size : Int)) = true := decide_eq_true (by omega)
        have HF := Lib.hid (show shortB ss = false by
          unfold shortB
          have : ss.all (fun s => decide (s.size ≤ 60)) = false := by
            rw [List.all_eq_false]
            exact ⟨s, HMem.out, by simp; omega⟩
          rw [this]; rfl)
        go_wp2
        go_ret
        exact ⟨by rw [HF.out]; rfl, rfl⟩
    · obtain rfl : i = ss.length := by omega
      have f1 : decide ((ss.length : Int) < (ss.length : Int)) = false := decide_eq_false (by omega)
      have HF := Lib.hid (show shortB ss = decide ((ss.length : Int) ≤ 20) by
        unfold shortB
        have := HE.out
        rw [List.take_length] at this
        rw [this, Bool.true_and]
        apply decide_eq_decide.2
        omega)
      go_wp2
      go_ret
      exact ⟨by rw [HF.out]; rfl, rfl⟩
def hDe : TagT := ⟨[100, 101], [], [], []⟩
def hEn : TagT := ⟨[101, 110], [], [], []⟩
def hD3 : TagT := ⟨[100, 101], [], [65, 84], [[49, 57, 57, 54]]⟩
def hDat : TagT := ⟨[100, 101], [], [65, 84], []⟩
theorem hEn_of : tagOf (splitH (⟨#[101, 110]⟩ : ByteArray).data.toList) = some hEn := by rfl
theorem hEn_ok : hEn.Ok := TagT.Ok.of hEn_of (by decide)
theorem head_there : tagsOf [⟨#[100, 101]⟩, ⟨#[101, 110]⟩, ⟨#[120, 33]⟩, ⟨#[100, 101, 45, 65, 84, 45, 49, 57, 57, 54]⟩] = [hDe, hEn, hD3] := by rfl
theorem head_wish : tagsOf [⟨#[100, 101, 45, 97, 116]⟩] = [hDat] := by rfl
theorem head_chain : (chainU [hDat] [hDe, hEn, hD3] hEn).map TagT.text = [[100, 101, 45, 65, 84, 45, 49, 57, 57, 54], [100, 101], [101, 110]] := by rfl
set_option maxHeartbeats 8000000 in
set_option maxRecDepth 100000 in
theorem head11_any (w : World) (hM : MaxAt w) : Calls Tryd.prog 5 #[] w fun e w' => e = .returned (.bool true) ∧ Below w.heap.size w w' := by
  have HM := Lib.hid hM
  have hb1 : Below w.heap.size w (w.alloc (.cells #[.string ⟨#[100, 101]⟩, .string ⟨#[101, 110]⟩, .string ⟨#[120, 33]⟩, .string ⟨#[100, 101, 45, 65, 84, 45, 49, 57, 57, 54]⟩] 9)) := (Below.refl _ _).alloc (Nat.le_refl _) _
  have HT := Lib.hid (tags_any (.slice (some ⟨w.heap.size, 0, none⟩) 4 4) [⟨#[100, 101]⟩, ⟨#[101, 110]⟩, ⟨#[120, 33]⟩, ⟨#[100, 101, 45, 65, 84, 45, 49, 57, 57, 54]⟩] _ (box_strs w [⟨#[100, 101]⟩, ⟨#[101, 110]⟩, ⟨#[120, 33]⟩, ⟨#[100, 101, 45, 65, 84, 45, 49, 57, 57, 54]⟩] _ rfl (BoxAt.new w #[.string ⟨#[100, 101]⟩, .string ⟨#[101, 110]⟩, .string ⟨#[120, 33]⟩, .string ⟨#[100, 101, 45, 65, 84, 45, 49, 57, 57, 54]⟩] 9) 4) (by decide) (by decide) (hM.on hb1))
  have HB1 := Lib.hid hb1
  clear hM hb1
  go_enter Tryd.func5, Tryd.ntmps5
  go_wp2_with fail
  go_at_call 9
  refine HT.out.mono ?_
  rintro e w2 ⟨u1, gs, rfl, ho1, hm1, ha1, b2⟩
  rw [head_there] at hm1
  have hl1 : gs.length = 3 := by have := congrArg List.length hm1; simpa using this
  have hat1 := ho1.at_
  obtain ⟨A1, c1, rfl, _⟩ := ho1.slice
  rw [hl1] at hat1 ⊢
  have HB2 := Lib.hid (HB1.out.trans (b2.mono HB1.out.size))
  have HA := Lib.hid ha1
  have HAt := Lib.hid hat1
  have HMp := Lib.hid hm1
  clear ho1 hm1 ha1 hat1 b2 HT HB1
  go_wp2_with fail
  go_at_call 7
  refine (ParseY.of (by decide) (HM.out.on HB2.out) hEn_of).at_.mono ?_
  rintro e w3 ⟨A2, c2, rfl, v2, b3⟩
  have HX3 := Lib.hid (show TG.At w3 (⟨hEn, A2, c2⟩ : TG) from ⟨hEn_ok, v2⟩)
  have HB3 := Lib.hid (HB2.out.trans (b3.mono HB2.out.size))
  have HA3 := Lib.hid (fun y hy => (HA.out y hy).later b3)
  have HAt3 := Lib.hid (HAt.out.later b3)
  clear v2 b3 HA HAt HB2
  go_upto_region 5 with fail
  have hk : BoxAt (w3.alloc (.cells #[.string (mk hEn.L), .string (mk hEn.S), .string (mk hEn.R), .slice A2 hEn.vs.length c2] 26)) w3.heap.size #[.string (mk hEn.L), .string (mk hEn.S), .string (mk hEn.R), .slice A2 hEn.vs.length c2] 26 := BoxAt.new _ _ _
  have hV : Below w3.heap.size w3 (w3.alloc (.cells #[.string (mk hEn.L), .string (mk hEn.S), .string (mk hEn.R), .slice A2 hEn.vs.length c2] 26)) := (Below.refl _ _).alloc (Nat.le_refl _) _
  generalize w3.alloc (.cells #[.string (mk hEn.L), .string (mk hEn.S), .string (mk hEn.R), .slice A2 hEn.vs.length c2] 26) = W0 at *
  have HX0 := Lib.hid (HX3.out.later hV)
  have HA0 := Lib.hid (fun y hy => (HA3.out y hy).later hV)
  have HAt0 := Lib.hid (HAt3.out.later hV)
  have HB0 := Lib.hid (HB3.out.trans (hV.mono HB3.out.size))
  clear hV HX3 HA3 HAt3 HB3
  generalize w3.heap.size = k at *
  have HK := Lib.hid hk
  have s0 : W0.cell? ⟨k, 0, none⟩ = some (.string (mk hEn.L)) := hk.cell 0
  have s1 : W0.cell? ⟨k, 1, none⟩ = some (.string (mk hEn.S)) := hk.cell 1
  have s2 : W0.cell? ⟨k, 2, none⟩ = some (.string (mk hEn.R)) := hk.cell 2
  have s3 : W0.cell? ⟨k, 3, none⟩ = some (.slice A2 hEn.vs.length c2) := hk.cell 3
  have sz := hk.lt
  clear hk
  have HS := Lib.hid (show ∀ w', Below W0.heap.size W0 w' → (w'.cell? ⟨k, 0, none⟩ = some (.string (mk hEn.L)) ∧ w'.cell? ⟨k, 1, none⟩ = some (.string (mk hEn.S)) ∧ w'.cell? ⟨k, 2, none⟩ = some (.string (mk hEn.R)) ∧ w'.cell? ⟨k, 3, none⟩ = some (.slice A2 hEn.vs.length c2) ∧ k < w'.heap.size) from fun w' q => by
    have t := HK.out.later q
    exact ⟨t.cell 0, t.cell 1, t.cell 2, t.cell 3, t.lt⟩)
  go_region_held3 (fun w' => w'.cell? ⟨k, 0, none⟩ = some (.string (mk hEn.L)) ∧ w'.cell? ⟨k, 1, none⟩ = some (.string (mk hEn.S)) ∧ w'.cell? ⟨k, 2, none⟩ = some (.string (mk hEn.R)) ∧ w'.cell? ⟨k, 3, none⟩ = some (.slice A2 hEn.vs.length c2) ∧ k < w'.heap.size) (first | exact HS.out _ (by repeat' first | assumption | with_reducible exact Below.refl _ _ | with_reducible apply Below.drew | with_reducible apply below_box1)) (first
    | (go_at_call 9; refine (tags_any _ [⟨#[100, 101, 45, 97, 116]⟩] _ (by first | exact box_strs W0 [⟨#[100, 101, 45, 97, 116]⟩] _ rfl (BoxAt.new _ _ _) 1 | exact box_strs W0 [⟨#[100, 101, 45, 97, 116]⟩] _ rfl (BoxAt.new' _ _ _ _ (by simp)) 1 | exact box_strs W0 [⟨#[100, 101, 45, 97, 116]⟩] _ rfl ((BoxAt.new _ _ _).alloc _) 1) (by decide) (by decide) (HM.out.on (HB0.out.trans (Below.mono (by repeat' first | assumption | with_reducible exact Below.refl _ _ | with_reducible apply Below.drew | with_reducible apply below_box1) HB0.out.size)))).mono ?_; rintro e w4 ⟨u2, gw, rfl, ho2, hm2, ha2, b4⟩; rw [head_wish] at hm2; have q4 : Below W0.heap.size W0 w4 := below_step (by repeat' first | assumption | with_reducible exact Below.refl _ _ | with_reducible apply Below.drew | with_reducible apply below_box1) b4; (try first | (have hL4 := BoxAt.later (BoxAt.new _ #[.string ⟨#[100, 101, 45, 65, 84, 45, 49, 57, 57, 54]⟩, .string ⟨#[100, 101]⟩, .string ⟨#[101, 110]⟩] 9) b4; try simp only [World.size_alloc, World.size_drew] at hL4) | (have hL4 := BoxAt.later ((BoxAt.new _ #[.string ⟨#[100, 101, 45, 65, 84, 45, 49, 57, 57, 54]⟩, .string ⟨#[100, 101]⟩, .string ⟨#[101, 110]⟩] 9).alloc _) b4; try simp only [World.size_alloc, World.size_drew] at hL4) | (have hL4 := BoxAt.later (BoxAt.new _ #[.string ⟨#[100, 101, 45, 65, 84, 45, 49, 57, 57, 54]⟩, .string ⟨#[100, 101]⟩, .string ⟨#[101, 110]⟩] 9) (below_drew b4); try simp only [World.size_alloc, World.size_drew] at hL4) | (have hL4 := BoxAt.later ((BoxAt.new _ #[.string ⟨#[100, 101, 45, 65, 84, 45, 49, 57, 57, 54]⟩, .string ⟨#[100, 101]⟩, .string ⟨#[101, 110]⟩] 9).alloc _) (below_drew b4); try simp only [World.size_alloc, World.size_drew] at hL4)))
    | (go_at_call 8; refine (chain_any _ _ gw gs (⟨hEn, A2, c2⟩ : TG) _ (ho2.at_.later (by repeat' first | assumption | with_reducible exact Below.refl _ _ | with_reducible apply Below.drew | with_reducible apply below_box1)) (HAt0.out.later (by repeat' first | assumption | with_reducible exact Below.refl _ _ | with_reducible apply Below.drew | with_reducible apply below_box1)) (fun y hy => (ha2 y hy).later (by repeat' first | assumption | with_reducible exact Below.refl _ _ | with_reducible apply Below.drew | with_reducible apply below_box1)) (fun y hy => (HA0.out y hy).later (by repeat' first | assumption | with_reducible exact Below.refl _ _ | with_reducible apply Below.drew | with_reducible apply below_box1)) (HX0.out.later (by repeat' first | assumption | with_reducible exact Below.refl _ _ | with_reducible apply Below.drew | with_reducible apply below_box1)) (by have := congrArg List.length hm2; simp at this; omega) (by omega) (HM.out.on (HB0.out.trans (Below.mono (by repeat' first | assumption | with_reducible exact Below.refl _ _ | with_reducible apply Below.drew | with_reducible apply below_box1) HB0.out.size)))).mono ?_; rintro e w5 ⟨u5, g5, rfl, ho5, hm5, ha5, b5⟩; rw [chain_map, hm2, HMp.out] at hm5; have q5 : Below W0.heap.size W0 w5 := below_step (by repeat' first | assumption | with_reducible exact Below.refl _ _ | with_reducible apply Below.drew | with_reducible apply below_box1) b5; (try first | (have hL5 := BoxAt.later (BoxAt.new _ #[.string ⟨#[100, 101, 45, 65, 84, 45, 49, 57, 57, 54]⟩, .string ⟨#[100, 101]⟩, .string ⟨#[101, 110]⟩] 9) b5; try simp only [World.size_alloc, World.size_drew] at hL5) | (have hL5 := BoxAt.later ((BoxAt.new _ #[.string ⟨#[100, 101, 45, 65, 84, 45, 49, 57, 57, 54]⟩, .string ⟨#[100, 101]⟩, .string ⟨#[101, 110]⟩] 9).alloc _) b5; try simp only [World.size_alloc, World.size_drew] at hL5) | (have hL5 := BoxAt.later (BoxAt.new _ #[.string ⟨#[100, 101, 45, 65, 84, 45, 49, 57, 57, 54]⟩, .string ⟨#[100, 101]⟩, .string ⟨#[101, 110]⟩] 9) (below_drew b5); try simp only [World.size_alloc, World.size_drew] at hL5) | (have hL5 := BoxAt.later ((BoxAt.new _ #[.string ⟨#[100, 101, 45, 65, 84, 45, 49, 57, 57, 54]⟩, .string ⟨#[100, 101]⟩, .string ⟨#[101, 110]⟩] 9).alloc _) (below_drew b5); try simp only [World.size_alloc, World.size_drew] at hL5) | (have hL5 := BoxAt.later hL4 b5; try simp only [World.size_alloc, World.size_drew] at hL5) | (have hL5 := BoxAt.later hL4 (below_drew b5); try simp only [World.size_alloc, World.size_drew] at hL5)))
    | (go_at_call 13; refine (texts_any _ g5 _ (ho5.at_.later (by repeat' first | assumption | with_reducible exact Below.refl _ _ | with_reducible apply Below.drew | with_reducible apply below_box1)) (fun y hy => (ha5 y hy).later (by repeat' first | assumption | with_reducible exact Below.refl _ _ | with_reducible apply Below.drew | with_reducible apply below_box1)) (by have := congrArg List.length hm5; rw [List.length_map] at this; rw [this]; decide)).mono ?_; rintro e w6 ⟨u6, rfl, ho6, b6⟩; rw [show g5.map TG.text = (g5.map TG.t).map TagT.text by rw [List.map_map]; rfl, hm5, head_chain] at ho6; have q6 : Below W0.heap.size W0 w6 := below_step (by repeat' first | assumption | with_reducible exact Below.refl _ _ | with_reducible apply Below.drew | with_reducible apply below_box1) b6; (try first | (have hL6 := BoxAt.later (BoxAt.new _ #[.string ⟨#[100, 101, 45, 65, 84, 45, 49, 57, 57, 54]⟩, .string ⟨#[100, 101]⟩, .string ⟨#[101, 110]⟩] 9) b6; try simp only [World.size_alloc, World.size_drew] at hL6) | (have hL6 := BoxAt.later ((BoxAt.new _ #[.string ⟨#[100, 101, 45, 65, 84, 45, 49, 57, 57, 54]⟩, .string ⟨#[100, 101]⟩, .string ⟨#[101, 110]⟩] 9).alloc _) b6; try simp only [World.size_alloc, World.size_drew] at hL6) | (have hL6 := BoxAt.later (BoxAt.new _ #[.string ⟨#[100, 101, 45, 65, 84, 45, 49, 57, 57, 54]⟩, .string ⟨#[100, 101]⟩, .string ⟨#[101, 110]⟩] 9) (below_drew b6); try simp only [World.size_alloc, World.size_drew] at hL6) | (have hL6 := BoxAt.later ((BoxAt.new _ #[.string ⟨#[100, 101, 45, 65, 84, 45, 49, 57, 57, 54]⟩, .string ⟨#[100, 101]⟩, .string ⟨#[101, 110]⟩] 9).alloc _) (below_drew b6); try simp only [World.size_alloc, World.size_drew] at hL6) | (have hL6 := BoxAt.later hL5 b6; try simp only [World.size_alloc, World.size_drew] at hL6) | (have hL6 := BoxAt.later hL5 (below_drew b6); try simp only [World.size_alloc, World.size_drew] at hL6)))
    | (go_at_call 12; refine (same_any _ _ [[100, 101, 45, 65, 84, 45, 49, 57, 57, 54], [100, 101], [101, 110]] [[100, 101, 45, 65, 84, 45, 49, 57, 57, 54], [100, 101], [101, 110]] _ (ho6.sl.later (by repeat' first | assumption | with_reducible exact Below.refl _ _ | with_reducible apply Below.drew | with_reducible apply below_box1)) (by first | exact box_sl [[100, 101, 45, 65, 84, 45, 49, 57, 57, 54], [100, 101], [101, 110]] rfl (BoxAt.new _ _ _) 3 | exact box_sl [[100, 101, 45, 65, 84, 45, 49, 57, 57, 54], [100, 101], [101, 110]] rfl (by assumption) 3) (by decide) (by decide)).mono ?_; rintro e w7 ⟨rfl, b7⟩; have q7 : Below W0.heap.size W0 w7 := below_step (by repeat' first | assumption | with_reducible exact Below.refl _ _ | with_reducible apply Below.drew | with_reducible apply below_box1) b7))
  all_goals
    go_wp2_with fail
    go_ret
    exact ⟨rfl, HB0.out.trans (Below.mono (by repeat' first | assumption | with_reducible exact Below.refl _ _ | with_reducible apply Below.drew | with_reducible apply below_box1) HB0.out.size)⟩
end Go.Proofs.YthlccfjhgejlmaaDoor

namespace Go.Proofs.YthlccfjhgejlmaaDoor
open Go.RowKit Go.Shelf
set_option linter.unusedVariables false
set_option linter.unusedSimpArgs false
theorem onceU_head : ∀ (l acc : List TagT), acc ≠ [] → (onceU l acc).head? = acc.head?
  | [], acc, _ => rfl
  | x :: r, acc, h => by
    rw [onceU]
    split
    · exact onceU_head r acc h
    · rw [onceU_head r _ (by simp)]
      cases acc with
      | nil => exact absurd rfl h
      | cons a b => rfl
theorem onceU_first (x : TagT) (r : List TagT) : (onceU (x :: r) []).head? = some x := by
  rw [onceU, if_neg (by simp), onceU_head r _ (by simp)]
  rfl
theorem onceU_mem : ∀ (l acc : List TagT) (x : TagT), x ∈ onceU l acc → x ∈ acc ∨ x ∈ l
  | [], acc, x, h => .inl h
  | y :: r, acc, x, h => by
    rw [onceU] at h
    rcases onceU_mem r _ x h with h | h
    · split at h
      · exact .inl h
      · rcases List.mem_append.1 h with h | h
        · exact .inl h
        · rw [List.mem_singleton] at h; exact .inr (by rw [h]; exact List.mem_cons_self ..)
    · exact .inr (List.mem_cons_of_mem _ h)
theorem onceU_keep : ∀ (l acc : List TagT) (x : TagT), x ∈ acc → x ∈ onceU l acc
  | [], acc, x, h => h
  | y :: r, acc, x, h => by
    rw [onceU]
    apply onceU_keep r
    split
    · exact h
    · exact List.mem_append_left _ h
theorem onceU_has : ∀ (l acc : List TagT) (x : TagT), x ∈ l → ∃ y ∈ onceU l acc, y.text = x.text
  | [], acc, x, h => by cases h
  | y :: r, acc, x, h => by
    rw [onceU]
    rcases List.mem_cons.1 h with h | h
    · subst h
      split
      · next hin =>
        obtain ⟨z, hz, e⟩ := List.mem_map.1 hin
        exact ⟨z, onceU_keep r acc z hz, e⟩
      · exact ⟨x, onceU_keep r _ x (by simp), rfl⟩
    · exact onceU_has r _ x h
theorem onceU_nodup : ∀ (l acc : List TagT), (acc.map TagT.text).Nodup → ((onceU l acc).map TagT.text).Nodup
  | [], acc, h => h
  | y :: r, acc, h => by
    rw [onceU]
    apply onceU_nodup r
    split
    · exact h
    · next hn =>
      rw [List.map_append]
      rw [List.nodup_append]
      refine ⟨h, by simp, ?_⟩
      intro a ha b hb e
      simp at hb
      exact hn (by rw [← hb, ← e]; exact ha)
theorem pieces_of_text {a b : TagT} (ga : a.Good) (gb : b.Good) (h : a.text = b.text) : a.pieces = b.pieces := by
  rw [← split_text ga, ← split_text gb, h]
theorem text_of_pieces {a b : TagT} (h : a.pieces = b.pieces) : a.text = b.text := by
  show Lib.join a.pieces [45] = Lib.join b.pieces [45]
  rw [h]
theorem onceU_one (x : TagT) : onceU [x] [] = [x] := rfl
theorem chain_none (ts : List TagT) (x : TagT) : chainU [] ts x = [x] := rfl
theorem chain_first {ts : List TagT} {x l : TagT} (hg : x.Good) (ht : ∀ t ∈ ts, t.Good) (hx : x ∈ ts) : ∃ h r, chainU [x] ts l = h :: r ∧ h.text = x.text := by
  obtain ⟨y, hy, e⟩ := onceU_has ts [] x hx
  have hym : y ∈ ts := by rcases onceU_mem ts [] y hy with h | h; cases h; exact h
  have hp := pieces_of_text (ht y hym) hg e
  have hi : y ∈ IspU (onceU ts []) x.pieces := by
    unfold IspU
    rw [List.mem_filter]
    exact ⟨hy, by rw [hp]; exact beq_self_eq_true _⟩
  obtain ⟨h, r, he⟩ : ∃ h r, IspU (onceU ts []) x.pieces = h :: r := by
    cases hc : IspU (onceU ts []) x.pieces with
    | nil => rw [hc] at hi; cases hi
    | cons a b => exact ⟨a, b, rfl⟩
  have hh : h.pieces = x.pieces := by
    have : h ∈ IspU (onceU ts []) x.pieces := by rw [he]; exact List.mem_cons_self ..
    unfold IspU at this
    rw [List.mem_filter] at this
    simpa using this.2
  have hq : ∃ q, (onceU [x] []).flatMap (fun y => askU (onceU ts []) y.pieces) ++ [l] = h :: q := by
    rw [onceU_one]
    unfold askU
    simp only [List.flatMap_cons, List.flatMap_nil, List.append_nil]
    rw [he]
    exact ⟨_, rfl⟩
  obtain ⟨q, hq⟩ := hq
  have hf := onceU_first h q
  unfold chainU
  rw [hq]
  cases hc : onceU (h :: q) [] with
  | nil => rw [hc] at hf; cases hf
  | cons a b =>
    rw [hc] at hf
    simp at hf
    exact ⟨a, b, rfl, by rw [hf]; exact text_of_pieces hh⟩
theorem tagsOf_good {ss : List ByteArray} : ∀ t ∈ tagsOf ss, t.Good := by
  intro t ht
  unfold tagsOf at ht
  obtain ⟨s, _, h⟩ := List.mem_filterMap.1 ht
  exact tagOf_good h
theorem tgs_nil (W : World) : TgsAt W (.slice none 0 0) [] := ⟨none, 0, rfl, Nat.le_refl _, fun h => by simp at h⟩
theorem tgs_one {W : World} {b : Nat} {x : TG} (h : TgBox W b x) : TgsAt W (.slice (some ⟨b, 0, none⟩) 1 1) [x] := by
  refine ⟨_, _, rfl, Nat.le_refl _, fun _ => ⟨b, rfl, BoxAt.lt h, fun j y hy => ?_⟩⟩
  match j, hy with
  | 0, hy =>
    simp at hy
    subst hy
    rw [Nat.zero_mul]
    exact h.cells
end Go.Proofs.YthlccfjhgejlmaaDoor

namespace Go.Proofs.YthlccfjhgejlmaaDoor
open Go.RowKit Go.Shelf
set_option linter.unusedVariables false
set_option linter.unusedSimpArgs false
set_option maxHeartbeats 16000000 in
set_option maxRecDepth 100000 in
theorem first_law (s0 s2 : ByteArray) (v : Value) (ss : List ByteArray) (w : World) (hin : SAt w v ss) (hn : ss.length ≤ maxLen) (hM : MaxAt w) :
    Calls Tryd.prog 4 #[.string s0, v, .string s2] w fun e w' => e = .returned (.bool true) ∧ Below w.heap.size w w' := by
  have HM := Lib.hid hM
  have HIn := Lib.hid hin
  have HH := Lib.hid (head11_any w hM)
  clear hM hin
  by_cases hg : shortB ss = true ∧ s0.size ≤ 60 ∧ s2.size ≤ 60
  · obtain ⟨hb, h0, h2⟩ := hg
    have g0 : decide ((60 : Int) < (s0.size : Int)) = false := decide_eq_false (by omega)
    have g2 : decide ((60 : Int) < (s2.size : Int)) = false := decide_eq_false (by omega)
    obtain ⟨hsz, hsl⟩ := shortB_of hb
    have HSz := Lib.hid hsz
    have HHb := Lib.hid hb
    clear hb hsz
    obtain ⟨i0, hinf, hz0, hz1, hz2⟩ := info_parts infoTg
    cases ht0 : tagS s0 with
    | none =>
      have HT0 := Lib.hid ht0
      clear ht0
      cases ht2 : tagS s2 with
      | none =>
        have HT2 := Lib.hid ht2
        clear ht2
        go_enter Tryd.func4, Tryd.ntmps4
        go_wp2_with fail
        go_at_call 5
        refine HH.out.mono ?_
        rintro e w1 ⟨rfl, b1⟩
        have HB1 := Lib.hid b1
        have HSh := Lib.hid (short_any v ss w1 (HIn.out.later b1) hn)
        clear b1
        go_wp2_with fail
        go_at_call 6
        refine HSh.out.mono ?_
        rw [HHb.out]
        rintro e w1' ⟨rfl, rfl⟩
        go_wp2_with fail
        go_at_call 7
        refine (ParseN.of (by omega) (HM.out.on HB1.out) HT0.out).at_.mono ?_
        rintro e w2 ⟨rfl, b2⟩
        have HB2 := Lib.hid (below_box1 (below_step HB1.out b2) zcells)
        clear b2
        go_wp2_with fail
        go_at_call 7
        refine (ParseN.of (by omega) (HM.out.on HB2.out) HT2.out).at_.mono ?_
        rintro e w3 ⟨rfl, b3⟩
        have HB3 := Lib.hid (below_box1 (below_step HB2.out b3) zcells)
        clear b3
        go_wp2_with fail
        go_ret
        exact ⟨rfl, HB3.out⟩
      | some t2 =>
        have HT2 := Lib.hid ht2
        clear ht2
        go_enter Tryd.func4, Tryd.ntmps4
        go_wp2_with fail
        go_at_call 5
        refine HH.out.mono ?_
        rintro e w1 ⟨rfl, b1⟩
        have HB1 := Lib.hid b1
        have HSh := Lib.hid (short_any v ss w1 (HIn.out.later b1) hn)
        clear b1
        go_wp2_with fail
        go_at_call 6
        refine HSh.out.mono ?_
        rw [HHb.out]
        rintro e w1' ⟨rfl, rfl⟩
        go_wp2_with fail
        go_at_call 7
        refine (ParseN.of (by omega) (HM.out.on HB1.out) HT0.out).at_.mono ?_
        rintro e w2 ⟨rfl, b2⟩
        have HB2 := Lib.hid (below_box1 (below_step HB1.out b2) zcells)
        clear b2
        go_wp2_with fail
        go_at_call 7
        refine (ParseY.of (by omega) (HM.out.on HB2.out) HT2.out).at_.mono ?_
        rintro e w3 ⟨A2, c2, rfl, v2, b3⟩
        have HB3 := Lib.hid (below_box1 (below_step HB2.out b3) (.cells #[.string (mk t2.L), .string (mk t2.S), .string (mk t2.R), .slice A2 t2.vs.length c2] 26))
        clear b3 v2
        go_wp2_with fail
        go_ret
        exact ⟨rfl, HB3.out⟩
    | some t0 =>
      have HT0 := Lib.hid ht0
      have HOk0 := Lib.hid (TagT.Ok.of ht0 (by have : s0.data.toList.length = s0.size := by simp
                                               omega))
      clear ht0
      cases ht2 : tagS s2 with
      | none =>
        have HT2 := Lib.hid ht2
        clear ht2
        go_enter Tryd.func4, Tryd.ntmps4
        go_wp2_with fail
        go_at_call 5
        refine HH.out.mono ?_
        rintro e w1 ⟨rfl, b1⟩
        have HB1 := Lib.hid b1
        have HSh := Lib.hid (short_any v ss w1 (HIn.out.later b1) hn)
        clear b1
        go_wp2_with fail
        go_at_call 6
        refine HSh.out.mono ?_
        rw [HHb.out]
        rintro e w1' ⟨rfl, rfl⟩
        go_wp2_with fail
        go_at_call 7
        refine (ParseY.of (by omega) (HM.out.on HB1.out) HT0.out).at_.mono ?_
        rintro e w2 ⟨A0, c0, rfl, v0, b2⟩
        obtain ⟨x, hx⟩ : ∃ x : TG, x = ⟨t0, A0, c0⟩ := ⟨_, rfl⟩
        obtain ⟨rfl, rfl, rfl⟩ : x.t = t0 ∧ x.A = A0 ∧ x.c = c0 := by rw [hx]; exact ⟨rfl, rfl, rfl⟩
        have HX2 := Lib.hid (show x.At w2 from ⟨HOk0.out, v0⟩)
        have HB2 := Lib.hid (below_box1 (below_step HB1.out b2) (tgObj x))
        have HBq := Lib.hid (below_step HB1.out b2)
        clear b2 v0 hx
        go_wp2_with fail
        go_at_call 7
        refine (ParseN.of (by omega) (HM.out.on HB2.out) HT2.out).at_.mono ?_
        rintro e w3 ⟨rfl, b3⟩
        have HB3 := Lib.hid (below_box1 (below_step HB2.out b3) zcells)
        clear b3
        go_wp2_with fail
        go_ret
        exact ⟨rfl, HB3.out⟩
      | some t2 =>
        have HT2 := Lib.hid ht2
        have HOk2 := Lib.hid (TagT.Ok.of ht2 (by have : s2.data.toList.length = s2.size := by simp
                                                 omega))
        clear ht2
        go_enter Tryd.func4, Tryd.ntmps4
        go_wp2_with fail
        go_at_call 5
        refine HH.out.mono ?_
        rintro e w1 ⟨rfl, b1⟩
        have HB1 := Lib.hid b1
        have HSh := Lib.hid (short_any v ss w1 (HIn.out.later b1) hn)
        clear b1
        go_wp2_with fail
        go_at_call 6
        refine HSh.out.mono ?_
        rw [HHb.out]
        rintro e w1' ⟨rfl, rfl⟩
        go_wp2_with fail
        go_at_call 7
        refine (ParseY.of (by omega) (HM.out.on HB1.out) HT0.out).at_.mono ?_
        rintro e w2 ⟨A0, c0, rfl, v0, b2⟩
        obtain ⟨x, hx⟩ : ∃ x : TG, x = ⟨t0, A0, c0⟩ := ⟨_, rfl⟩
        obtain ⟨rfl, rfl, rfl⟩ : x.t = t0 ∧ x.A = A0 ∧ x.c = c0 := by rw [hx]; exact ⟨rfl, rfl, rfl⟩
        have HX2 := Lib.hid (show x.At w2 from ⟨HOk0.out, v0⟩)
        have HB2 := Lib.hid (below_box1 (below_step HB1.out b2) (tgObj x))
        have HBq := Lib.hid (below_step HB1.out b2)
        clear b2 v0 hx
        go_wp2_with fail
        go_at_call 7
        refine (ParseY.of (by omega) (HM.out.on HB2.out) HT2.out).at_.mono ?_
        rintro e w3 ⟨A2, c2, rfl, v2, b3⟩
        obtain ⟨y, hy⟩ : ∃ y : TG, y = ⟨t2, A2, c2⟩ := ⟨_, rfl⟩
        obtain ⟨rfl, rfl, rfl⟩ : y.t = t2 ∧ y.A = A2 ∧ y.c = c2 := by rw [hy]; exact ⟨rfl, rfl, rfl⟩
        have hbx2 := below_box1 (Below.refl w2.heap.size w2) (tgObj x)
        have HX3 := Lib.hid ((HX2.out.later hbx2).later b3)
        have HY3 := Lib.hid (show y.At w3 from ⟨HOk2.out, v2⟩)
        have HTx := Lib.hid (show TgBox w3 w2.heap.size x from (show TgBox (w2.alloc (tgObj x)) w2.heap.size x from BoxAt.new _ _ _).later b3)
        have HB3 := Lib.hid (below_step HB2.out b3)
        clear b3 v2 hy hbx2
        go_upto_region 9 with fail
        have hk0 : TgBox (w3.alloc (tgObj y)) w2.heap.size x := BoxAt.alloc HTx.out _
        have hk2 : TgBox (w3.alloc (tgObj y)) w3.heap.size y := BoxAt.new _ _ _
        have hV := below_box1 (Below.refl w3.heap.size w3) (tgObj y)
        have HX0 := Lib.hid (HX3.out.later hV)
        have HY0 := Lib.hid (HY3.out.later hV)
        have HB0 := Lib.hid (HB3.out.trans (hV.mono HB3.out.size))
        clear HX3 HY3 HB3 HTx hV HB2 HX2 HBq HT0 HT2
        generalize w3.alloc (tgObj y) = W0 at *
        generalize w2.heap.size = k at *
        generalize w3.heap.size = m at *
        have HK0 := Lib.hid hk0
        have HK2 := Lib.hid hk2
        have HIn0 := Lib.hid (HIn.out.later HB0.out)
        obtain ⟨y0, y1, y2, y3⟩ := hk0.cells
        have yz := BoxAt.lt hk0
        clear hk0 hk2
        have HS := Lib.hid (show ∀ w', Below W0.heap.size W0 w' → (w'.cell? ⟨k, 0, none⟩ = some (.string (mk x.t.L)) ∧ w'.cell? ⟨k, 1, none⟩ = some (.string (mk x.t.S)) ∧ w'.cell? ⟨k, 2, none⟩ = some (.string (mk x.t.R)) ∧ w'.cell? ⟨k, 3, none⟩ = some (.slice x.A x.t.vs.length x.c) ∧ k < w'.heap.size) from fun w' q => by
          have t := TgBox.kept HK0.out q (BoxAt.lt HK0.out)
          exact ⟨t.cells.1, t.cells.2.1, t.cells.2.2.1, t.cells.2.2.2, BoxAt.lt t⟩)
        go_region_held3 (fun w' => w'.cell? ⟨k, 0, none⟩ = some (.string (mk x.t.L)) ∧ w'.cell? ⟨k, 1, none⟩ = some (.string (mk x.t.S)) ∧ w'.cell? ⟨k, 2, none⟩ = some (.string (mk x.t.R)) ∧ w'.cell? ⟨k, 3, none⟩ = some (.slice x.A x.t.vs.length x.c) ∧ k < w'.heap.size) (first | exact HS.out _ (by repeat' first | assumption | with_reducible exact Below.refl _ _ | with_reducible apply Below.drew | with_reducible apply below_box1) | exact HS.out _ q9) (first
          | (go_at_call 9; refine (tags_any2 v ss _ (HIn0.out.later (by repeat' first | assumption | with_reducible exact Below.refl _ _ | with_reducible apply Below.drew | with_reducible apply below_box1)) (by omega) (fun s hs => by have := HSz.out s hs; omega) (HM.out.on (HB0.out.trans (Below.mono (by repeat' first | assumption | with_reducible exact Below.refl _ _ | with_reducible apply Below.drew | with_reducible apply below_box1) HB0.out.size)))).mono ?_; rintro e w4 ⟨u4, gs, rfl, ho4, hm4, ha4, b4⟩; have q4 : Below W0.heap.size W0 w4 := below_step (by repeat' first | assumption | with_reducible exact Below.refl _ _ | with_reducible apply Below.drew | with_reducible apply below_box1) b4; have ho5 : OwnTg W0.heap.size w4 u4 gs := ownsRow_base' ho4 (by first | exact Nat.le_refl _ | (simp; done) | (simp; omega)); (have hgl : gs.length ≤ 20 := by have h1 := congrArg List.length hm4; have h2 := tagsOf_len ss; rw [List.length_map] at h1; omega); (try (have hL4 : TgBox w4 W0.heap.size x := by first | exact BoxAt.later (BoxAt.new W0 _ _) b4 | exact BoxAt.later (BoxAt.new W0 _ _) (below_drew b4))))
          | (refine step_append_wh rfl (.tmp 46) (.tmp 48) 29 rfl W0.heap.size 26 i0 zTg 4 72 Tryd.underlying29 hinf hz0 hz1 hz2 rfl (by decide) u4 gs.length (tgCells gs) (by simp [Act.eval, Act.put]) (World.ownsRow.alloc ho5 (tgObj x)) ⟨w4.heap.size, 0, none⟩ 1 1 x.cells (by simp [Act.eval, Act.put]) rfl ((show TgBox (w4.alloc (tgObj x)) w4.heap.size x from BoxAt.new _ _ _).news) (tgOne x) (by unfold maxLen; omega) (by omega) (by have := q4.size; first | exact this | (simp; omega)) (by decide) ?_; intro v9 w9 hown9 hgrow9 hwh9; have q9 : Below W0.heap.size W0 w9 := Below.grown (below_box1 q4 (tgObj x)) hgrow9 (by have := q4.size; first | exact this | (simp; omega)) (fun k e => (World.ownsRow.lt ho5 k e).1); have ag9 : ∀ z ∈ gs, z.At w9 := fun z hz => ((ha4 z hz).1.later (below_box1 (Below.refl _ _) (tgObj x))).grown hgrow9 (ha4 z hz).2)
          | (refine step_append_wh rfl (.tmp 46) (.tmp 48) 29 rfl W0.heap.size 26 i0 zTg 4 72 Tryd.underlying29 hinf hz0 hz1 hz2 rfl (by decide) u4 gs.length (tgCells gs) (by simp [Act.eval, Act.put]) (ho5) ⟨W0.heap.size, 0, none⟩ 1 1 x.cells (by simp [Act.eval, Act.put]) rfl (hL4.news) (tgOne x) (by unfold maxLen; omega) (by omega) (by have := q4.size; first | exact this | (simp; omega)) (by decide) ?_; intro v9 w9 hown9 hgrow9 hwh9; have q9 : Below W0.heap.size W0 w9 := Below.grown (q4) hgrow9 (by have := q4.size; first | exact this | (simp; omega)) (fun k e => (World.ownsRow.lt ho5 k e).1); have ag9 : ∀ z ∈ gs, z.At w9 := fun z hz => ((ha4 z hz).1).grown hgrow9 (ha4 z hz).2))
        all_goals
          have hB9 : Below W0.heap.size W0 w9 := q9
          have HB9 := Lib.hid (HB0.out.trans (hB9.mono HB0.out.size))
          have HAl := Lib.hid (show TgsAt w9 v9 (gs ++ [x]) from (OwnTg.push (B := W0.heap.size) hown9).at_)
          have HAg := Lib.hid (show ∀ z ∈ gs ++ [x], z.At w9 from fun z hz => by
            rcases List.mem_append.1 hz with h | h
            · exact ag9 z h
            · rw [List.mem_singleton] at h; rw [h]; exact HX0.out.later hB9)
          have HMp := Lib.hid hm4
          have HX9 := Lib.hid (HX0.out.later hB9)
          have HY9 := Lib.hid (HY0.out.later hB9)
          have tk : TgBox w9 k x := TgBox.kept HK0.out hB9 yz
          have tm : TgBox w9 m y := TgBox.kept HK2.out hB9 (BoxAt.lt HK2.out)
          have HTk := Lib.hid tk
          have HTm := Lib.hid tm
          clear ho4 ha4 b4 q4 ho5 hown9 hgrow9 hwh9 q9 ag9 hm4 hB9 y0 y1 y2 y3 yz
          obtain ⟨p0, p1, p2, p3⟩ := tk.cells
          obtain ⟨r0, r1, r2, r3⟩ := tm.cells
          have pz := BoxAt.lt tk
          have rz := BoxAt.lt tm
          clear tk tm
          simp only [Nat.zero_add] at p1 p2 p3 r1 r2 r3
          go_wp2_with fail
          go_at_call 8
          have hn1 := below_box1 (Below.refl w9.heap.size w9) (tgObj x)
          refine (chain_any _ _ [x] (gs ++ [x]) y _ (tgs_one (show TgBox (w9.alloc (tgObj x)) w9.heap.size x from BoxAt.new _ _ _)) (HAl.out.later hn1) (fun z hz => by rw [List.mem_singleton] at hz; rw [hz]; exact HX9.out.later hn1) (fun z hz => (HAg.out z hz).later hn1) (HY9.out.later hn1) (by simp) (by rw [List.length_append]; simp; omega) (HM.out.on (HB9.out.trans (hn1.mono HB9.out.size)))).mono ?_
          rintro e w11 ⟨u11, g11, rfl, ho11, hm11, ha11, b11⟩
          have hB11 : Below w9.heap.size w9 w11 := below_step hn1 b11
          have HB11 := Lib.hid hB11
          have HO11 := Lib.hid ho11
          have HM11 := Lib.hid hm11
          have HA11 := Lib.hid ha11
          have tm : TgBox w11 m y := TgBox.kept HTm.out hB11 (BoxAt.lt HTm.out)
          clear p0 p1 p2 p3 r0 r1 r2 r3 pz rz ho11 hm11 ha11 b11 hB11 hn1
          obtain ⟨r0, r1, r2, r3⟩ := tm.cells
          have rz := BoxAt.lt tm
          clear tm
          simp only [Nat.zero_add] at r1 r2 r3
          go_wp2_with fail
          go_at_call 8
          refine (chain_any (.slice none 0 0) _ [] (gs ++ [x]) y w11 (tgs_nil _) (HAl.out.later HB11.out) (fun z hz => by cases hz) (fun z hz => (HAg.out z hz).later HB11.out) (HY9.out.later HB11.out) (by simp) (by rw [List.length_append]; simp; omega) (HM.out.on (HB9.out.trans (HB11.out.mono HB9.out.size)))).mono ?_
          rintro e w12 ⟨u12, g12, rfl, ho12, hm12, ha12, b12⟩
          clear r0 r1 r2 r3 rz
          have HB12 := Lib.hid (HB9.out.trans (((below_step HB11.out b12)).mono HB9.out.size))
          have h11 := HM11.out
          rw [chain_map, List.map_append, HMp.out] at h11
          obtain ⟨th, tr, hch, htx⟩ := chain_first (ts := tagsOf ss ++ [x.t]) (x := x.t) (l := y.t) HOk0.out.good (fun t ht => by
            rcases List.mem_append.1 ht with h | h
            · exact tagsOf_good t h
            · rw [List.mem_singleton] at h; rw [h]; exact HOk0.out.good) (by simp)
          have h11 : g11.map TG.t = th :: tr := h11.trans hch
          obtain ⟨a, ar, rfl⟩ : ∃ a r, g11 = a :: r := by
            cases g11 with
            | nil => cases h11
            | cons a r => exact ⟨a, r, rfl⟩
          have ea : a.t.text = x.t.text := by
            rw [List.map_cons] at h11
            injection h11 with h1 _
            rw [h1]; exact htx
          rw [chain_map] at hm12
          have hm12 : g12.map TG.t = [y.t] := hm12.trans (chain_none _ _)
          obtain ⟨z, rfl⟩ : ∃ z, g12 = [z] := by
            cases g12 with
            | nil => cases hm12
            | cons z r =>
              rw [List.map_cons] at hm12
              injection hm12 with _ h2
              rw [List.map_eq_nil_iff] at h2
              exact ⟨z, by rw [h2]⟩
          have ez : z.t.text = y.t.text := by
            rw [List.map_cons] at hm12
            injection hm12 with h1 _
            rw [h1]
          obtain ⟨n1, hn1⟩ : ∃ n, (a :: ar).length = n + 1 := ⟨ar.length, rfl⟩
          have ho11' : OwnTg _ w12 u11 (a :: ar) := HO11.out.later b12
          obtain ⟨k1, c1, hu11⟩ := own_someN (n := ar.length) ho11'
          obtain ⟨k2, c2, hu12⟩ := own_someN (n := 0) ho12
          subst hu11 hu12
          have tA : Tg4 w12 k1 0 a ∧ k1 < w12.heap.size := by
            obtain ⟨A, c, e, _, h⟩ := ho11'.at_
            injection e with e1 _ _
            obtain ⟨b, e2, hb, hc⟩ := h (by simp)
            rw [← e1] at e2
            injection e2 with e3
            injection e3 with e4
            rw [e4]
            exact ⟨by have := hc 0 a rfl; rwa [Nat.zero_mul] at this, hb⟩
          have tZ : Tg4 w12 k2 0 z ∧ k2 < w12.heap.size := by
            obtain ⟨A, c, e, _, h⟩ := ho12.at_
            injection e with e1 _ _
            obtain ⟨b, e2, hb, hc⟩ := h (by simp)
            rw [← e1] at e2
            injection e2 with e3
            injection e3 with e4
            rw [e4]
            exact ⟨by have := hc 0 z rfl; rwa [Nat.zero_mul] at this, hb⟩
          have hB11 := below_step HB11.out b12
          have tk : TgBox w12 k x := TgBox.kept HTk.out hB11 (BoxAt.lt HTk.out)
          have tm : TgBox w12 m y := TgBox.kept HTm.out hB11 (BoxAt.lt HTm.out)
          have Ha := Lib.hid (show a.At w12 from (HA11.out a (List.mem_cons_self ..)).later b12)
          have Hx := Lib.hid (HX9.out.later hB11)
          have Hz := Lib.hid (show z.At w12 from ha12 z (List.mem_cons_self ..))
          have Hy := Lib.hid (HY9.out.later hB11)
          have tA1 := tA.1
          have tZ1 := tZ.1
          unfold Tg4 at tA1 tZ1
          simp only [Nat.zero_add] at tA1 tZ1
          have HS2 := Lib.hid (show ∀ w', Below w12.heap.size w12 w' → (w'.cell? ⟨k1, 0, none⟩ = some (.string (mk a.t.L)) ∧ w'.cell? ⟨k1, 1, none⟩ = some (.string (mk a.t.S)) ∧ w'.cell? ⟨k1, 2, none⟩ = some (.string (mk a.t.R)) ∧ w'.cell? ⟨k1, 3, none⟩ = some (.slice a.A a.t.vs.length a.c) ∧ k1 < w'.heap.size ∧ w'.cell? ⟨k, 0, none⟩ = some (.string (mk x.t.L)) ∧ w'.cell? ⟨k, 1, none⟩ = some (.string (mk x.t.S)) ∧ w'.cell? ⟨k, 2, none⟩ = some (.string (mk x.t.R)) ∧ w'.cell? ⟨k, 3, none⟩ = some (.slice x.A x.t.vs.length x.c) ∧ k < w'.heap.size ∧ w'.cell? ⟨k2, 0, none⟩ = some (.string (mk z.t.L)) ∧ w'.cell? ⟨k2, 1, none⟩ = some (.string (mk z.t.S)) ∧ w'.cell? ⟨k2, 2, none⟩ = some (.string (mk z.t.R)) ∧ w'.cell? ⟨k2, 3, none⟩ = some (.slice z.A z.t.vs.length z.c) ∧ k2 < w'.heap.size ∧ w'.cell? ⟨m, 0, none⟩ = some (.string (mk y.t.L)) ∧ w'.cell? ⟨m, 1, none⟩ = some (.string (mk y.t.S)) ∧ w'.cell? ⟨m, 2, none⟩ = some (.string (mk y.t.R)) ∧ w'.cell? ⟨m, 3, none⟩ = some (.slice y.A y.t.vs.length y.c) ∧ m < w'.heap.size) from fun w' q => by
            have q' := fun (b o : Nat) (v : Value) (hb : b < w12.heap.size) (hc : w12.cell? ⟨b, o, none⟩ = some v) => (q.cell (p := ⟨b, o, none⟩) hb).trans hc
            have tk := TgBox.kept tk q (BoxAt.lt tk)
            have tm := TgBox.kept tm q (BoxAt.lt tm)
            have sz := q.size
            exact ⟨q' _ _ _ tA.2 tA1.1, q' _ _ _ tA.2 tA1.2.1, q' _ _ _ tA.2 tA1.2.2.1, q' _ _ _ tA.2 tA1.2.2.2, by have := tA.2; omega, tk.cells.1, tk.cells.2.1, tk.cells.2.2.1, tk.cells.2.2.2, BoxAt.lt tk, q' _ _ _ tZ.2 tZ1.1, q' _ _ _ tZ.2 tZ1.2.1, q' _ _ _ tZ.2 tZ1.2.2.1, q' _ _ _ tZ.2 tZ1.2.2.2, by have := tZ.2; omega, tm.cells.1, tm.cells.2.1, tm.cells.2.2.1, tm.cells.2.2.2, BoxAt.lt tm⟩)
          have fl : (0 : Int) < ((ar.length + 1 : Nat) : Int) := by omega
          have fl2 : decide ((0 : Int) < ((ar.length + 1 : Nat) : Int)) = true := decide_eq_true (by omega)
          clear tk tm tA tZ tA1 tZ1 ho12 ha12 b12 hB11 h11 hm12 hch htx ho11' HO11 HA11 HM11 hn1
          have fl3 : decide ((0 : Int) < (ar.length : Int) + 1) = true := decide_eq_true (by omega)
          have fl4 : (0 : Int) < (ar.length : Int) + 1 := by omega
          go_upto_region 12 with fail
          go_region_held3 (fun w' => w'.cell? ⟨k1, 0, none⟩ = some (.string (mk a.t.L)) ∧ w'.cell? ⟨k1, 1, none⟩ = some (.string (mk a.t.S)) ∧ w'.cell? ⟨k1, 2, none⟩ = some (.string (mk a.t.R)) ∧ w'.cell? ⟨k1, 3, none⟩ = some (.slice a.A a.t.vs.length a.c) ∧ k1 < w'.heap.size ∧ w'.cell? ⟨k, 0, none⟩ = some (.string (mk x.t.L)) ∧ w'.cell? ⟨k, 1, none⟩ = some (.string (mk x.t.S)) ∧ w'.cell? ⟨k, 2, none⟩ = some (.string (mk x.t.R)) ∧ w'.cell? ⟨k, 3, none⟩ = some (.slice x.A x.t.vs.length x.c) ∧ k < w'.heap.size ∧ w'.cell? ⟨k2, 0, none⟩ = some (.string (mk z.t.L)) ∧ w'.cell? ⟨k2, 1, none⟩ = some (.string (mk z.t.S)) ∧ w'.cell? ⟨k2, 2, none⟩ = some (.string (mk z.t.R)) ∧ w'.cell? ⟨k2, 3, none⟩ = some (.slice z.A z.t.vs.length z.c) ∧ k2 < w'.heap.size ∧ w'.cell? ⟨m, 0, none⟩ = some (.string (mk y.t.L)) ∧ w'.cell? ⟨m, 1, none⟩ = some (.string (mk y.t.S)) ∧ w'.cell? ⟨m, 2, none⟩ = some (.string (mk y.t.R)) ∧ w'.cell? ⟨m, 3, none⟩ = some (.slice y.A y.t.vs.length y.c) ∧ m < w'.heap.size) (first | exact HS2.out _ (by repeat' first | assumption | with_reducible exact Below.refl _ _ | with_reducible apply Below.drew | with_reducible apply below_box1)) (first
            | (go_at_call 10; refine (stringG (Ha.out.later (by repeat' first | assumption | with_reducible exact Below.refl _ _ | with_reducible apply Below.drew | with_reducible apply below_box1))).mono ?_; rintro e w13 ⟨rfl, b13⟩; have q13 : Below w12.heap.size w12 w13 := below_step (by repeat' first | assumption | with_reducible exact Below.refl _ _ | with_reducible apply Below.drew | with_reducible apply below_box1) b13)
            | (go_at_call 10; refine (stringG (Hx.out.later (by repeat' first | assumption | with_reducible exact Below.refl _ _ | with_reducible apply Below.drew | with_reducible apply below_box1))).mono ?_; rintro e w13 ⟨rfl, b13⟩; have q13 : Below w12.heap.size w12 w13 := below_step (by repeat' first | assumption | with_reducible exact Below.refl _ _ | with_reducible apply Below.drew | with_reducible apply below_box1) b13)
            | (go_at_call 10; refine (stringG (Hz.out.later (by repeat' first | assumption | with_reducible exact Below.refl _ _ | with_reducible apply Below.drew | with_reducible apply below_box1))).mono ?_; rintro e w13 ⟨rfl, b13⟩; have q13 : Below w12.heap.size w12 w13 := below_step (by repeat' first | assumption | with_reducible exact Below.refl _ _ | with_reducible apply Below.drew | with_reducible apply below_box1) b13)
            | (go_at_call 10; refine (stringG (Hy.out.later (by repeat' first | assumption | with_reducible exact Below.refl _ _ | with_reducible apply Below.drew | with_reducible apply below_box1))).mono ?_; rintro e w13 ⟨rfl, b13⟩; have q13 : Below w12.heap.size w12 w13 := below_step (by repeat' first | assumption | with_reducible exact Below.refl _ _ | with_reducible apply Below.drew | with_reducible apply below_box1) b13))
          all_goals
            go_wp2_with fail
            go_ret
            exact ⟨rfl, HB12.out.trans (Below.mono (by repeat' first | assumption | with_reducible exact Below.refl _ _ | with_reducible apply Below.drew | with_reducible apply below_box1) HB12.out.size)⟩
  · have HG := Lib.hid hg
    clear hg
    by_cases hb : shortB ss = true
    · have HHb := Lib.hid hb
      clear hb
      by_cases h0 : s0.size ≤ 60
      · have g0 : decide ((60 : Int) < (s0.size : Int)) = false := decide_eq_false (by omega)
        have g2 : decide ((60 : Int) < (s2.size : Int)) = true := decide_eq_true (by have := HG.out; have hb := HHb.out; by_cases h2 : s2.size ≤ 60; exact absurd ⟨hb, h0, h2⟩ this; omega)
        go_enter Tryd.func4, Tryd.ntmps4
        go_wp2_with fail
        go_at_call 5
        refine HH.out.mono ?_
        rintro e w1 ⟨rfl, b1⟩
        have HB1 := Lib.hid b1
        have HSh := Lib.hid (short_any v ss w1 (HIn.out.later b1) hn)
        clear b1
        go_wp2_with fail
        go_at_call 6
        refine HSh.out.mono ?_
        rw [HHb.out]
        rintro e w1' ⟨rfl, rfl⟩
        go_wp2_with fail
        go_ret
        exact ⟨rfl, HB1.out⟩
      · have g0 : decide ((60 : Int) < (s0.size : Int)) = true := decide_eq_true (by omega)
        go_enter Tryd.func4, Tryd.ntmps4
        go_wp2_with fail
        go_at_call 5
        refine HH.out.mono ?_
        rintro e w1 ⟨rfl, b1⟩
        have HB1 := Lib.hid b1
        have HSh := Lib.hid (short_any v ss w1 (HIn.out.later b1) hn)
        clear b1
        go_wp2_with fail
        go_at_call 6
        refine HSh.out.mono ?_
        rw [HHb.out]
        rintro e w1' ⟨rfl, rfl⟩
        go_wp2_with fail
        go_ret
        exact ⟨rfl, HB1.out⟩
    · have HHb := Lib.hid (show shortB ss = false by simpa using hb)
      clear hb
      go_enter Tryd.func4, Tryd.ntmps4
      go_wp2_with fail
      go_at_call 5
      refine HH.out.mono ?_
      rintro e w1 ⟨rfl, b1⟩
      have HB1 := Lib.hid b1
      have HSh := Lib.hid (short_any v ss w1 (HIn.out.later b1) hn)
      clear b1
      go_wp2_with fail
      go_at_call 6
      refine HSh.out.mono ?_
      rw [HHb.out]
      rintro e w1' ⟨rfl, rfl⟩
      go_wp2_with fail
      go_ret
      exact ⟨rfl, HB1.out⟩
end Go.Proofs.YthlccfjhgejlmaaDoor
