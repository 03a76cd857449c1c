/-
  Several texts put together (part 22): what the law and the program call, walked; their contracts.
-/
import Derived.Test.YthlccfjhgejlmaaGreatDoorQ21
import Derived.Deep.RegionWith
import Derived.Deep.RegionHeld3
namespace Go.Proofs.YthlccfjhgejlmaaGreatDoor
open Go.RowKit Go.Shelf
set_option linter.unusedVariables false
set_option linter.unusedSimpArgs false
def shortB (ss : List ByteArray) : Bool := ss.all (fun s => decide (s.size ≤ 60)) && decide (ss.length ≤ 20)
theorem shortB_of {ss : List ByteArray} (h : shortB ss = true) : (∀ s ∈ ss, s.size ≤ 60) ∧ ss.length ≤ 20 := by
  unfold shortB at h
  rw [Bool.and_eq_true, List.all_eq_true] at h
  exact ⟨fun s hs => of_decide_eq_true (h.1 s hs), of_decide_eq_true h.2⟩
set_option maxHeartbeats 4000000 in
set_option maxRecDepth 100000 in
theorem short_any (v : Value) (ss : List ByteArray) (w : World) (hin : SAt w v ss) (hn : ss.length ≤ maxLen) :
    Calls Tryz.prog 5 #[v] w fun e w' => e = .returned (.bool (shortB ss)) ∧ w' = w := by
  obtain ⟨A, c, rfl, hcs0⟩ := hin
  have HIn := Lib.hid hcs0
  have hn0 : (ss.length : Int) ≤ 9223372036854775807 := by unfold maxLen at hn; omega
  clear hcs0
  go_enter Tryz.func5, Tryz.ntmps5
  go_wp2
  go_loopw [7] (fun t7 wr => ∃ (i : Nat), t7 = .int .i64 i ∧ i ≤ ss.length ∧ Hid ((ss.take i).all (fun s => decide (s.size ≤ 60)) = true) ∧ wr = w) (fun t7 _ => ss.length - (intOf t7).toNat)
  case atStart => exact ⟨0, rfl, Nat.zero_le _, Lib.hid rfl, rfl⟩
  case round =>
    obtain ⟨i, rfl, hi, HE, rfl⟩ := hrel
    have hi0 : (i : Int) ≤ 9223372036854775807 := by omega
    by_cases hlt : i < ss.length
    · have f1 : decide ((i : Int) < (ss.length : Int)) = true := decide_eq_true (by omega)
      have f2 : (i : Int) < (ss.length : Int) := by omega
      obtain ⟨b, o, rfl, hb, hcs⟩ := HIn.out (by omega)
      have hk0 := hcs i hlt
      rw [List.getElem?_eq_getElem hlt, Option.getD_some] at hk0
      have htk : ss.take (i + 1) = ss.take i ++ [ss[i]] := List.take_succ_eq_append_getElem hlt
      have HMem := Lib.hid (List.getElem_mem hlt)
      generalize ss[i] = s at *
      have HTk := Lib.hid htk
      clear htk hcs
      by_cases hs : s.size ≤ 60
      · have g1 : decide ((60 : Int) < (s.size : Int)) = false := decide_eq_false (by omega)
        have HE2 := Lib.hid (show (ss.take (i + 1)).all (fun s => decide (s.size ≤ 60)) = true by rw [HTk.out, List.all_append, HE.out]; simp [hs])
        go_wp2
        exact ⟨⟨i + 1, by go_num, hlt, HE2, trivial⟩, by simp [intOf]; omega⟩
      · have g1 : decide ((60 : Int) < (s.size : Int)) = true := decide_eq_true (by omega)
        have HF := Lib.hid (show shortB ss = false by
          unfold shortB
          have : ss.all (fun s => decide (s.size ≤ 60)) = false := by
            rw [List.all_eq_false]
            exact ⟨s, HMem.out, by simp; omega⟩
          rw [this]; rfl)
        go_wp2
        go_ret
        exact ⟨by rw [HF.out]; rfl, rfl⟩
    · obtain rfl : i = ss.length := by omega
      have f1 : decide ((ss.length : Int) < (ss.length : Int)) = false := decide_eq_false (by omega)
      have HF := Lib.hid (show shortB ss = decide ((ss.length : Int) ≤ 20) by
        unfold shortB
        have := HE.out
        rw [List.take_length] at this
        rw [this, Bool.true_and]
        apply decide_eq_decide.2
        omega)
      go_wp2
      go_ret
      exact ⟨by rw [HF.out]; rfl, rfl⟩
def hDe : TagT := ⟨[100, 101], [], [], []⟩
def hEn : TagT := ⟨[101, 110], [], [], []⟩
def hD3 : TagT := ⟨[100, 101], [], [65, 84], [[49, 57, 57, 54]]⟩
def hDat : TagT := ⟨[100, 101], [], [65, 84], []⟩
theorem hEn_of : tagOf (splitH (⟨#[101, 110]⟩ : ByteArray).data.toList) = some hEn := by rfl
theorem hEn_ok : hEn.Ok := TagT.Ok.of hEn_of (by decide)
theorem head_there : tagsOf [⟨#[100, 101]⟩, ⟨#[101, 110]⟩, ⟨#[120, 33]⟩, ⟨#[100, 101, 45, 65, 84, 45, 49, 57, 57, 54]⟩] = [hDe, hEn, hD3] := by rfl
theorem head_wish : tagsOf [⟨#[100, 101, 45, 97, 116]⟩] = [hDat] := by rfl
theorem head_chain : (chainU [hDat] [hDe, hEn, hD3] hEn).map TagT.text = [[100, 101, 45, 65, 84, 45, 49, 57, 57, 54], [100, 101], [101, 110]] := by rfl
set_option maxHeartbeats 8000000 in
set_option maxRecDepth 100000 in
theorem head11_any (w : World) (hM : MaxAt w) : Calls Tryz.prog 4 #[] w fun e w' => e = .returned (.bool true) ∧ Below w.heap.size w w' := by
  have HM := Lib.hid hM
  have hb1 : Below w.heap.size w (w.alloc (.cells #[.string ⟨#[100, 101]⟩, .string ⟨#[101, 110]⟩, .string ⟨#[120, 33]⟩, .string ⟨#[100, 101, 45, 65, 84, 45, 49, 57, 57, 54]⟩] 9)) := (Below.refl _ _).alloc (Nat.le_refl _) _
  have HT := Lib.hid (tags_any (.slice (some ⟨w.heap.size, 0, none⟩) 4 4) [⟨#[100, 101]⟩, ⟨#[101, 110]⟩, ⟨#[120, 33]⟩, ⟨#[100, 101, 45, 65, 84, 45, 49, 57, 57, 54]⟩] _ (box_strs w [⟨#[100, 101]⟩, ⟨#[101, 110]⟩, ⟨#[120, 33]⟩, ⟨#[100, 101, 45, 65, 84, 45, 49, 57, 57, 54]⟩] _ rfl (BoxAt.new w #[.string ⟨#[100, 101]⟩, .string ⟨#[101, 110]⟩, .string ⟨#[120, 33]⟩, .string ⟨#[100, 101, 45, 65, 84, 45, 49, 57, 57, 54]⟩] 9) 4) (by decide) (by decide) (hM.on hb1))
  have HB1 := Lib.hid hb1
  clear hM hb1
  go_enter Tryz.func4, Tryz.ntmps4
  go_wp2_with fail
  go_at_call 7
  refine HT.out.mono ?_
  rintro e w2 ⟨u1, gs, rfl, ho1, hm1, ha1, b2⟩
  rw [head_there] at hm1
  have hl1 : gs.length = 3 := by have := congrArg List.length hm1; simpa using this
  have hat1 := ho1.at_
  obtain ⟨A1, c1, rfl, _⟩ := ho1.slice
  rw [hl1] at hat1 ⊢
  have HB2 := Lib.hid (HB1.out.trans (b2.mono HB1.out.size))
  have HA := Lib.hid ha1
  have HAt := Lib.hid hat1
  have HMp := Lib.hid hm1
  clear ho1 hm1 ha1 hat1 b2 HT HB1
  go_wp2_with fail
  go_at_call 6
  refine (ParseY.of (by decide) (HM.out.on HB2.out) hEn_of).at_.mono ?_
  rintro e w3 ⟨A2, c2, rfl, v2, b3⟩
  have HX3 := Lib.hid (show TG.At w3 (⟨hEn, A2, c2⟩ : TG) from ⟨hEn_ok, v2⟩)
  have HB3 := Lib.hid (HB2.out.trans (b3.mono HB2.out.size))
  have HA3 := Lib.hid (fun y hy => (HA.out y hy).later b3)
  have HAt3 := Lib.hid (HAt.out.later b3)
  clear v2 b3 HA HAt HB2
  go_upto_region 5 with fail
  have hk : BoxAt (w3.alloc (.cells #[.string (mk hEn.L), .string (mk hEn.S), .string (mk hEn.R), .slice A2 hEn.vs.length c2] 26)) w3.heap.size #[.string (mk hEn.L), .string (mk hEn.S), .string (mk hEn.R), .slice A2 hEn.vs.length c2] 26 := BoxAt.new _ _ _
  have hV : Below w3.heap.size w3 (w3.alloc (.cells #[.string (mk hEn.L), .string (mk hEn.S), .string (mk hEn.R), .slice A2 hEn.vs.length c2] 26)) := (Below.refl _ _).alloc (Nat.le_refl _) _
  generalize w3.alloc (.cells #[.string (mk hEn.L), .string (mk hEn.S), .string (mk hEn.R), .slice A2 hEn.vs.length c2] 26) = W0 at *
  have HX0 := Lib.hid (HX3.out.later hV)
  have HA0 := Lib.hid (fun y hy => (HA3.out y hy).later hV)
  have HAt0 := Lib.hid (HAt3.out.later hV)
  have HB0 := Lib.hid (HB3.out.trans (hV.mono HB3.out.size))
  clear hV HX3 HA3 HAt3 HB3
  generalize w3.heap.size = k at *
  have HK := Lib.hid hk
  have s0 : W0.cell? ⟨k, 0, none⟩ = some (.string (mk hEn.L)) := hk.cell 0
  have s1 : W0.cell? ⟨k, 1, none⟩ = some (.string (mk hEn.S)) := hk.cell 1
  have s2 : W0.cell? ⟨k, 2, none⟩ = some (.string (mk hEn.R)) := hk.cell 2
  have s3 : W0.cell? ⟨k, 3, none⟩ = some (.slice A2 hEn.vs.length c2) := hk.cell 3
  have sz := hk.lt
  clear hk
  have HS := Lib.hid (show ∀ w', Below W0.heap.size W0 w' → (w'.cell? ⟨k, 0, none⟩ = some (.string (mk hEn.L)) ∧ w'.cell? ⟨k, 1, none⟩ = some (.string (mk hEn.S)) ∧ w'.cell? ⟨k, 2, none⟩ = some (.string (mk hEn.R)) ∧ w'.cell? ⟨k, 3, none⟩ = some (.slice A2 hEn.vs.length c2) ∧ k < w'.heap.size) from fun w' q => by
    have t := HK.out.later q
    exact ⟨t.cell 0, t.cell 1, t.cell 2, t.cell 3, t.lt⟩)
  go_region_held3 (fun w' => w'.cell? ⟨k, 0, none⟩ = some (.string (mk hEn.L)) ∧ w'.cell? ⟨k, 1, none⟩ = some (.string (mk hEn.S)) ∧ w'.cell? ⟨k, 2, none⟩ = some (.string (mk hEn.R)) ∧ w'.cell? ⟨k, 3, none⟩ = some (.slice A2 hEn.vs.length c2) ∧ k < w'.heap.size) (first | exact HS.out _ (by repeat' first | assumption | with_reducible exact Below.refl _ _ | with_reducible apply Below.drew | with_reducible apply below_box1)) (first
    | (go_at_call 7; refine (tags_any _ [⟨#[100, 101, 45, 97, 116]⟩] _ (by first | exact box_strs W0 [⟨#[100, 101, 45, 97, 116]⟩] _ rfl (BoxAt.new _ _ _) 1 | exact box_strs W0 [⟨#[100, 101, 45, 97, 116]⟩] _ rfl (BoxAt.new' _ _ _ _ (by simp)) 1 | exact box_strs W0 [⟨#[100, 101, 45, 97, 116]⟩] _ rfl ((BoxAt.new _ _ _).alloc _) 1) (by decide) (by decide) (HM.out.on (HB0.out.trans (Below.mono (by repeat' first | assumption | with_reducible exact Below.refl _ _ | with_reducible apply Below.drew | with_reducible apply below_box1) HB0.out.size)))).mono ?_; rintro e w4 ⟨u2, gw, rfl, ho2, hm2, ha2, b4⟩; rw [head_wish] at hm2; have q4 : Below W0.heap.size W0 w4 := below_step (by repeat' first | assumption | with_reducible exact Below.refl _ _ | with_reducible apply Below.drew | with_reducible apply below_box1) b4; (try first | (have hL4 := BoxAt.later (BoxAt.new _ #[.string ⟨#[100, 101, 45, 65, 84, 45, 49, 57, 57, 54]⟩, .string ⟨#[100, 101]⟩, .string ⟨#[101, 110]⟩] 9) b4; try simp only [World.size_alloc, World.size_drew] at hL4) | (have hL4 := BoxAt.later ((BoxAt.new _ #[.string ⟨#[100, 101, 45, 65, 84, 45, 49, 57, 57, 54]⟩, .string ⟨#[100, 101]⟩, .string ⟨#[101, 110]⟩] 9).alloc _) b4; try simp only [World.size_alloc, World.size_drew] at hL4) | (have hL4 := BoxAt.later (BoxAt.new _ #[.string ⟨#[100, 101, 45, 65, 84, 45, 49, 57, 57, 54]⟩, .string ⟨#[100, 101]⟩, .string ⟨#[101, 110]⟩] 9) (below_drew b4); try simp only [World.size_alloc, World.size_drew] at hL4) | (have hL4 := BoxAt.later ((BoxAt.new _ #[.string ⟨#[100, 101, 45, 65, 84, 45, 49, 57, 57, 54]⟩, .string ⟨#[100, 101]⟩, .string ⟨#[101, 110]⟩] 9).alloc _) (below_drew b4); try simp only [World.size_alloc, World.size_drew] at hL4)))
    | (go_at_call 11; refine (chain_any _ _ gw gs (⟨hEn, A2, c2⟩ : TG) _ (ho2.at_.later (by repeat' first | assumption | with_reducible exact Below.refl _ _ | with_reducible apply Below.drew | with_reducible apply below_box1)) (HAt0.out.later (by repeat' first | assumption | with_reducible exact Below.refl _ _ | with_reducible apply Below.drew | with_reducible apply below_box1)) (fun y hy => (ha2 y hy).later (by repeat' first | assumption | with_reducible exact Below.refl _ _ | with_reducible apply Below.drew | with_reducible apply below_box1)) (fun y hy => (HA0.out y hy).later (by repeat' first | assumption | with_reducible exact Below.refl _ _ | with_reducible apply Below.drew | with_reducible apply below_box1)) (HX0.out.later (by repeat' first | assumption | with_reducible exact Below.refl _ _ | with_reducible apply Below.drew | with_reducible apply below_box1)) (by have := congrArg List.length hm2; simp at this; omega) (by omega) (HM.out.on (HB0.out.trans (Below.mono (by repeat' first | assumption | with_reducible exact Below.refl _ _ | with_reducible apply Below.drew | with_reducible apply below_box1) HB0.out.size)))).mono ?_; rintro e w5 ⟨u5, g5, rfl, ho5, hm5, ha5, b5⟩; rw [chain_map, hm2, HMp.out] at hm5; have q5 : Below W0.heap.size W0 w5 := below_step (by repeat' first | assumption | with_reducible exact Below.refl _ _ | with_reducible apply Below.drew | with_reducible apply below_box1) b5; (try first | (have hL5 := BoxAt.later (BoxAt.new _ #[.string ⟨#[100, 101, 45, 65, 84, 45, 49, 57, 57, 54]⟩, .string ⟨#[100, 101]⟩, .string ⟨#[101, 110]⟩] 9) b5; try simp only [World.size_alloc, World.size_drew] at hL5) | (have hL5 := BoxAt.later ((BoxAt.new _ #[.string ⟨#[100, 101, 45, 65, 84, 45, 49, 57, 57, 54]⟩, .string ⟨#[100, 101]⟩, .string ⟨#[101, 110]⟩] 9).alloc _) b5; try simp only [World.size_alloc, World.size_drew] at hL5) | (have hL5 := BoxAt.later (BoxAt.new _ #[.string ⟨#[100, 101, 45, 65, 84, 45, 49, 57, 57, 54]⟩, .string ⟨#[100, 101]⟩, .string ⟨#[101, 110]⟩] 9) (below_drew b5); try simp only [World.size_alloc, World.size_drew] at hL5) | (have hL5 := BoxAt.later ((BoxAt.new _ #[.string ⟨#[100, 101, 45, 65, 84, 45, 49, 57, 57, 54]⟩, .string ⟨#[100, 101]⟩, .string ⟨#[101, 110]⟩] 9).alloc _) (below_drew b5); try simp only [World.size_alloc, World.size_drew] at hL5) | (have hL5 := BoxAt.later hL4 b5; try simp only [World.size_alloc, World.size_drew] at hL5) | (have hL5 := BoxAt.later hL4 (below_drew b5); try simp only [World.size_alloc, World.size_drew] at hL5)))
    | (go_at_call 9; refine (texts_any _ g5 _ (ho5.at_.later (by repeat' first | assumption | with_reducible exact Below.refl _ _ | with_reducible apply Below.drew | with_reducible apply below_box1)) (fun y hy => (ha5 y hy).later (by repeat' first | assumption | with_reducible exact Below.refl _ _ | with_reducible apply Below.drew | with_reducible apply below_box1)) (by have := congrArg List.length hm5; rw [List.length_map] at this; rw [this]; decide)).mono ?_; rintro e w6 ⟨u6, rfl, ho6, b6⟩; rw [show g5.map TG.text = (g5.map TG.t).map TagT.text by rw [List.map_map]; rfl, hm5, head_chain] at ho6; have q6 : Below W0.heap.size W0 w6 := below_step (by repeat' first | assumption | with_reducible exact Below.refl _ _ | with_reducible apply Below.drew | with_reducible apply below_box1) b6; (try first | (have hL6 := BoxAt.later (BoxAt.new _ #[.string ⟨#[100, 101, 45, 65, 84, 45, 49, 57, 57, 54]⟩, .string ⟨#[100, 101]⟩, .string ⟨#[101, 110]⟩] 9) b6; try simp only [World.size_alloc, World.size_drew] at hL6) | (have hL6 := BoxAt.later ((BoxAt.new _ #[.string ⟨#[100, 101, 45, 65, 84, 45, 49, 57, 57, 54]⟩, .string ⟨#[100, 101]⟩, .string ⟨#[101, 110]⟩] 9).alloc _) b6; try simp only [World.size_alloc, World.size_drew] at hL6) | (have hL6 := BoxAt.later (BoxAt.new _ #[.string ⟨#[100, 101, 45, 65, 84, 45, 49, 57, 57, 54]⟩, .string ⟨#[100, 101]⟩, .string ⟨#[101, 110]⟩] 9) (below_drew b6); try simp only [World.size_alloc, World.size_drew] at hL6) | (have hL6 := BoxAt.later ((BoxAt.new _ #[.string ⟨#[100, 101, 45, 65, 84, 45, 49, 57, 57, 54]⟩, .string ⟨#[100, 101]⟩, .string ⟨#[101, 110]⟩] 9).alloc _) (below_drew b6); try simp only [World.size_alloc, World.size_drew] at hL6) | (have hL6 := BoxAt.later hL5 b6; try simp only [World.size_alloc, World.size_drew] at hL6) | (have hL6 := BoxAt.later hL5 (below_drew b6); try simp only [World.size_alloc, World.size_drew] at hL6)))
    | (go_at_call 8; refine (same_any _ _ [[100, 101, 45, 65, 84, 45, 49, 57, 57, 54], [100, 101], [101, 110]] [[100, 101, 45, 65, 84, 45, 49, 57, 57, 54], [100, 101], [101, 110]] _ (ho6.sl.later (by repeat' first | assumption | with_reducible exact Below.refl _ _ | with_reducible apply Below.drew | with_reducible apply below_box1)) (by first | exact box_sl [[100, 101, 45, 65, 84, 45, 49, 57, 57, 54], [100, 101], [101, 110]] rfl (BoxAt.new _ _ _) 3 | exact box_sl [[100, 101, 45, 65, 84, 45, 49, 57, 57, 54], [100, 101], [101, 110]] rfl (by assumption) 3) (by decide) (by decide)).mono ?_; rintro e w7 ⟨rfl, b7⟩; have q7 : Below W0.heap.size W0 w7 := below_step (by repeat' first | assumption | with_reducible exact Below.refl _ _ | with_reducible apply Below.drew | with_reducible apply below_box1) b7))
  all_goals
    go_wp2_with fail
    go_ret
    exact ⟨rfl, HB0.out.trans (Below.mono (by repeat' first | assumption | with_reducible exact Below.refl _ _ | with_reducible apply Below.drew | with_reducible apply below_box1) HB0.out.size)⟩
end Go.Proofs.YthlccfjhgejlmaaGreatDoor

namespace Go.Proofs.YthlccfjhgejlmaaGreatDoor
open Go.RowKit Go.Shelf
set_option linter.unusedVariables false
set_option linter.unusedSimpArgs false
theorem onceU_head : ∀ (l acc : List TagT), acc ≠ [] → (onceU l acc).head? = acc.head?
  | [], acc, _ => rfl
  | x :: r, acc, h => by
    rw [onceU]
    split
    · exact onceU_head r acc h
    · rw [onceU_head r _ (by simp)]
      cases acc with
      | nil => exact absurd rfl h
      | cons a b => rfl
theorem onceU_first (x : TagT) (r : List TagT) : (onceU (x :: r) []).head? = some x := by
  rw [onceU, if_neg (by simp), onceU_head r _ (by simp)]
  rfl
theorem onceU_mem : ∀ (l acc : List TagT) (x : TagT), x ∈ onceU l acc → x ∈ acc ∨ x ∈ l
  | [], acc, x, h => .inl h
  | y :: r, acc, x, h => by
    rw [onceU] at h
    rcases onceU_mem r _ x h with h | h
    · split at h
      · exact .inl h
      · rcases List.mem_append.1 h with h | h
        · exact .inl h
        · rw [List.mem_singleton] at h; exact .inr (by rw [h]; exact List.mem_cons_self ..)
    · exact .inr (List.mem_cons_of_mem _ h)
theorem onceU_keep : ∀ (l acc : List TagT) (x : TagT), x ∈ acc → x ∈ onceU l acc
  | [], acc, x, h => h
  | y :: r, acc, x, h => by
    rw [onceU]
    apply onceU_keep r
    split
    · exact h
    · exact List.mem_append_left _ h
theorem onceU_has : ∀ (l acc : List TagT) (x : TagT), x ∈ l → ∃ y ∈ onceU l acc, y.text = x.text
  | [], acc, x, h => by cases h
  | y :: r, acc, x, h => by
    rw [onceU]
    rcases List.mem_cons.1 h with h | h
    · subst h
      split
      · next hin =>
        obtain ⟨z, hz, e⟩ := List.mem_map.1 hin
        exact ⟨z, onceU_keep r acc z hz, e⟩
      · exact ⟨x, onceU_keep r _ x (by simp), rfl⟩
    · exact onceU_has r _ x h
theorem onceU_nodup : ∀ (l acc : List TagT), (acc.map TagT.text).Nodup → ((onceU l acc).map TagT.text).Nodup
  | [], acc, h => h
  | y :: r, acc, h => by
    rw [onceU]
    apply onceU_nodup r
    split
    · exact h
    · next hn =>
      rw [List.map_append]
      rw [List.nodup_append]
      refine ⟨h, by simp, ?_⟩
      intro a ha b hb e
      simp at hb
      exact hn (by rw [← hb, ← e]; exact ha)
theorem pieces_of_text {a b : TagT} (ga : a.Good) (gb : b.Good) (h : a.text = b.text) : a.pieces = b.pieces := by
  rw [← split_text ga, ← split_text gb, h]
theorem text_of_pieces {a b : TagT} (h : a.pieces = b.pieces) : a.text = b.text := by
  show Lib.join a.pieces [45] = Lib.join b.pieces [45]
  rw [h]
theorem onceU_one (x : TagT) : onceU [x] [] = [x] := rfl
theorem chain_none (ts : List TagT) (x : TagT) : chainU [] ts x = [x] := rfl
theorem chain_first {ts : List TagT} {x l : TagT} (hg : x.Good) (ht : ∀ t ∈ ts, t.Good) (hx : x ∈ ts) : ∃ h r, chainU [x] ts l = h :: r ∧ h.text = x.text := by
  obtain ⟨y, hy, e⟩ := onceU_has ts [] x hx
  have hym : y ∈ ts := by rcases onceU_mem ts [] y hy with h | h; cases h; exact h
  have hp := pieces_of_text (ht y hym) hg e
  have hi : y ∈ IspU (onceU ts []) x.pieces := by
    unfold IspU
    rw [List.mem_filter]
    exact ⟨hy, by rw [hp]; exact beq_self_eq_true _⟩
  obtain ⟨h, r, he⟩ : ∃ h r, IspU (onceU ts []) x.pieces = h :: r := by
    cases hc : IspU (onceU ts []) x.pieces with
    | nil => rw [hc] at hi; cases hi
    | cons a b => exact ⟨a, b, rfl⟩
  have hh : h.pieces = x.pieces := by
    have : h ∈ IspU (onceU ts []) x.pieces := by rw [he]; exact List.mem_cons_self ..
    unfold IspU at this
    rw [List.mem_filter] at this
    simpa using this.2
  have hq : ∃ q, (onceU [x] []).flatMap (fun y => askU (onceU ts []) y.pieces) ++ [l] = h :: q := by
    rw [onceU_one]
    unfold askU
    simp only [List.flatMap_cons, List.flatMap_nil, List.append_nil]
    rw [he]
    exact ⟨_, rfl⟩
  obtain ⟨q, hq⟩ := hq
  have hf := onceU_first h q
  unfold chainU
  rw [hq]
  cases hc : onceU (h :: q) [] with
  | nil => rw [hc] at hf; cases hf
  | cons a b =>
    rw [hc] at hf
    simp at hf
    exact ⟨a, b, rfl, by rw [hf]; exact text_of_pieces hh⟩
theorem tagsOf_good {ss : List ByteArray} : ∀ t ∈ tagsOf ss, t.Good := by
  intro t ht
  unfold tagsOf at ht
  obtain ⟨s, _, h⟩ := List.mem_filterMap.1 ht
  exact tagOf_good h
theorem tgs_nil (W : World) : TgsAt W (.slice none 0 0) [] := ⟨none, 0, rfl, Nat.le_refl _, fun h => by simp at h⟩
theorem tgs_one {W : World} {b : Nat} {x : TG} (h : TgBox W b x) : TgsAt W (.slice (some ⟨b, 0, none⟩) 1 1) [x] := by
  refine ⟨_, _, rfl, Nat.le_refl _, fun _ => ⟨b, rfl, BoxAt.lt h, fun j y hy => ?_⟩⟩
  match j, hy with
  | 0, hy =>
    simp at hy
    subst hy
    rw [Nat.zero_mul]
    exact h.cells
end Go.Proofs.YthlccfjhgejlmaaGreatDoor
