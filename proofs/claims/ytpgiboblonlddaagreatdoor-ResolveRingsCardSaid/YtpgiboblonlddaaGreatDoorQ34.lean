/-
  Several texts put together (part 34): what the law and the program call, walked; their contracts.
-/
import Derived.Test.YtpgiboblonlddaaGreatDoorQ33
import Derived.Test.YtpgiboblonlddaaGreatDoorQ28
import Derived.Test.YtpgiboblonlddaaGreatDoorQ23
import Derived.Test.YtpgiboblonlddaaGreatDoorQ26
namespace Go.Proofs.YtpgiboblonlddaaGreatDoor
open Go.RowKit
set_option linter.unusedVariables false
set_option linter.unusedSimpArgs false
theorem in_knot {s : ByteArray} (hs : s.size ≤ 1000000) (rb : Nat) : InKnot rb s := fun d P hd hP hPos => inline_any hs (by omega) hP hPos
theorem not_b {b : Bool} (h : b = false) : ¬ b = true := by rw [h]; simp
abbrev s1 : ByteArray := ⟨#[32, 97, 32, 123, 36, 120, 125, 10, 32, 32, 98, 10, 46, 99]⟩
abbrev s2 : ByteArray := ⟨#[123, 32, 70, 40, 49, 44, 32, 111, 58, 32, 34, 115, 34, 41, 32, 125, 33]⟩
theorem s1_q : quoS s1 4 = none := by kernel_rfl
theorem s1_v : varS s1 4 = some (.mk 2 E0 ⟨#[120]⟩ E0 [] none [], 6) := by kernel_rfl
theorem s1_place : placeS s1 20 3 = some (.mk 2 E0 ⟨#[120]⟩ E0 [] none [], 7) := by
  rw [placeS, if_pos (by kernel_rfl)]
  have h : inlS (placeS s1 19) s1 (bl s1 4) = some (.mk 2 E0 ⟨#[120]⟩ E0 [] none [], 6) := by
    rw [show bl s1 4 = 4 by kernel_rfl]
    unfold inlS headS
    rw [s1_q, s1_v]
    rfl
  rw [h]
  rfl
abbrev vX : EX := .mk 2 E0 ⟨#[120]⟩ E0 [] none []
abbrev ps1 : List EL := [.mk ⟨#[97, 32]⟩ none, .mk E0 (some vX)]
theorem s1_parts : partsS (placeS s1 20) s1 [] 1 = some (ps1, 7) := by
  rw [partsS, if_pos (by kernel_rfl), show tx s1 1 = 3 by kernel_rfl, s1_place]
  dsimp only
  rw [dif_pos (of_decide_eq_true (by kernel_rfl)), partsS, if_neg (not_b (by kernel_rfl))]
  kernel_rfl
theorem s1_parts2 : partsS (placeS s1 20) s1 [] 10 = some ([.mk ⟨#[98]⟩ none], 11) := by
  rw [partsS, if_neg (not_b (by kernel_rfl))]
  kernel_rfl
theorem s1_nl : nlS s1 0 7 7 = (1, 8, 10) := by
  rw [nlS, dif_pos (of_decide_eq_true (by kernel_rfl)), nlS, dif_neg (not_b (by kernel_rfl))]
  kernel_rfl
theorem s1_nl2 : nlS s1 0 11 11 = (1, 12, 12) := by
  rw [nlS, dif_pos (of_decide_eq_true (by kernel_rfl)), nlS, dif_neg (not_b (by kernel_rfl))]
  kernel_rfl
theorem s1_next : nextS s1 7 = some (1, 2, 10) := by
  unfold nextS
  rw [s1_nl]
  kernel_rfl
theorem s1_next2 : nextS s1 11 = none := by
  unfold nextS
  rw [s1_nl2]
  kernel_rfl
theorem s1_lines : linesS (placeS s1 20) s1 [] 0 0 1 = some ([⟨0, 0, ps1⟩, ⟨1, 2, [.mk ⟨#[98]⟩ none]⟩], 11) := by
  rw [linesS, s1_parts]
  dsimp only
  rw [s1_next]
  dsimp only
  rw [dif_pos (of_decide_eq_true (by kernel_rfl)), linesS, s1_parts2]
  dsimp only
  rw [s1_next2]
  kernel_rfl
theorem s1_pat : patS (placeS s1 20) s1 0 = some ([.mk ⟨#[97, 32]⟩ none, .mk E0 (some vX), .mk ⟨#[10, 98]⟩ none], 11) := by
  unfold patS
  rw [show sp s1 0 = 1 by kernel_rfl, s1_lines]
  kernel_rfl
abbrev eN1 : EX := .mk 1 ⟨#[49]⟩ E0 E0 [] none []
abbrev eS1 : EX := .mk 0 ⟨#[115]⟩ E0 E0 [] none []
theorem s2_head : headS (placeS s2 19) s2 2 = some (.mk 3 E0 ⟨#[70]⟩ E0 [] none [], 3) := by
  unfold headS nestS
  rw [show placeS s2 19 2 = none by rw [placeS, if_neg (not_b (by kernel_rfl))]]
  kernel_rfl
theorem s2_arg1 : argS (placeS s2 19) s2 4 = some (E0, eN1, 5) := by
  unfold argS
  rw [show namS s2 4 = none by kernel_rfl]
  unfold headS nestS
  rw [show placeS s2 19 4 = none by rw [placeS, if_neg (not_b (by kernel_rfl))]]
  kernel_rfl
theorem s2_arg2 : argS (placeS s2 19) s2 7 = some (⟨#[111]⟩, eS1, 13) := by
  unfold argS
  rw [show namS s2 7 = some (⟨#[111]⟩, eS1, 13) by kernel_rfl]
theorem s2_args : argsS (placeS s2 19) s2 [] false 4 = some ([.mk E0 eN1, .mk ⟨#[111]⟩ eS1], 14) := by
  rw [argsS, if_neg (not_b (by kernel_rfl)), if_neg (by simp), show bl s2 4 = 4 by kernel_rfl, s2_arg1]
  dsimp only
  rw [if_neg (not_b (by kernel_rfl)), dif_pos (of_decide_eq_true (by kernel_rfl)), if_pos (by kernel_rfl), show (if emp E0 = true then (opnS s2 eN1 5).2 else 5) = 5 by kernel_rfl]
  rw [argsS, if_neg (not_b (by kernel_rfl)), if_pos rfl, show bl s2 5 = 5 by kernel_rfl, dif_pos (of_decide_eq_true (by kernel_rfl))]
  rw [argsS, if_neg (not_b (by kernel_rfl)), if_neg (by simp), show bl s2 6 = 7 by kernel_rfl, s2_arg2]
  dsimp only
  rw [if_neg (not_b (by kernel_rfl)), dif_pos (of_decide_eq_true (by kernel_rfl)), if_pos (by kernel_rfl), show (if emp ⟨#[111]⟩ = true then (opnS s2 eS1 13).2 else 13) = 13 by kernel_rfl]
  rw [argsS, if_pos (by kernel_rfl)]
  kernel_rfl
theorem s2_place : placeS s2 20 0 = some (.mk 5 E0 ⟨#[70]⟩ E0 [.mk E0 eN1, .mk ⟨#[111]⟩ eS1] none [], 16) := by
  have h : inlS (placeS s2 19) s2 2 = some (.mk 5 E0 ⟨#[70]⟩ E0 [.mk E0 eN1, .mk ⟨#[111]⟩ eS1] none [], 14) := by
    unfold inlS
    rw [s2_head]
    dsimp only
    rw [if_pos (by kernel_rfl), show (opnS s2 (.mk 3 E0 ⟨#[70]⟩ E0 [] none []) 3).2 = 4 by kernel_rfl, s2_args]
    kernel_rfl
  rw [placeS, if_pos (by kernel_rfl), show bl s2 (0 + 1) = 2 by kernel_rfl, h]
  dsimp only
  rw [if_pos (by kernel_rfl)]
  exact (if_neg (show ¬ termAttr (.mk 5 E0 ⟨#[70]⟩ E0 [.mk E0 eN1, .mk ⟨#[111]⟩ eS1] none []) = true by simp [termAttr])).trans (congrArg (fun n => some ((EX.mk 5 E0 ⟨#[70]⟩ E0 [.mk E0 eN1, .mk ⟨#[111]⟩ eS1] none []), n)) (show bl s2 14 + 1 = 16 by kernel_rfl))
def GotPT (s : ByteArray) (w : World) (l : List EL) (j : Nat) (e : Ending) (w' : World) : Prop :=
  Below w.heap.size w w' ∧ ∃ (A : Option Addr) (c : Nat), e = .returned (.tuple #[.slice A l.length c, .int .i64 j, .bool true]) ∧ PatF w' (Since w.heap.size w') l (.slice A l.length c)
set_option maxHeartbeats 2000000 in
set_option maxRecDepth 100000 in
theorem pattern_call {s : ByteArray} {i : Nat} (hs : s.size ≤ 1000000) (hi : i ≤ s.size) {l : List EL} {j : Nat} (h : patS (placeS s 20) s i = some (l, j)) (w : World) : Calls Tryz.prog 167 #[.string s, .int .i64 i] w (GotPT s w l j) := by
  have hK : ∀ (rb : Nat) (W : World), Rd rb s i W → Calls Tryz.prog 195 #[pt rb, .int .i64 0] W (GotP rb s W (some (l, j))) := fun rb W hr => by
    have := pattern_any (rb := rb) hs (d := 0) (by omega) (place_knot hs (in_knot hs rb) 20 1 rfl) (place_pos s 20) i W hr hi
    rw [h] at this
    exact this
  have HK := Lib.hid hK
  have z1 : decide ((i : Int) < 0) = false := decide_eq_false (by omega)
  have z2 : decide ((s.size : Int) < (i : Int)) = false := decide_eq_false (by omega)
  have z3 : ¬ (i : Int) < 0 := by omega
  have z4 : ¬ (s.size : Int) < (i : Int) := by omega
  have hi0 : (i : Int) ≤ 1000000 := by omega
  clear hK h
  unfold pt at HK
  go_enter Tryz.func167, Tryz.ntmps167
  go_wp2_with fail
  go_at_call 195
  refine (HK.out _ _ (BoxAt.new' _ _ _ _ (by simp))).mono ?_
  rintro e w2 ⟨h1, A, n, c, j', rfl, h2, hj, hn4, h3⟩
  obtain ⟨rfl, rfl, hp⟩ := h3 l j rfl
  have HB := Lib.hid (((Below.refl w.heap.size w).alloc (Nat.le_refl _) (.cells #[.string s, .int .i64 i] 272)).trans (h1.below.mono (by omega)))
  have HP := Lib.hid hp
  have d1 := h2.c1
  have hl2 := h2.lt
  have hj0 : (j : Int) ≤ 1000000 := by omega
  clear h1 h2 h3 hp HK
  go_wp2
  go_region
  go_wp2
  refine bodyPost_ret (v := .tuple #[.slice A l.length c, .int .i64 j, .bool true]) (by simp [results, Tryz.results167, go_sem]) rfl ?_
  refine ⟨HB.out.drew, A, c, rfl, PatF.carry (fun b hb => ?_) HP.out⟩
  obtain ⟨hb1, hb2⟩ := hb
  rw [World.size_alloc] at hb1
  exact ⟨⟨by omega, hb2⟩, rfl⟩
theorem pat_three {W : World} {F : Nat → Prop} {A : Option Addr} {n c : Nat} {t0 t1 t2 : ByteArray} {p1 : Option EX} (h : PatF W F [.mk t0 none, .mk t1 p1, .mk t2 none] (.slice A n c)) :
    ∃ b o, A = some ⟨b, o, none⟩ ∧ n = 3 ∧ F b ∧ W.cell? ⟨b, o, none⟩ = some (.string t0) ∧ W.cell? ⟨b, o + 4, none⟩ = some (.string t2) := by
  obtain ⟨A', c', e, _, _, h2⟩ := h
  simp only [Value.slice.injEq] at e
  obtain ⟨rfl, rfl, rfl⟩ := e
  obtain ⟨b, o, rfl, h3⟩ := h2 (by simp)
  rw [EsF, EsF, EsF] at h3
  obtain ⟨hb, h4, _, _, _, _, _, h5, _⟩ := h3
  exact ⟨b, o, rfl, rfl, hb, h4, h5⟩
theorem ex_two {W : World} {F : Nat → Prop} {k : Int} {t n a : ByteArray} {A1 : Option Addr} {n1 c1 : Nat} {ci cv : Value} {n' x1 x2 : ByteArray} {e1 e2 : EX} (h : ExF W F (.mk 5 E0 n' E0 [.mk x1 e1, .mk x2 e2] none []) ⟨.int .i64 k, .string t, .string n, .string a, .slice A1 n1 c1, ci, cv⟩) :
    k = 5 ∧ n1 = 2 ∧ ∃ b o, A1 = some ⟨b, o, none⟩ ∧ F b ∧ W.cell? ⟨b, o + 8, none⟩ = some (.string x2) := by
  rw [ExF] at h
  obtain ⟨h1, _, _, _, ⟨⟨A', c', e, _, _, h2⟩, _⟩, _⟩ := h
  cases h1
  simp only [Value.slice.injEq] at e
  obtain ⟨rfl, rfl, rfl⟩ := e
  obtain ⟨b, o, rfl, h3⟩ := h2 (by simp)
  rw [AsF, AsF] at h3
  obtain ⟨hb, _, _, _, h5, _⟩ := h3
  exact ⟨rfl, rfl, b, o, rfl, hb, h5⟩
end Go.Proofs.YtpgiboblonlddaaGreatDoor

namespace Go.Proofs.YtpgiboblonlddaaGreatDoor
open Go.RowKit
set_option linter.unusedVariables false
set_option linter.unusedSimpArgs false
set_option maxHeartbeats 2000000 in
set_option maxRecDepth 100000 in
theorem pat_calls {s : ByteArray} (hs : s.size ≤ 1000000) : PatCall s := by
  intro i w hi
  have hK : ∀ (rb : Nat) (W : World), Rd rb s i W → Calls Tryz.prog 195 #[pt rb, .int .i64 0] W (GotP rb s W (patS (placeS s 20) s i)) := fun rb W hr =>
    pattern_any (rb := rb) hs (d := 0) (by omega) (place_knot hs (in_knot hs rb) 20 1 rfl) (place_pos s 20) i W hr hi
  obtain ⟨r, hr⟩ : ∃ r, patS (placeS s 20) s i = r := ⟨_, rfl⟩
  rw [hr] at hK ⊢
  have HK := Lib.hid hK
  have z1 : decide ((i : Int) < 0) = false := decide_eq_false (by omega)
  have z2 : decide ((s.size : Int) < (i : Int)) = false := decide_eq_false (by omega)
  have z3 : ¬ (i : Int) < 0 := by omega
  have z4 : ¬ (s.size : Int) < (i : Int) := by omega
  have hi0 : (i : Int) ≤ 1000000 := by omega
  clear hK hr
  unfold pt at HK
  go_enter Tryz.func167, Tryz.ntmps167
  go_wp2_with fail
  go_at_call 195
  refine (HK.out _ _ (BoxAt.new' _ _ _ _ (by simp))).mono ?_
  rintro e w2 ⟨h1, A, n, c, j', rfl, h2, hj, hn4, h3⟩
  have HB := Lib.hid (((Below.refl w.heap.size w).alloc (Nat.le_refl _) (.cells #[.string s, .int .i64 i] 272)).trans (h1.below.mono (by omega)))
  have H3 := Lib.hid h3
  have d1 := h2.c1
  have hl2 := h2.lt
  have hj0 : (j' : Int) ≤ 1000000 := by omega
  clear h1 h2 h3 HK
  cases r with
  | none =>
    go_wp2
    refine bodyPost_ret (v := .tuple #[.slice none 0 0, .int .i64 0, .bool false]) (by simp [results, Tryz.results167, go_sem]) rfl ?_
    exact ⟨HB.out, none, 0, 0, 0, rfl, Nat.zero_le _, Nat.zero_le _, fun l m h => by cases h⟩
  | some v =>
    obtain ⟨l, m⟩ := v
    obtain ⟨rfl, rfl, hp⟩ := H3.out l m rfl
    have HP := Lib.hid hp
    clear hp H3
    go_wp2
    go_region
    go_wp2
    refine bodyPost_ret (v := .tuple #[.slice A l.length c, .int .i64 m, .bool true]) (by simp [results, Tryz.results167, go_sem]) rfl ?_
    refine ⟨HB.out.drew, A, l.length, c, m, rfl, hj, hn4, fun l' m' h => ?_⟩
    cases h
    refine ⟨rfl, rfl, PatF.carry (fun b hb => ?_) HP.out⟩
    obtain ⟨hb1, hb2⟩ := hb
    rw [World.size_alloc] at hb1
    exact ⟨⟨by omega, hb2⟩, rfl⟩
end Go.Proofs.YtpgiboblonlddaaGreatDoor
