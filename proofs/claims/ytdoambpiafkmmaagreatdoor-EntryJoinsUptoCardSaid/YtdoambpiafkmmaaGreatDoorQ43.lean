/-
  Several texts put together (part 43): what the law and the program call, walked; their contracts.
-/
import Derived.Test.YtdoambpiafkmmaaGreatDoorQ35
import Derived.Test.YtdoambpiafkmmaaGreatDoorQ42
import Derived.Test.YtdoambpiafkmmaaGreatDoorQ16
import Derived.Test.YtdoambpiafkmmaaGreatDoorQ27
import Derived.Test.YtdoambpiafkmmaaGreatDoorQ33
import Derived.Test.YtdoambpiafkmmaaGreatDoorQ15
import Derived.Test.YtdoambpiafkmmaaGreatDoorQ37
namespace Go.Proofs.YtdoambpiafkmmaaGreatDoor
open Go.RowKit
set_option linter.unusedVariables false
set_option linter.unusedSimpArgs false
def GotTop (s : ByteArray) (w : World) (r : Res) (e : Ending) (w' : World) : Prop :=
  Below w.heap.size w w' ∧ ∃ (k : Int) (t n a : ByteArray) (A1 : Option Addr) (n1 c1 : Nat) (p : Option Addr) (A2 : Option Addr) (n2 c2 : Nat) (j : Nat),
    e = .returned (.tuple #[exV k t n a A1 n1 c1 p A2 n2 c2, .int .i64 j, .bool r.isSome]) ∧ j ≤ s.size ∧ (r = none → e = .returned (.tuple #[exV 0 E0 E0 E0 none 0 0 none none 0 0, .int .i64 0, .bool false])) ∧
    ∀ x m, r = some (x, m) → m = j ∧ ExF w' (Since w.heap.size w') x ⟨.int .i64 k, .string t, .string n, .string a, .slice A1 n1 c1, .pointer p, .slice A2 n2 c2⟩
theorem rd_new (w : World) (s : ByteArray) (i : Nat) : Rd w.heap.size s i (w.alloc (.cells #[.string s, .int .i64 (i : Nat)] 62)) := BoxAt.new _ _ _
set_option maxRecDepth 100000 in
theorem res7t {fn : Func} {A M N : Nat} {tmps : Array Value} {w : World} {b : Nat} {x0 x1 x2 x3 x4 x5 x6 u v : Value} {t : TypeId} (hres : fn.results = #[.cell A 29, .tmp M, .tmp N]) (ha : tmps.getD A undef = .pointer (some ⟨b, 0, none⟩)) (hm : tmps.getD M undef = u) (hn : tmps.getD N undef = v)
    (hb : BoxAt w b #[x0, x1, x2, x3, x4, x5, x6] t) : (results fn tmps).run Tryz.prog w = .ok (.tuple #[.agg #[x0, x1, x2, x3, x4, x5, x6], u, v]) w := by
  obtain ⟨q0, q1, q2, q3, q4, q5, q6, _⟩ := cells7 hb
  have ha' : tmps[A]?.getD undef = .pointer (some ⟨b, 0, none⟩) := by rw [← ha]; simp
  have hm' : tmps[M]?.getD undef = u := by rw [← hm]; simp
  have hn' : tmps[N]?.getD undef = v := by rw [← hn]; simp
  simp [results, hres, ha', hm', hn', go_sem, q0, q1, q2, q3, q4, q5, q6]
theorem end7t {fn : Func} {R : Ending → World → Prop} {a : Act} {w2 : World} {A M N b : Nat} {x0 x1 x2 x3 x4 x5 x6 u v : Value} {t : TypeId} (hres : fn.results = #[.cell A 29, .tmp M, .tmp N]) (hbox : BoxAt w2 b #[x0, x1, x2, x3, x4, x5, x6] t)
    (ha : a.tmps.getD A undef = .pointer (some ⟨b, 0, none⟩)) (hm : a.tmps.getD M undef = u) (hn : a.tmps.getD N undef = v) (hd : a.defers = []) (hR : R (.returned (.tuple #[.agg #[x0, x1, x2, x3, x4, x5, x6], u, v])) w2) : bodyPost Tryz.prog fn R .ret a w2 :=
  bodyPost_ret (res7t hres ha hm hn hbox) hd hR
theorem below_set7t {B : Nat} {w W : World} (h : Below B w W) {b : Nat} (hb : B ≤ b) (x0 x1 x2 x3 x4 x5 x6 : Value) : Below B w (set7 W b x0 x1 x2 x3 x4 x5 x6) :=
  ((((((h.setCell (p := ⟨b, 0, none⟩) hb x0).setCell (p := ⟨b, 1, none⟩) hb x1).setCell (p := ⟨b, 2, none⟩) hb x2).setCell (p := ⟨b, 3, none⟩) hb x3).setCell (p := ⟨b, 4, none⟩) hb x4).setCell (p := ⟨b, 5, none⟩) hb x5).setCell (p := ⟨b, 6, none⟩) hb x6
set_option maxHeartbeats 2000000 in
set_option maxRecDepth 100000 in
theorem place_top {s : ByteArray} {i : Nat} (hs : s.size ≤ 1000000) (hIn : ∀ rb, InKnot rb s) (hi : i ≤ s.size) (w : World) : Calls Tryz.prog 10 #[.string s, .int .i64 i] w (GotTop s w (placeS s 20 i)) := by
  have hK : ∀ (rb : Nat) (W : World), Rd rb s i W → Calls Tryz.prog 25 #[pt rb, .int .i64 1] W (Got rb s W (placeS s 20 i)) := fun rb W h => place_knot hs (hIn rb) 20 1 rfl i W h hi
  obtain ⟨r, hr⟩ : ∃ r, placeS s 20 i = r := ⟨_, rfl⟩
  rw [hr] at hK ⊢
  have HK := Lib.hid hK
  have z1 : decide ((i : Int) < 0) = false := decide_eq_false (by omega)
  have z2 : decide ((s.size : Int) < (i : Int)) = false := decide_eq_false (by omega)
  have z3 : ¬ (i : Int) < 0 := by omega
  have z4 : ¬ (s.size : Int) < (i : Int) := by omega
  have hi0 : (i : Int) ≤ 1000000 := by omega
  clear hK hr hIn
  unfold pt at HK
  go_enter Tryz.func10, Tryz.ntmps10
  go_wp2_with fail
  go_at_call 25
  refine (HK.out _ _ (BoxAt.new' _ _ _ _ (by simp))).mono ?_
  rintro e w2 ⟨h1, k, t, n, a, A1, n1, c1, p, A2, n2, c2, j, rfl, h2, hj, h3⟩
  have hc := BoxAt.kp ((BoxAt.new w zE 29).alloc (.cells #[.string s, .int .i64 i] 62)) h1 (by omega)
  have hcl := hc.lt
  have HC := Lib.hid hc
  have HB := Lib.hid ((((Below.refl w.heap.size w).alloc (Nat.le_refl _) (.cells zE 29)).alloc (by simp) (.cells #[.string s, .int .i64 i] 62)).trans (h1.below.mono (by omega)))
  have H3 := Lib.hid h3
  have d1 := h2.c1
  have hl2 := h2.lt
  obtain ⟨q0, q1, q2, q3, q4, q5, q6, p0, p1, p2, p3, p4, p5, p6⟩ := cells7 hc
  have hj0 : (j : Int) ≤ 1000000 := by omega
  clear h1 h2 h3 hc HK
  unfold exV
  cases r with
  | none =>
    go_wp2
    exact end7t Tryz.results10 ((box_set7 HC.out _ _ _ _ _ _ _).alloc _) rfl rfl rfl rfl ⟨(below_set7t HB.out (Nat.le_refl _) _ _ _ _ _ _ _).alloc (by rw [set7_size]; omega) _, 0, E0, E0, E0, none, 0, 0, none, none, 0, 0, 0, rfl, Nat.zero_le _, fun _ => rfl, fun x m h => by cases h⟩
  | some xm =>
    obtain ⟨x, m⟩ := xm
    obtain ⟨rfl, hx⟩ := H3.out x m rfl
    have HX := Lib.hid hx
    clear hx
    go_wp2
    go_region
    go_wp2
    refine end7t (u := .int .i64 m) (v := .bool true) Tryz.results10 (((box_set7 HC.out _ _ _ _ _ _ _).alloc _).drew) rfl rfl rfl rfl ?_
    refine ⟨((below_set7t HB.out (Nat.le_refl _) (.int .i64 k) (.string t) (.string n) (.string a) (.slice A1 n1 c1) (.pointer p) (.slice A2 n2 c2)).alloc (by rw [set7_size]; omega) _).drew, k, t, n, a, A1, n1, c1, p, A2, n2, c2, m, rfl, hj, (fun h => by cases h), fun x' m' h => ?_⟩
    cases h
    refine ⟨rfl, ExF.carry (fun b hb => ?_) _ _ HX.out⟩
    obtain ⟨hb1, hb2⟩ := hb
    rw [World.size_alloc, World.size_alloc] at hb1
    have hb4 : b < (set7 w2 w.heap.size (.int .i64 k) (.string t) (.string n) (.string a) (.slice A1 n1 c1) (.pointer p) (.slice A2 n2 c2)).heap.size := by rw [set7_size]; exact hb2
    exact ⟨⟨by omega, since_set7 _ hb4⟩, heap_set7 _ (by omega) hb4⟩
end Go.Proofs.YtdoambpiafkmmaaGreatDoor

namespace Go.Proofs.YtdoambpiafkmmaaGreatDoor
open Go.RowKit
set_option linter.unusedVariables false
set_option linter.unusedSimpArgs false
theorem in_knot {s : ByteArray} (hs : s.size ≤ 1000000) (rb : Nat) : InKnot rb s := fun d P hd hP hPos => inline_any hs (by omega) hP hPos
theorem place_call {s : ByteArray} {i : Nat} (hs : s.size ≤ 1000000) (hi : i ≤ s.size) (w : World) : Calls Tryz.prog 10 #[.string s, .int .i64 i] w (GotTop s w (placeS s 20 i)) := place_top hs (in_knot hs) hi w
theorem not_b {b : Bool} (h : b = false) : ¬ b = true := by rw [h]; simp
abbrev s1 : ByteArray := ⟨#[32, 97, 32, 123, 36, 120, 125, 10, 32, 32, 98, 10, 46, 99]⟩
abbrev s2 : ByteArray := ⟨#[123, 32, 70, 40, 49, 44, 32, 111, 58, 32, 34, 115, 34, 41, 32, 125, 33]⟩
theorem s1_q : quoS s1 4 = none := by kernel_rfl
theorem s1_v : varS s1 4 = some (.mk 2 E0 ⟨#[120]⟩ E0 [] none [], 6) := by kernel_rfl
theorem s1_place : placeS s1 20 3 = some (.mk 2 E0 ⟨#[120]⟩ E0 [] none [], 7) := by
  rw [placeS, if_pos (by kernel_rfl)]
  have h : inlS (placeS s1 19) s1 (bl s1 4) = some (.mk 2 E0 ⟨#[120]⟩ E0 [] none [], 6) := by
    rw [show bl s1 4 = 4 by kernel_rfl]
    unfold inlS headS
    rw [s1_q, s1_v]
    rfl
  rw [h]
  rfl
abbrev vX : EX := .mk 2 E0 ⟨#[120]⟩ E0 [] none []
abbrev ps1 : List EL := [.mk ⟨#[97, 32]⟩ none, .mk E0 (some vX)]
theorem s1_parts : partsS (placeS s1 20) s1 [] 1 = some (ps1, 7) := by
  rw [partsS, if_pos (by kernel_rfl), show tx s1 1 = 3 by kernel_rfl, s1_place]
  dsimp only
  rw [dif_pos (of_decide_eq_true (by kernel_rfl)), partsS, if_neg (not_b (by kernel_rfl))]
  kernel_rfl
theorem s1_parts2 : partsS (placeS s1 20) s1 [] 10 = some ([.mk ⟨#[98]⟩ none], 11) := by
  rw [partsS, if_neg (not_b (by kernel_rfl))]
  kernel_rfl
theorem s1_nl : nlS s1 0 7 7 = (1, 8, 10) := by
  rw [nlS, dif_pos (of_decide_eq_true (by kernel_rfl)), nlS, dif_neg (not_b (by kernel_rfl))]
  kernel_rfl
theorem s1_nl2 : nlS s1 0 11 11 = (1, 12, 12) := by
  rw [nlS, dif_pos (of_decide_eq_true (by kernel_rfl)), nlS, dif_neg (not_b (by kernel_rfl))]
  kernel_rfl
theorem s1_next : nextS s1 7 = some (1, 2, 10) := by
  unfold nextS
  rw [s1_nl]
  kernel_rfl
theorem s1_next2 : nextS s1 11 = none := by
  unfold nextS
  rw [s1_nl2]
  kernel_rfl
theorem s1_lines : linesS (placeS s1 20) s1 [] 0 0 1 = some ([⟨0, 0, ps1⟩, ⟨1, 2, [.mk ⟨#[98]⟩ none]⟩], 11) := by
  rw [linesS, s1_parts]
  dsimp only
  rw [s1_next]
  dsimp only
  rw [dif_pos (of_decide_eq_true (by kernel_rfl)), linesS, s1_parts2]
  dsimp only
  rw [s1_next2]
  kernel_rfl
theorem s1_pat : patS (placeS s1 20) s1 0 = some ([.mk ⟨#[97, 32]⟩ none, .mk E0 (some vX), .mk ⟨#[10, 98]⟩ none], 11) := by
  unfold patS
  rw [show sp s1 0 = 1 by kernel_rfl, s1_lines]
  kernel_rfl
abbrev eN1 : EX := .mk 1 ⟨#[49]⟩ E0 E0 [] none []
abbrev eS1 : EX := .mk 0 ⟨#[115]⟩ E0 E0 [] none []
theorem s2_head : headS (placeS s2 19) s2 2 = some (.mk 3 E0 ⟨#[70]⟩ E0 [] none [], 3) := by
  unfold headS nestS
  rw [show placeS s2 19 2 = none by rw [placeS, if_neg (not_b (by kernel_rfl))]]
  kernel_rfl
theorem s2_arg1 : argS (placeS s2 19) s2 4 = some (E0, eN1, 5) := by
  unfold argS
  rw [show namS s2 4 = none by kernel_rfl]
  unfold headS nestS
  rw [show placeS s2 19 4 = none by rw [placeS, if_neg (not_b (by kernel_rfl))]]
  kernel_rfl
theorem s2_arg2 : argS (placeS s2 19) s2 7 = some (⟨#[111]⟩, eS1, 13) := by
  unfold argS
  rw [show namS s2 7 = some (⟨#[111]⟩, eS1, 13) by kernel_rfl]
theorem s2_args : argsS (placeS s2 19) s2 [] false 4 = some ([.mk E0 eN1, .mk ⟨#[111]⟩ eS1], 14) := by
  rw [argsS, if_neg (not_b (by kernel_rfl)), if_neg (by simp), show bl s2 4 = 4 by kernel_rfl, s2_arg1]
  dsimp only
  rw [if_neg (not_b (by kernel_rfl)), dif_pos (of_decide_eq_true (by kernel_rfl)), if_pos (by kernel_rfl), show (if emp E0 = true then (opnS s2 eN1 5).2 else 5) = 5 by kernel_rfl]
  rw [argsS, if_neg (not_b (by kernel_rfl)), if_pos rfl, show bl s2 5 = 5 by kernel_rfl, dif_pos (of_decide_eq_true (by kernel_rfl))]
  rw [argsS, if_neg (not_b (by kernel_rfl)), if_neg (by simp), show bl s2 6 = 7 by kernel_rfl, s2_arg2]
  dsimp only
  rw [if_neg (not_b (by kernel_rfl)), dif_pos (of_decide_eq_true (by kernel_rfl)), if_pos (by kernel_rfl), show (if emp ⟨#[111]⟩ = true then (opnS s2 eS1 13).2 else 13) = 13 by kernel_rfl]
  rw [argsS, if_pos (by kernel_rfl)]
  kernel_rfl
theorem s2_place : placeS s2 20 0 = some (.mk 5 E0 ⟨#[70]⟩ E0 [.mk E0 eN1, .mk ⟨#[111]⟩ eS1] none [], 16) := by
  have h : inlS (placeS s2 19) s2 2 = some (.mk 5 E0 ⟨#[70]⟩ E0 [.mk E0 eN1, .mk ⟨#[111]⟩ eS1] none [], 14) := by
    unfold inlS
    rw [s2_head]
    dsimp only
    rw [if_pos (by kernel_rfl), show (opnS s2 (.mk 3 E0 ⟨#[70]⟩ E0 [] none []) 3).2 = 4 by kernel_rfl, s2_args]
    kernel_rfl
  rw [placeS, if_pos (by kernel_rfl), show bl s2 (0 + 1) = 2 by kernel_rfl, h]
  dsimp only
  rw [if_pos (by kernel_rfl)]
  exact (if_neg (show ¬ termAttr (.mk 5 E0 ⟨#[70]⟩ E0 [.mk E0 eN1, .mk ⟨#[111]⟩ eS1] none []) = true by simp [termAttr])).trans (congrArg (fun n => some ((EX.mk 5 E0 ⟨#[70]⟩ E0 [.mk E0 eN1, .mk ⟨#[111]⟩ eS1] none []), n)) (show bl s2 14 + 1 = 16 by kernel_rfl))
def GotPT (s : ByteArray) (w : World) (l : List EL) (j : Nat) (e : Ending) (w' : World) : Prop :=
  Below w.heap.size w w' ∧ ∃ (A : Option Addr) (c : Nat), e = .returned (.tuple #[.slice A l.length c, .int .i64 j, .bool true]) ∧ PatF w' (Since w.heap.size w') l (.slice A l.length c)
set_option maxHeartbeats 2000000 in
set_option maxRecDepth 100000 in
theorem pattern_call {s : ByteArray} {i : Nat} (hs : s.size ≤ 1000000) (hi : i ≤ s.size) {l : List EL} {j : Nat} (h : patS (placeS s 20) s i = some (l, j)) (w : World) : Calls Tryz.prog 23 #[.string s, .int .i64 i] w (GotPT s w l j) := by
  have hK : ∀ (rb : Nat) (W : World), Rd rb s i W → Calls Tryz.prog 46 #[pt rb, .int .i64 0] W (GotP rb s W (some (l, j))) := fun rb W hr => by
    have := pattern_any (rb := rb) hs (d := 0) (by omega) (place_knot hs (in_knot hs rb) 20 1 rfl) (place_pos s 20) i W hr hi
    rw [h] at this
    exact this
  have HK := Lib.hid hK
  have z1 : decide ((i : Int) < 0) = false := decide_eq_false (by omega)
  have z2 : decide ((s.size : Int) < (i : Int)) = false := decide_eq_false (by omega)
  have z3 : ¬ (i : Int) < 0 := by omega
  have z4 : ¬ (s.size : Int) < (i : Int) := by omega
  have hi0 : (i : Int) ≤ 1000000 := by omega
  clear hK h
  unfold pt at HK
  go_enter Tryz.func23, Tryz.ntmps23
  go_wp2_with fail
  go_at_call 46
  refine (HK.out _ _ (BoxAt.new' _ _ _ _ (by simp))).mono ?_
  rintro e w2 ⟨h1, A, n, c, j', rfl, h2, hj, hn4, h3⟩
  obtain ⟨rfl, rfl, hp⟩ := h3 l j rfl
  have HB := Lib.hid (((Below.refl w.heap.size w).alloc (Nat.le_refl _) (.cells #[.string s, .int .i64 i] 62)).trans (h1.below.mono (by omega)))
  have HP := Lib.hid hp
  have d1 := h2.c1
  have hl2 := h2.lt
  have hj0 : (j : Int) ≤ 1000000 := by omega
  clear h1 h2 h3 hp HK
  go_wp2
  go_region
  go_wp2
  refine bodyPost_ret (v := .tuple #[.slice A l.length c, .int .i64 j, .bool true]) (by simp [results, Tryz.results23, go_sem]) rfl ?_
  refine ⟨HB.out.drew, A, c, rfl, PatF.carry (fun b hb => ?_) HP.out⟩
  obtain ⟨hb1, hb2⟩ := hb
  rw [World.size_alloc] at hb1
  exact ⟨⟨by omega, hb2⟩, rfl⟩
theorem pat_three {W : World} {F : Nat → Prop} {A : Option Addr} {n c : Nat} {t0 t1 t2 : ByteArray} {p1 : Option EX} (h : PatF W F [.mk t0 none, .mk t1 p1, .mk t2 none] (.slice A n c)) :
    ∃ b o, A = some ⟨b, o, none⟩ ∧ n = 3 ∧ F b ∧ W.cell? ⟨b, o, none⟩ = some (.string t0) ∧ W.cell? ⟨b, o + 4, none⟩ = some (.string t2) := by
  obtain ⟨A', c', e, _, _, h2⟩ := h
  simp only [Value.slice.injEq] at e
  obtain ⟨rfl, rfl, rfl⟩ := e
  obtain ⟨b, o, rfl, h3⟩ := h2 (by simp)
  rw [EsF, EsF, EsF] at h3
  obtain ⟨hb, h4, _, _, _, _, _, h5, _⟩ := h3
  exact ⟨b, o, rfl, rfl, hb, h4, h5⟩
theorem ex_two {W : World} {F : Nat → Prop} {k : Int} {t n a : ByteArray} {A1 : Option Addr} {n1 c1 : Nat} {ci cv : Value} {n' x1 x2 : ByteArray} {e1 e2 : EX} (h : ExF W F (.mk 5 E0 n' E0 [.mk x1 e1, .mk x2 e2] none []) ⟨.int .i64 k, .string t, .string n, .string a, .slice A1 n1 c1, ci, cv⟩) :
    k = 5 ∧ n1 = 2 ∧ ∃ b o, A1 = some ⟨b, o, none⟩ ∧ F b ∧ W.cell? ⟨b, o + 8, none⟩ = some (.string x2) := by
  rw [ExF] at h
  obtain ⟨h1, _, _, _, ⟨⟨A', c', e, _, _, h2⟩, _⟩, _⟩ := h
  cases h1
  simp only [Value.slice.injEq] at e
  obtain ⟨rfl, rfl, rfl⟩ := e
  obtain ⟨b, o, rfl, h3⟩ := h2 (by simp)
  rw [AsF, AsF] at h3
  obtain ⟨hb, _, _, _, h5, _⟩ := h3
  exact ⟨rfl, rfl, b, o, rfl, hb, h5⟩
set_option maxHeartbeats 2000000 in
set_option maxRecDepth 100000 in
theorem head08_any (w : World) : Calls Tryz.prog 8 #[] w fun e w' => e = .returned (.bool true) ∧ Below w.heap.size w w' := by
  have HP := Lib.hid (fun W => pattern_call (by decide) (Nat.zero_le _) s1_pat W)
  have hE := fun W => place_call (s := s2) (i := 0) (by decide) (Nat.zero_le _) W
  rw [s2_place] at hE
  have HE := Lib.hid hE
  clear hE
  go_enter Tryz.func8, Tryz.ntmps8
  go_wp2_with fail
  go_at_call 23
  refine (HP.out _).mono ?_
  rintro e w1 ⟨h1, A, c, rfl, h2⟩
  obtain ⟨b, o, rfl, _, hb, q0, q4⟩ := pat_three h2
  have HB1 := Lib.hid h1
  have hbl : b < w1.heap.size := hb.2
  clear h1 h2 hb
  go_wp2_with fail
  go_at_call 10
  refine (HE.out _).mono ?_
  rintro e w2 ⟨h1, k, t, n, a, A1, n1, c1, p, A2, n2, c2, j, rfl, hj, _, h3⟩
  obtain ⟨rfl, hx⟩ := h3 _ _ rfl
  obtain ⟨rfl, rfl, b2, o2, rfl, hb2, q8⟩ := ex_two hx
  have hbl2 : b2 < w2.heap.size := hb2.2
  have HB2 := Lib.hid (HB1.out.trans (h1.mono HB1.out.size))
  have e0 : w2.cell? ⟨b, o, none⟩ = some (.string ⟨#[97, 32]⟩) := (h1.cell (p := ⟨b, o, none⟩) hbl).trans q0
  have e4 : w2.cell? ⟨b, o + 4, none⟩ = some (.string ⟨#[10, 98]⟩) := (h1.cell (p := ⟨b, o + 4, none⟩) hbl).trans q4
  have hbl' : b < w2.heap.size := Nat.lt_of_lt_of_le hbl h1.size
  clear h1 h3 hx hb2 q0 q4
  unfold exV
  go_wp2
  go_ret
  exact ⟨rfl, HB2.out.alloc (by have := HB2.out.size; omega) _⟩
end Go.Proofs.YtdoambpiafkmmaaGreatDoor

namespace Go.Proofs.YtdoambpiafkmmaaGreatDoor
open Go.RowKit
set_option linter.unusedVariables false
set_option linter.unusedSimpArgs false
set_option maxHeartbeats 2000000 in
set_option maxRecDepth 100000 in
theorem pat_calls {s : ByteArray} (hs : s.size ≤ 1000000) : PatCall s := by
  intro i w hi
  have hK : ∀ (rb : Nat) (W : World), Rd rb s i W → Calls Tryz.prog 46 #[pt rb, .int .i64 0] W (GotP rb s W (patS (placeS s 20) s i)) := fun rb W hr =>
    pattern_any (rb := rb) hs (d := 0) (by omega) (place_knot hs (in_knot hs rb) 20 1 rfl) (place_pos s 20) i W hr hi
  obtain ⟨r, hr⟩ : ∃ r, patS (placeS s 20) s i = r := ⟨_, rfl⟩
  rw [hr] at hK ⊢
  have HK := Lib.hid hK
  have z1 : decide ((i : Int) < 0) = false := decide_eq_false (by omega)
  have z2 : decide ((s.size : Int) < (i : Int)) = false := decide_eq_false (by omega)
  have z3 : ¬ (i : Int) < 0 := by omega
  have z4 : ¬ (s.size : Int) < (i : Int) := by omega
  have hi0 : (i : Int) ≤ 1000000 := by omega
  clear hK hr
  unfold pt at HK
  go_enter Tryz.func23, Tryz.ntmps23
  go_wp2_with fail
  go_at_call 46
  refine (HK.out _ _ (BoxAt.new' _ _ _ _ (by simp))).mono ?_
  rintro e w2 ⟨h1, A, n, c, j', rfl, h2, hj, hn4, h3⟩
  have HB := Lib.hid (((Below.refl w.heap.size w).alloc (Nat.le_refl _) (.cells #[.string s, .int .i64 i] 62)).trans (h1.below.mono (by omega)))
  have H3 := Lib.hid h3
  have d1 := h2.c1
  have hl2 := h2.lt
  have hj0 : (j' : Int) ≤ 1000000 := by omega
  clear h1 h2 h3 HK
  cases r with
  | none =>
    go_wp2
    refine bodyPost_ret (v := .tuple #[.slice none 0 0, .int .i64 0, .bool false]) (by simp [results, Tryz.results23, go_sem]) rfl ?_
    exact ⟨HB.out, none, 0, 0, 0, rfl, Nat.zero_le _, Nat.zero_le _, fun l m h => by cases h⟩
  | some v =>
    obtain ⟨l, m⟩ := v
    obtain ⟨rfl, rfl, hp⟩ := H3.out l m rfl
    have HP := Lib.hid hp
    clear hp H3
    go_wp2
    go_region
    go_wp2
    refine bodyPost_ret (v := .tuple #[.slice A l.length c, .int .i64 m, .bool true]) (by simp [results, Tryz.results23, go_sem]) rfl ?_
    refine ⟨HB.out.drew, A, l.length, c, m, rfl, hj, hn4, fun l' m' h => ?_⟩
    cases h
    refine ⟨rfl, rfl, PatF.carry (fun b hb => ?_) HP.out⟩
    obtain ⟨hb1, hb2⟩ := hb
    rw [World.size_alloc] at hb1
    exact ⟨⟨by omega, hb2⟩, rfl⟩
end Go.Proofs.YtdoambpiafkmmaaGreatDoor

namespace Go.Proofs.YtdoambpiafkmmaaGreatDoor
open Go.RowKit
set_option linter.unusedVariables false
set_option linter.unusedSimpArgs false
abbrev h9 : ByteArray := ⟨#[97, 32, 61, 32, 49, 10, 46, 98, 10, 99, 32, 61, 10, 32, 32, 46, 100, 32, 61, 32, 50, 10]⟩
theorem h9_nl1 : nlS h9 0 5 5 = (1, 6, 6) := by
  rw [nlS, dif_pos (of_decide_eq_true (by kernel_rfl)), nlS, dif_neg (not_b (by kernel_rfl))]
  kernel_rfl
theorem h9_nl2 : nlS h9 0 12 12 = (1, 13, 15) := by
  rw [nlS, dif_pos (of_decide_eq_true (by kernel_rfl)), nlS, dif_neg (not_b (by kernel_rfl))]
  kernel_rfl
theorem h9_nl3 : nlS h9 0 21 21 = (1, 22, 22) := by
  rw [nlS, dif_pos (of_decide_eq_true (by kernel_rfl)), nlS, dif_neg (not_b (by kernel_rfl))]
  kernel_rfl
theorem h9_next1 : nextS h9 5 = none := by
  unfold nextS
  rw [h9_nl1]
  kernel_rfl
theorem h9_next2 : nextS h9 12 = none := by
  unfold nextS
  rw [h9_nl2]
  kernel_rfl
theorem h9_next3 : nextS h9 21 = none := by
  unfold nextS
  rw [h9_nl3]
  kernel_rfl
theorem h9_parts1 (P : Nat → Res) : partsS P h9 [] 4 = some ([.mk ⟨#[49]⟩ none], 5) := by
  rw [partsS, if_neg (not_b (by kernel_rfl))]
  kernel_rfl
theorem h9_parts2 (P : Nat → Res) : partsS P h9 [] 12 = some ([], 12) := by
  rw [partsS, if_neg (not_b (by kernel_rfl))]
  kernel_rfl
theorem h9_parts3 (P : Nat → Res) : partsS P h9 [] 20 = some ([.mk ⟨#[50]⟩ none], 21) := by
  rw [partsS, if_neg (not_b (by kernel_rfl))]
  kernel_rfl
theorem h9_pat1 (P : Nat → Res) : patS P h9 3 = some ([.mk ⟨#[49]⟩ none], 5) := by
  unfold patS
  rw [show sp h9 3 = 4 by kernel_rfl, linesS, h9_parts1]
  dsimp only
  rw [h9_next1]
  kernel_rfl
theorem h9_pat2 (P : Nat → Res) : patS P h9 12 = some ([], 12) := by
  unfold patS
  rw [show sp h9 12 = 12 by kernel_rfl, linesS, h9_parts2]
  dsimp only
  rw [h9_next2]
  kernel_rfl
theorem h9_pat3 (P : Nat → Res) : patS P h9 19 = some ([.mk ⟨#[50]⟩ none], 21) := by
  unfold patS
  rw [show sp h9 19 = 20 by kernel_rfl, linesS, h9_parts3]
  dsimp only
  rw [h9_next3]
  kernel_rfl
theorem h9_named1 : namedS h9 0 = some (⟨#[97]⟩, [.mk ⟨#[49]⟩ none], 5) := by
  unfold namedS
  rw [show nm h9 0 = 1 by kernel_rfl, show sp h9 1 = 2 by kernel_rfl, if_neg (by decide), if_pos (by kernel_rfl), h9_pat1]
  dsimp only
  rw [if_pos (Or.inr (by kernel_rfl))]
  kernel_rfl
theorem h9_named2 : namedS h9 9 = some (⟨#[99]⟩, [], 12) := by
  unfold namedS
  rw [show nm h9 9 = 10 by kernel_rfl, show sp h9 10 = 11 by kernel_rfl, if_neg (by decide), if_pos (by kernel_rfl), h9_pat2]
  dsimp only
  rw [if_pos (Or.inr (by kernel_rfl))]
  kernel_rfl
theorem h9_named3 : namedS h9 16 = some (⟨#[100]⟩, [.mk ⟨#[50]⟩ none], 21) := by
  unfold namedS
  rw [show nm h9 16 = 17 by kernel_rfl, show sp h9 17 = 18 by kernel_rfl, if_neg (by decide), if_pos (by kernel_rfl), h9_pat3]
  dsimp only
  rw [if_pos (Or.inr (by kernel_rfl))]
  kernel_rfl
theorem h9_namedJ : namedS h9 6 = none := by
  unfold namedS
  rw [if_pos (by kernel_rfl)]
theorem h9_attr1 : attrS h9 5 = none := by
  unfold attrS
  rw [if_neg (not_b (by kernel_rfl))]
theorem h9_attr2 : attrS h9 12 = some (⟨#[100]⟩, [.mk ⟨#[50]⟩ none], 21) := by
  unfold attrS
  rw [if_pos (by kernel_rfl), show bl h9 12 + 1 = 16 by kernel_rfl, h9_named3]
  kernel_rfl
theorem h9_attr3 : attrS h9 21 = none := by
  unfold attrS
  rw [if_neg (not_b (by kernel_rfl))]
theorem h9_ats1 : atsS h9 [] 5 = ([], 5) := by rw [atsS, h9_attr1]
theorem h9_ats2 : atsS h9 [] 12 = ([.mk ⟨#[100]⟩ [.mk ⟨#[50]⟩ none]], 21) := by
  rw [atsS, h9_attr2]
  dsimp only
  rw [dif_pos (of_decide_eq_true (by kernel_rfl)), atsS, h9_attr3]
  rfl
theorem h9_read1 : readS h9 0 = ⟨1, 0, E0, ⟨#[97]⟩, [.mk ⟨#[49]⟩ none], [], 0, 6⟩ := by
  unfold readS comS
  rw [if_pos (by kernel_rfl)]
  dsimp only
  unfold msgS
  rw [show (if isAt h9 0 45 = true then 0 + 1 else 0) = 0 by kernel_rfl, h9_named1]
  dsimp only
  rw [h9_ats1]
  kernel_rfl
theorem h9_junk : junkTo h9 9 = 9 := by
  rw [junkTo, dif_neg (fun h => by have := h.2; rw [show mayB h9 9 = true by kernel_rfl] at this; cases this)]
theorem h9_read2 : readS h9 6 = ⟨3, 0, ⟨#[46, 98, 10]⟩, E0, [], [], 6, 9⟩ := by
  unfold readS comS
  rw [if_pos (by kernel_rfl)]
  dsimp only
  unfold msgS
  rw [show (if isAt h9 6 45 = true then 6 + 1 else 6) = 6 by kernel_rfl, h9_namedJ]
  dsimp only
  unfold junkS
  rw [show beh h9 6 = 9 by kernel_rfl, h9_junk]
  kernel_rfl
theorem h9_read3 : readS h9 9 = ⟨1, 0, E0, ⟨#[99]⟩, [], [.mk ⟨#[100]⟩ [.mk ⟨#[50]⟩ none]], 9, 22⟩ := by
  unfold readS comS
  rw [if_pos (by kernel_rfl)]
  dsimp only
  unfold msgS
  rw [show (if isAt h9 9 45 = true then 9 + 1 else 9) = 9 by kernel_rfl, h9_named2]
  dsimp only
  rw [h9_ats2]
  kernel_rfl
theorem h9_pass (k : Nat) (h : k = 0 ∨ k = 6 ∨ k = 9) : passE h9 k = k := by
  rcases h with rfl | rfl | rfl
  · rw [passE, dif_pos (by decide), if_pos ⟨of_decide_eq_true (by kernel_rfl), by kernel_rfl⟩]
  · rw [passE, dif_pos (by decide), if_pos ⟨of_decide_eq_true (by kernel_rfl), by kernel_rfl⟩]
  · rw [passE, dif_pos (by decide), if_pos ⟨of_decide_eq_true (by kernel_rfl), by kernel_rfl⟩]
theorem h9_passE : passE h9 22 = 22 := by rw [passE, dif_neg (by decide)]
abbrev l9 : List EN := [⟨1, 0, E0, ⟨#[97]⟩, [.mk ⟨#[49]⟩ none], [], 0, 6⟩, ⟨3, 0, ⟨#[46, 98, 10]⟩, E0, [], [], 6, 9⟩, ⟨1, 0, E0, ⟨#[99]⟩, [], [.mk ⟨#[100]⟩ [.mk ⟨#[50]⟩ none]], 9, 22⟩]
theorem h9_parse : parseS h9 = l9 := by
  unfold parseS
  rw [h9_pass 0 (by decide), (parseGo_step h9 [] 0 (by decide)).1, h9_read1]
  dsimp only
  rw [h9_pass 6 (by decide), (parseGo_step h9 _ 6 (by decide)).1, h9_read2]
  dsimp only
  rw [h9_pass 9 (by decide), (parseGo_step h9 _ 9 (by decide)).1, h9_read3]
  dsimp only
  rw [h9_passE, parseGo_end h9 _ 22 (by decide)]
  rfl
theorem NsF.get {W : World} {F : Nat → Prop} : ∀ {l : List EN} {b o : Nat} (j : Nat) {x : EN}, NsF W F l b o → l[j]? = some x →
    F b ∧ (∃ (A : Option Addr) (c : Nat) (B : Option Addr) (d : Nat), W.cell? ⟨b, o + j * 8, none⟩ = some (.int .i64 x.ty) ∧ W.cell? ⟨b, o + j * 8 + 1, none⟩ = some (.int .i64 x.lv) ∧ W.cell? ⟨b, o + j * 8 + 2, none⟩ = some (.string x.tx) ∧ W.cell? ⟨b, o + j * 8 + 3, none⟩ = some (.string x.nm) ∧
      W.cell? ⟨b, o + j * 8 + 4, none⟩ = some (.slice A x.val.length c) ∧ W.cell? ⟨b, o + j * 8 + 5, none⟩ = some (.slice B x.ats.length d) ∧ W.cell? ⟨b, o + j * 8 + 6, none⟩ = some (.int .i64 x.fr) ∧ W.cell? ⟨b, o + j * 8 + 7, none⟩ = some (.int .i64 x.tu) ∧
      PatF W F x.val (.slice A x.val.length c) ∧ AtsF W F x.ats (.slice B x.ats.length d))
  | [], b, o, j, x, h, hj => by simp at hj
  | y :: r, b, o, 0, x, h, hj => by
    rw [NsF] at h
    simp at hj
    subst hj
    rw [Nat.zero_mul]
    exact ⟨h.1, h.2.1⟩
  | y :: r, b, o, j + 1, x, h, hj => by
    rw [NsF] at h
    have := NsF.get j h.2.2 (by simpa using hj)
    rw [show o + (j + 1) * 8 = o + 8 + j * 8 by omega]
    exact this
theorem list_at {W : World} {F : Nat → Prop} {l : List EN} {A : Option Addr} {c : Nat} (h : ListF W F l (.slice A l.length c)) (h0 : 0 < l.length) : ∃ b o, A = some ⟨b, o, none⟩ ∧ NsF W F l b o := by
  obtain ⟨A', c', e, _, _, h2⟩ := h
  simp only [Value.slice.injEq] at e
  obtain ⟨rfl, _, rfl⟩ := e
  exact h2 h0
set_option maxHeartbeats 4000000 in
set_option maxRecDepth 100000 in
theorem head09_any (w : World) : Calls Tryz.prog 14 #[] w fun e w' => e = .returned (.bool true) ∧ Below w.heap.size w w' := by
  have hP := fun W => parse_call (pat_calls (s := h9) (by decide)) (by decide) W
  rw [h9_parse] at hP
  have HP := Lib.hid hP
  clear hP
  go_enter Tryz.func14, Tryz.ntmps14
  go_wp2_with fail
  go_at_call 15
  refine (HP.out _).mono ?_
  rintro e w1 ⟨hb1, A, c, rfl, hl⟩
  have HB1 := Lib.hid hb1
  obtain ⟨b, o, rfl, hn⟩ := list_at hl (by decide)
  obtain ⟨_, A0, c0, B0, d0, p0, _⟩ := hn.get 0 rfl
  obtain ⟨_, A1, c1, B1, d1, q0, _, q2, _⟩ := hn.get 1 rfl
  obtain ⟨_, A2, c2, B2, d2, r0, _, _, _, r4, r5, _⟩ := hn.get 2 rfl
  clear hb1 hl hn HP
  simp only [Nat.zero_mul, Nat.one_mul, Nat.add_zero, List.length_nil, List.length_cons] at p0 q0 q2 r0 r4 r5
  go_wp2
  go_ret
  exact ⟨rfl, HB1.out⟩
end Go.Proofs.YtdoambpiafkmmaaGreatDoor

namespace Go.Proofs.YtdoambpiafkmmaaGreatDoor
open Go.RowKit
set_option linter.unusedVariables false
set_option linter.unusedSimpArgs false
theorem enters_texts : Enters 45 := fun args w => by go_simp
def upT (s : ByteArray) (st : List ByteArray × Nat) (p : Nat) : List ByteArray × Nat :=
  if st.2 < min p s.size then (st.1 ++ [s.extract st.2 (min p s.size)], min p s.size) else st
structure UpAt (B : Nat) (wr : World) (x y z : Nat) (s : ByteArray) (st : List ByteArray × Nat) (V : Value) : Prop where
  bx : BoxAt wr x #[.string s] 9
  by_ : BoxAt wr y #[.int .i64 st.2] 3
  bz : BoxAt wr z #[V] 49
  row : wr.ownsRow B 9 1 V st.1.length (st.1.map strV9)
  hp : st.2 ≤ s.size ∧ st.1.length ≤ st.2
theorem UpAt.later {B x y z : Nat} {w w' : World} {s : ByteArray} {st : List ByteArray × Nat} {V : Value} (h : UpAt B w x y z s st V) (hb : Below w.heap.size w w') : UpAt B w' x y z s st V :=
  ⟨h.bx.later hb, h.by_.later hb, h.bz.later hb, h.row.kept (⟨hb.os, hb.tape, hb.output, hb.size, fun k hk _ => hb.block k hk⟩ : w.grownBy w' none) (by by_cases h : V.ownBlock = none; exact .inl h; exact .inr h), h.hp⟩
theorem new1 (w : World) (t : TypeId) {x0 : Value} : ∀ j u, ([x0] : List Value)[j]? = some u → (w.alloc (.cells #[x0] t)).cell? ((⟨w.heap.size, 0, none⟩ : Addr).add j) = some u := by
  intro j u hj
  rw [Addr.add_mid, Nat.zero_add]
  have := BoxAt.cell (BoxAt.new w #[x0] t) j
  rw [this]
  simpa using hj
theorem one_s (x : ByteArray) : ∀ u ∈ ([.string x] : List Value), u.oneCell' = true := by
  intro u hu; simp at hu; subst hu; rfl
theorem box_set1 {w : World} {E : Nat} {x0 : Value} {t : TypeId} (h : BoxAt w E #[x0] t) (y0 : Value) : BoxAt (w.setCell ⟨E, 0, none⟩ y0) E #[y0] t := by
  unfold BoxAt at h ⊢
  simp [World.setCell, Array.getElem?_modify, h]
theorem row_set {w : World} {B : Nat} {e : TypeId} {v : Value} {n : Nat} {xs : List Value} (h : w.ownsRow B e 1 v n xs) {nb : Nat} (hb : nb < B) (o : Nat) (x : Value) : (w.setCell ⟨nb, o, none⟩ x).ownsRow B e 1 v n xs :=
  h.kept (row := some nb) ⟨rfl, rfl, rfl, by simp, fun k _ hk => Below.heap_setCell _ _ _ _ (fun e => hk (by simp [e]))⟩ (.inr (fun e => by have := (h.lt nb e).1; omega))
set_option maxHeartbeats 4000000 in
set_option maxRecDepth 100000 in
theorem texts1_any {B x y z : Nat} {wr : World} {s : ByteArray} {st : List ByteArray × Nat} {V : Value} (h : UpAt B wr x y z s st V) (hs : s.size ≤ 1000000) (hB : B ≤ wr.heap.size) (p : Nat) (hp : p ≤ 4000000) (hxB : x < B) (hyB : y < B) (hzB : z < B) (hxy : x ≠ y) (hxz : x ≠ z) (hyz : y ≠ z) (b0 : Nat) (hb0 : b0 ≤ x ∧ b0 ≤ y ∧ b0 ≤ z) :
    Calls Tryz.prog 45 #[.int .i64 p, .pointer (some ⟨x, 0, none⟩), .pointer (some ⟨y, 0, none⟩), .pointer (some ⟨z, 0, none⟩)] wr fun e w' => e = .returned (.tuple #[]) ∧ Below b0 wr w' ∧ (∀ k, k < wr.heap.size → B ≤ k → V.ownBlock ≠ some k → w'.heap[k]? = wr.heap[k]?) ∧ ∃ V', UpAt B w' x y z s (upT s st p) V' := by
  obtain ⟨i0, hi, hz0, hz1, hz2⟩ := info_parts infoStr
  obtain ⟨acc, a⟩ := st
  obtain ⟨q, hq⟩ : ∃ q, min p s.size = q := ⟨_, rfl⟩
  have hqs : q ≤ s.size := by omega
  have hmin : min (p : Int) (s.size : Int) = (q : Int) := by omega
  unfold upT
  dsimp only
  rw [hq]
  have c1 := h.bx.cell 0
  have c2 := h.by_.cell 0
  have c3 := h.bz.cell 0
  simp at c1 c2 c3
  have f2 := Lib.frozen_of_heap h.by_ 0
  have f3 := Lib.frozen_of_heap h.bz 0
  have l1 := h.bx.lt
  have l2 := h.by_.lt
  have l3 := h.bz.lt
  have hp2 : a ≤ s.size ∧ acc.length ≤ a := h.hp
  have ha0 : (a : Int) ≤ 1000000 := by omega
  have hq0 : (q : Int) ≤ 1000000 := by omega
  have hss : (s.size : Int) ≤ 1000000 := by omega
  have hpp : (p : Int) ≤ 4000000 := by omega
  have H := Lib.hid h
  clear h hq
  by_cases hlt : a < q
  · have d1 : decide ((a : Int) < (q : Int)) = true := decide_eq_true (by omega)
    have d2 : (a : Int) < (q : Int) := by omega
    have d3 : (q : Int) ≤ (s.size : Int) := by omega
    have d4 : (a : Int) ≤ (q : Int) := by omega
    have d5 : (0 : Int) ≤ (a : Int) := by omega
    have d6 : (0 : Int) ≤ (q : Int) := by omega
    rw [if_pos hlt]
    have hrow := H.out.row
    have HRow := Lib.hid hrow
    have Hv := Lib.hid (fun g e => hrow.lt g e)
    have hNz : some z ≠ V.ownBlock := fun e => by have := (Hv.out z e.symm).1; omega
    have hNy : some y ≠ V.ownBlock := fun e => by have := (Hv.out y e.symm).1; omega
    have hNx : some x ≠ V.ownBlock := fun e => by have := (Hv.out x e.symm).1; omega
    have HNz := Lib.hid hNz
    have HNy := Lib.hid hNy
    have HNx := Lib.hid hNx
    have B1 := Lib.hid (show acc.length + 1 ≤ maxLen by unfold maxLen; omega)
    have B2 := Lib.hid (show (acc.length + 1) * 16 ≤ 140737488355328 by omega)
    have B3 := Lib.hid hB
    have E3 := Lib.hid (fun o => show (wr.drew.alloc o).cell? ⟨z, 0, none⟩ = some V from BoxAt.cell (BoxAt.alloc (w := wr.drew) H.out.bz o) 0)
    have E2 := Lib.hid (fun o => show (wr.drew.alloc o).cell? ⟨y, 0, none⟩ = some (.int .i64 a) from BoxAt.cell (BoxAt.alloc (w := wr.drew) H.out.by_ o) 0)
    have F3 := Lib.hid (fun o => Lib.frozen_of_heap (BoxAt.alloc (w := wr.drew) H.out.bz o) 0)
    have F2 := Lib.hid (fun o => Lib.frozen_of_heap (BoxAt.alloc (w := wr.drew) H.out.by_ o) 0)
    have G3 := Lib.hid (fun o => BoxAt.lt (BoxAt.alloc (w := wr.drew) H.out.bz o))
    have G2 := Lib.hid (fun o => BoxAt.lt (BoxAt.alloc (w := wr.drew) H.out.by_ o))
    clear hrow hNz hNy hNx
    go_enter Tryz.func45, Tryz.ntmps45
    go_wp2_with fail
    go_region_law (refine step_append_own rfl (.tmp 13) (.tmp 18) 49 rfl B 9 i0 (.string ⟨#[]⟩) 1 16 Tryz.underlying49 hi hz0 hz1 hz2 rfl (by decide) V acc.length (acc.map strV9) (by simp [Act.eval, Act.put]) (HRow.out.drew.alloc _) ⟨wr.heap.size, 0, none⟩ 1 1 [.string (s.extract a q)] (by simp [Act.eval, Act.put]) rfl (new1 _ _) (one_s _) B1.out B2.out (by show B ≤ (wr.alloc _).heap.size; rw [World.size_alloc]; exact Nat.le_succ_of_le B3.out) (by decide) ?_; intro v' w' hown hgrow hwh; obtain ⟨gA, cA, rfl⟩ := own_some hown; have s3 := hgrow.cell (a := ⟨z, 0, none⟩) (E3.out _) HNz.out; have s2 := hgrow.cell (a := ⟨y, 0, none⟩) (E2.out _) HNy.out; have r3 := (World.frozen?_of_block (a := ⟨z, 0, none⟩) (hgrow.block z (G3.out _) HNz.out)).trans (F3.out _); have r2 := (World.frozen?_of_block (a := ⟨y, 0, none⟩) (hgrow.block y (G2.out _) HNy.out)).trans (F2.out _); have hOwn := Lib.hid hown; have hGrow := Lib.hid hgrow; clear hown hgrow hwh)
    all_goals
      go_wp2_with fail
      go_end0
      have hlx := BoxAt.lt (BoxAt.alloc (w := wr.drew) H.out.bx (.cells #[.string (s.extract a q)] 9))
      have hx1 : BoxAt w' x #[.string s] 9 := (hGrow.out.block x hlx HNx.out).trans (BoxAt.alloc (w := wr.drew) H.out.bx _)
      have hy1 : BoxAt w' y #[.int .i64 a] 3 := (hGrow.out.block y (G2.out _) HNy.out).trans (BoxAt.alloc (w := wr.drew) H.out.by_ _)
      have hz1 : BoxAt w' z #[V] 49 := (hGrow.out.block z (G3.out _) HNz.out).trans (BoxAt.alloc (w := wr.drew) H.out.bz _)
      have hbel : Below b0 wr w' := (((Below.refl b0 wr).drew.alloc (by show b0 ≤ wr.heap.size; omega) _).grown hGrow.out (by rw [World.size_alloc]; show b0 ≤ wr.heap.size + 1; omega) (fun k e => by have := (Hv.out k e).1; omega))
      refine ⟨rfl, (hbel.setCell (p := ⟨z, 0, none⟩) hb0.2.2 _).setCell (p := ⟨y, 0, none⟩) hb0.2.1 _, fun k hk hBk hV => ?_, _, ⟨(hx1.setOther ⟨z, 0, none⟩ _ hxz).setOther ⟨y, 0, none⟩ _ hxy, box_set1 (hy1.setOther ⟨z, 0, none⟩ _ hyz) _, (box_set1 hz1 _).setOther ⟨y, 0, none⟩ _ (fun e => hyz e.symm), ?_, ?_⟩⟩
      · rw [Below.heap_setCell _ _ _ k (by show k ≠ y; omega), Below.heap_setCell _ _ _ k (by show k ≠ z; omega)]
        exact (hGrow.out.block k (by show k < (World.alloc _ _).heap.size; rw [World.size_alloc]; omega) (fun e => hV e.symm)).trans (Lib.alloc_old _ _ k hk)
      · have := row_set (row_set hOwn.out hzB 0 (.slice (some ⟨gA, 0, none⟩) (acc.length + 1) cA)) hyB 0 (.int .i64 q)
        rw [List.length_append, List.length_singleton, List.map_append]
        exact this
      · exact ⟨hqs, by rw [List.length_append, List.length_singleton]; omega⟩
  · have d1 : decide ((a : Int) < (q : Int)) = false := decide_eq_false (by omega)
    have d2 : ¬ (a : Int) < (q : Int) := by omega
    rw [if_neg hlt]
    go_enter Tryz.func45, Tryz.ntmps45
    go_wp2
    go_end0
    exact ⟨rfl, Below.refl _ _, fun _ _ _ _ => rfl, V, H.out⟩
end Go.Proofs.YtdoambpiafkmmaaGreatDoor
