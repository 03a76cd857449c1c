/-
  Several texts put together (part 14): what the law and the program call, walked; their contracts.
-/
import Derived.Test.YtdoambpiafkmmaaGreatDoorQ13
namespace Go.Proofs.YtdoambpiafkmmaaGreatDoor
open Go.RowKit
set_option linter.unusedVariables false
set_option linter.unusedSimpArgs false
def EnF (W : World) (F : Nat → Prop) (x : EN) (v : Value) : Prop := ∃ (A : Option Addr) (c : Nat) (B : Option Addr) (d : Nat), v = entV x.ty x.lv x.tx x.nm (.slice A x.val.length c) (.slice B x.ats.length d) x.fr x.tu ∧
  PatF W F x.val (.slice A x.val.length c) ∧ AtsF W F x.ats (.slice B x.ats.length d)
theorem EnF.carry {W W' : World} {F F' : Nat → Prop} (g : ∀ b, F b → F' b ∧ W'.heap[b]? = W.heap[b]?) {x : EN} {v : Value} (h : EnF W F x v) : EnF W' F' x v := by
  obtain ⟨A, c, B, d, h1, h2, h3⟩ := h
  exact ⟨A, c, B, d, h1, h2.carry g, h3.carry g⟩
def GotE (s : ByteArray) (w : World) (r : Option EN) (e : Ending) (w' : World) : Prop :=
  Below w.heap.size w w' ∧ ∃ (ty lv : Int) (tx nm : ByteArray) (A : Option Addr) (n c : Nat) (B : Option Addr) (m d : Nat) (fr tu : Int), e = .returned (.tuple #[entV ty lv tx nm (.slice A n c) (.slice B m d) fr tu, .bool r.isSome]) ∧
    ∀ x, r = some x → EnF w' (Since w.heap.size w') x (entV ty lv tx nm (.slice A n c) (.slice B m d) fr tu)
set_option maxRecDepth 100000 in
theorem res8e {fn : Func} {A M : Nat} {tmps : Array Value} {w : World} {b : Nat} {x0 x1 x2 x3 x4 x5 x6 x7 v : Value} {t : TypeId} (hres : fn.results = #[.cell A 45, .tmp M]) (ha : tmps.getD A undef = .pointer (some ⟨b, 0, none⟩)) (hm : tmps.getD M undef = v)
    (hb : BoxAt w b #[x0, x1, x2, x3, x4, x5, x6, x7] t) : (results fn tmps).run Tryz.prog w = .ok (.tuple #[.agg #[x0, x1, x2, x3, x4, x5, x6, x7], v]) w := by
  obtain ⟨q0, q1, q2, q3, q4, q5, q6, q7, _⟩ := cellsE hb
  have ha' : tmps[A]?.getD undef = .pointer (some ⟨b, 0, none⟩) := by rw [← ha]; simp
  have hm' : tmps[M]?.getD undef = v := by rw [← hm]; simp
  simp [results, hres, ha', hm', go_sem, q0, q1, q2, q3, q4, q5, q6, q7]
theorem end8e {fn : Func} {R : Ending → World → Prop} {a : Act} {w2 : World} {A M b : Nat} {x0 x1 x2 x3 x4 x5 x6 x7 v : Value} {t : TypeId} (hres : fn.results = #[.cell A 45, .tmp M]) (hbox : BoxAt w2 b #[x0, x1, x2, x3, x4, x5, x6, x7] t)
    (ha : a.tmps.getD A undef = .pointer (some ⟨b, 0, none⟩)) (hm : a.tmps.getD M undef = v) (hd : a.defers = []) (hR : R (.returned (.tuple #[.agg #[x0, x1, x2, x3, x4, x5, x6, x7], v])) w2) : bodyPost Tryz.prog fn R .ret a w2 :=
  bodyPost_ret (res8e hres ha hm hbox) hd hR
theorem box_e34 {w : World} {E : Nat} {x0 x1 x2 x3 x4 x5 x6 x7 : Value} {t : TypeId} (h : BoxAt w E #[x0, x1, x2, x3, x4, x5, x6, x7] t) (y3 y4 : Value) :
    BoxAt ((w.setCell ⟨E, 3, none⟩ y3).setCell ⟨E, 4, none⟩ y4) E #[x0, x1, x2, y3, y4, x5, x6, x7] t := by
  unfold BoxAt at h ⊢
  simp [World.setCell, Array.getElem?_modify, h]
theorem box_e0 {w : World} {E : Nat} {x0 x1 x2 x3 x4 x5 x6 x7 : Value} {t : TypeId} (h : BoxAt w E #[x0, x1, x2, x3, x4, x5, x6, x7] t) (y : Value) :
    BoxAt (w.setCell ⟨E, 0, none⟩ y) E #[y, x1, x2, x3, x4, x5, x6, x7] t := by
  unfold BoxAt at h ⊢
  simp [World.setCell, Array.getElem?_modify, h]
theorem box_e5 {w : World} {E : Nat} {x0 x1 x2 x3 x4 x5 x6 x7 : Value} {t : TypeId} (h : BoxAt w E #[x0, x1, x2, x3, x4, x5, x6, x7] t) (y : Value) :
    BoxAt (w.setCell ⟨E, 5, none⟩ y) E #[x0, x1, x2, x3, x4, y, x6, x7] t := by
  unfold BoxAt at h ⊢
  simp [World.setCell, Array.getElem?_modify, h]
theorem box_e7 {w : World} {E : Nat} {x0 x1 x2 x3 x4 x5 x6 x7 : Value} {t : TypeId} (h : BoxAt w E #[x0, x1, x2, x3, x4, x5, x6, x7] t) (y : Value) :
    BoxAt (w.setCell ⟨E, 7, none⟩ y) E #[x0, x1, x2, x3, x4, x5, x6, y] t := by
  unfold BoxAt at h ⊢
  simp [World.setCell, Array.getElem?_modify, h]
theorem msg_car {w w2 : World} (a b x0 x1 x2 x3 x4 x5 x6 x7 : Value) : ∀ z, Since (w.heap.size + 2) w2 z → Since w.heap.size (set8 ((w2.setCell ⟨w.heap.size + 1, 5, none⟩ a).setCell ⟨w.heap.size + 1, 7, none⟩ b) w.heap.size x0 x1 x2 x3 x4 x5 x6 x7) z ∧
    (set8 ((w2.setCell ⟨w.heap.size + 1, 5, none⟩ a).setCell ⟨w.heap.size + 1, 7, none⟩ b) w.heap.size x0 x1 x2 x3 x4 x5 x6 x7).heap[z]? = w2.heap[z]? := fun z hz => by
  obtain ⟨z1, z2⟩ := hz
  refine ⟨⟨by omega, by rw [set8_size]; simpa using z2⟩, ?_⟩
  rw [set8_heap _ _ _ _ _ _ _ _ _ _ z (by omega), Below.heap_setCell _ _ _ z (by show z ≠ w.heap.size + 1; omega), Below.heap_setCell _ _ _ z (by show z ≠ w.heap.size + 1; omega)]
set_option maxHeartbeats 4000000 in
set_option maxRecDepth 100000 in
theorem message_call {s : ByteArray} (hPC : PatCall s) (hs : s.size ≤ 1000000) (i : Nat) (hi : i ≤ s.size) (w : World) : Calls Tryz.prog 65 #[.string s, .int .i64 i] w (GotE s w (msgS s i)) := by
  obtain ⟨R, hR⟩ : ∃ R, msgS s i = R := ⟨_, rfl⟩
  rw [hR]
  unfold msgS at hR
  have hx := isAt_prefix s i 45 hi
  have hp := fun W => Tryz.strings_HasPrefix (s.extract i s.size) ⟨#[45]⟩ W
  rw [hx] at hp
  obtain ⟨b, hb⟩ : ∃ b, isAt s i 45 = b := ⟨_, rfl⟩
  have hq1 : b = true → i + 1 ≤ s.size := fun h => isAt_lt (hb.trans h)
  rw [hb] at hp hR
  have HP := Lib.hid hp
  have hi0 : (i : Int) ≤ 1000000 := by omega
  have hss : (s.size : Int) ≤ 1000000 := by omega
  obtain ⟨q, hq⟩ : ∃ q, (if b = true then i + 1 else i) = q := ⟨_, rfl⟩
  rw [hq] at hR
  have hqs : q ≤ s.size := by
    cases b
    · simp at hq; omega
    · simp at hq; have := hq1 rfl; omega
  have hN := fun W => named_call hPC hs q hqs W
  have hpos := fun x l e h => named_pos hqs (x := x) (l := l) (e := e) h
  obtain ⟨r, hr⟩ : ∃ r, namedS s q = r := ⟨_, rfl⟩
  rw [hr] at hN hR hpos
  obtain ⟨ty, hty⟩ : ∃ ty : Int, (if b = true then 2 else 1) = ty := ⟨_, rfl⟩
  have hc0 : BoxAt ((w.alloc (.cells zEn 45)).alloc (.cells #[.int .i64 1, .int .i64 0, .string ⟨#[]⟩, .string ⟨#[]⟩, .slice none 0 0, .slice none 0 0, .int .i64 i, .int .i64 0] 45)) w.heap.size zEn 45 := (BoxAt.new w zEn 45).alloc _
  have hd0 : BoxAt ((w.alloc (.cells zEn 45)).alloc (.cells #[.int .i64 1, .int .i64 0, .string ⟨#[]⟩, .string ⟨#[]⟩, .slice none 0 0, .slice none 0 0, .int .i64 i, .int .i64 0] 45)) (w.heap.size + 1) #[.int .i64 1, .int .i64 0, .string ⟨#[]⟩, .string ⟨#[]⟩, .slice none 0 0, .slice none 0 0, .int .i64 i, .int .i64 0] 45 := BoxAt.new' _ _ _ _ (by simp)
  have HC0 := Lib.hid hc0
  have HD0 := Lib.hid hd0
  have HN := Lib.hid hN
  have HR := Lib.hid hR
  have Hpos := Lib.hid hpos
  have HA := Lib.hid (fun j W (h1 : 1 ≤ j) (hj : j ≤ s.size) => attrs_call hPC hs j h1 hj W)
  have HBe := Lib.hid (fun j W (hj : j ≤ s.size) => behind_any s j (by omega) hj W)
  clear hp hx hb hc0 hd0 hN hR hpos hr hPC
  cases b
  case false =>
    obtain rfl : i = q := by simpa using hq
    have hTy : ty = 1 := by rw [← hty]; rfl
    subst hTy
    clear hq hty
    go_enter Tryz.func65, Tryz.ntmps65
    go_wp2_with fail
    go_at_call 72
    refine (HP.out _).mono ?_
    rintro e w1 ⟨rfl, rfl⟩
    go_wp2_with fail
    go_at_call 85
    refine (HN.out _).mono ?_
    rintro e w1 ⟨hb1, X, A, n, c, j, rfl, hj, hn4, h3⟩
    have HB1 := Lib.hid ((((Below.refl w.heap.size w).alloc (Nat.le_refl _) (.cells zEn 45)).alloc (by simp) (.cells #[.int .i64 1, .int .i64 0, .string ⟨#[]⟩, .string ⟨#[]⟩, .slice none 0 0, .slice none 0 0, .int .i64 i, .int .i64 0] 45)).trans (hb1.mono (by simp; omega)))
    have hc1 := BoxAt.later HC0.out hb1
    have hd1 := BoxAt.later HD0.out hb1
    have hs1 := hb1.size
    rw [World.size_alloc, World.size_alloc] at hs1
    have HC1 := Lib.hid hc1
    have HD1 := Lib.hid hd1
    obtain ⟨q0, q1, q2, q3, q4, q5, q6, q7, p0, p1, p2, p3, p4, p5, p6, p7⟩ := cellsE hd1
    obtain ⟨u0, u1, u2, u3, u4, u5, u6, u7, v0, v1, v2, v3, v4, v5, v6, v7⟩ := cellsE hc1
    have hl1 := hd1.lt
    have hlc := hc1.lt
    have H3 := Lib.hid h3
    have hj0 : (j : Int) ≤ 1000000 := by omega
    have hn0 : (n : Int) ≤ 4000000 := by omega
    clear hb1 hc1 hd1 h3 HC0 HD0
    cases r with
    | none =>
      have hR := HR.out
      dsimp only at hR
      subst hR
      go_wp2
      exact end8e Tryz.results65 ((box_set8 HC1.out _ _ _ _ _ _ _ _).alloc _) rfl rfl rfl ⟨(below_set8 HB1.out (Nat.le_refl _) _ _ _ _ _ _ _ _).alloc (by rw [set8_size]; omega) _, 0, 0, ⟨#[]⟩, ⟨#[]⟩, none, 0, 0, none, 0, 0, 0, 0, rfl, fun x h => by cases h⟩
    | some v =>
      obtain ⟨x, l, e⟩ := v
      obtain ⟨rfl, rfl, rfl, hpat⟩ := H3.out x l e rfl
      obtain ⟨he1, he2⟩ := Hpos.out _ _ _ rfl
      have hAt := fun W => HA.out e W (by omega) he2
      have hR := HR.out
      dsimp only at hR
      obtain ⟨RL, hRL⟩ : ∃ R, atsS s [] e = R := ⟨_, rfl⟩
      rw [hRL] at hAt hR
      obtain ⟨Lt, k⟩ := RL
      dsimp only at hAt hR
      have HAt := Lib.hid hAt
      have HRl := Lib.hid hR
      have HPat := Lib.hid hpat
      clear hAt hR hRL hpat
      go_wp2_with fail
      go_region
      all_goals (go_wp2_with fail)
      go_at_call 86
      generalize hWA : World.drew (((w1.setCell ⟨w.heap.size + 1, 3, none⟩ (.string x)).setCell ⟨w.heap.size + 1, 4, none⟩ (.slice A l.length c)).alloc (.cells #[.string x, .slice A l.length c] 82)) = WA
      have hsz : WA.heap.size = w1.heap.size + 1 := by
        rw [← hWA]
        show (World.alloc _ _).heap.size = _
        simp
      have hdA : BoxAt WA (w.heap.size + 1) #[.int .i64 1, .int .i64 0, .string ⟨#[]⟩, .string x, .slice A l.length c, .slice none 0 0, .int .i64 i, .int .i64 0] 45 := by
        rw [← hWA]
        exact (box_e34 HD1.out (.string x) (.slice A l.length c)).alloc (.cells #[.string x, .slice A l.length c] 82)
      have hcA : BoxAt WA w.heap.size zEn 45 := by
        rw [← hWA]
        exact ((HC1.out.setOther ⟨w.heap.size + 1, 3, none⟩ (.string x) (by simp)).setOther ⟨w.heap.size + 1, 4, none⟩ (.slice A l.length c) (by simp)).alloc (.cells #[.string x, .slice A l.length c] 82)
      have hbA : Below w.heap.size w WA := by
        rw [← hWA]
        exact (((HB1.out.setCell (p := ⟨w.heap.size + 1, 3, none⟩) (by simp) (.string x)).setCell (p := ⟨w.heap.size + 1, 4, none⟩) (by simp) (.slice A l.length c)).alloc (by simp; omega) (.cells #[.string x, .slice A l.length c] 82)).drew
      have hpA : PatF WA (Since (w.heap.size + 2) WA) l (.slice A l.length c) := PatF.carry (fun z hz => by
        obtain ⟨z1, z2⟩ := hz
        rw [World.size_alloc, World.size_alloc] at z1
        refine ⟨⟨by omega, by omega⟩, ?_⟩
        rw [← hWA]
        refine (Lib.alloc_old _ _ z (by simpa using z2)).trans ?_
        rw [Below.heap_setCell _ _ _ z (by show z ≠ w.heap.size + 1; omega), Below.heap_setCell _ _ _ z (by show z ≠ w.heap.size + 1; omega)]) HPat.out
      clear hWA
      refine (HAt.out _).mono ?_
      rintro e2 w2 ⟨hb2, A2, n2, c2, rfl, hk, hek, hlen, hn2, hats⟩
      subst hlen
      have hd2 := BoxAt.later hdA hb2
      have hc2 := BoxAt.later hcA hb2
      have hs2 := hb2.size
      have HB2 := Lib.hid (hbA.trans (hb2.mono hbA.size))
      have HC2 := Lib.hid hc2
      have HD2 := Lib.hid hd2
      have HP2 := Lib.hid (PatF.carry (F' := Since (w.heap.size + 2) w2) (fun z hz => ⟨⟨hz.1, Nat.lt_of_lt_of_le hz.2 hs2⟩, hb2.block z hz.2⟩) hpA)
      have HA2 := Lib.hid (AtsF.carry (F' := Since (w.heap.size + 2) w2) (fun z hz => ⟨⟨by have := hz.1; omega, hz.2⟩, rfl⟩) hats)
      have hBk := fun W => HBe.out k W hk
      obtain ⟨tu, htu⟩ : ∃ tu, beh s k = tu := ⟨_, rfl⟩
      have hR := HRl.out
      rw [htu] at hBk hR
      have HBk := Lib.hid hBk
      have HR3 := Lib.hid hR
      obtain ⟨r0, r1, r2, r3, r4, r5, r6, r7, f0, f1, f2, f3, f4, f5, f6, f7⟩ := cellsE hd2
      obtain ⟨m0, m1, m2, m3, m4, m5, m6, m7, g0, g1, g2, g3, g4, g5, g6, g7⟩ := cellsE hc2
      have hl2 := hd2.lt
      have hlc2 := hc2.lt
      have hk0 : (k : Int) ≤ 1000000 := by omega
      have hn20 : (Lt.length : Int) ≤ 1000000 := by omega
      clear hb2 hats hdA hcA hbA hpA hc2 hd2 hBk hR htu HRl HC1 HD1 HB1 HPat q0 q1 q2 q3 q4 q5 q6 q7 p0 p1 p2 p3 p4 p5 p6 p7 u0 u1 u2 u3 u4 u5 u6 u7 v0 v1 v2 v3 v4 v5 v6 v7
      go_wp2_with fail
      go_at_call 63
      refine (HBk.out _).mono ?_
      rintro e3 w3 ⟨rfl, rfl⟩
      have hfin : ∀ (W : World), (∀ z, Since (w.heap.size + 2) w2 z → Since w.heap.size W z ∧ W.heap[z]? = w2.heap[z]?) → ∀ x', R = some x' → EnF W (Since w.heap.size W) x' (entV 1 0 ⟨#[]⟩ x (.slice A l.length c) (.slice A2 Lt.length c2) i tu) := fun W g x' h => by
        rw [← HR3.out] at h
        split at h
        · cases h
          exact ⟨A, c, A2, c2, rfl, HP2.out.carry g, HA2.out.carry g⟩
        · cases h
      have Hfin := Lib.hid hfin
      have hsome : R.isSome = (decide (0 < l.length) || decide (0 < Lt.length)) := by
        rw [← HR3.out]
        cases l <;> cases Lt <;> simp
      have Hsome := Lib.hid hsome
      clear hfin hsome HR3 HP2 HA2
      have hend : ∀ y5 y7 z0 z1 z2 z3 z4 z5 z6 z7, BoxAt (set8 ((w2.setCell ⟨w.heap.size + 1, 5, none⟩ y5).setCell ⟨w.heap.size + 1, 7, none⟩ y7) w.heap.size z0 z1 z2 z3 z4 z5 z6 z7) w.heap.size #[z0, z1, z2, z3, z4, z5, z6, z7] 45 := fun _ _ _ _ _ _ _ _ _ _ => box_set8 ((HC2.out.setOther ⟨w.heap.size + 1, 5, none⟩ _ (by simp)).setOther ⟨w.heap.size + 1, 7, none⟩ _ (by simp)) _ _ _ _ _ _ _ _
      have hbel : ∀ y5 y7 z0 z1 z2 z3 z4 z5 z6 z7, Below w.heap.size w (set8 ((w2.setCell ⟨w.heap.size + 1, 5, none⟩ y5).setCell ⟨w.heap.size + 1, 7, none⟩ y7) w.heap.size z0 z1 z2 z3 z4 z5 z6 z7) := fun _ _ _ _ _ _ _ _ _ _ => below_set8 ((HB2.out.setCell (p := ⟨w.heap.size + 1, 5, none⟩) (by simp) _).setCell (p := ⟨w.heap.size + 1, 7, none⟩) (by simp) _) (Nat.le_refl _) _ _ _ _ _ _ _ _
      have Hend := Lib.hid hend
      have Hbel := Lib.hid hbel
      clear hend hbel HC2 HD2 HB2
      by_cases hl0 : 0 < l.length
      · have d1 : decide ((0 : Int) < (l.length : Int)) = true := decide_eq_true (by omega)
        have d2 : (0 : Int) < (l.length : Int) := by omega
        by_cases hL0 : 0 < Lt.length
        · have d3 : decide ((0 : Int) < (Lt.length : Int)) = true := decide_eq_true (by omega)
          have d4 : (0 : Int) < (Lt.length : Int) := by omega
          go_wp2
          exact end8e Tryz.results65 (Hend.out _ _ _ _ _ _ _ _ _ _) rfl rfl rfl ⟨Hbel.out _ _ _ _ _ _ _ _ _ _, _, _, _, _, _, _, _, _, _, _, _, _, by rw [Hsome.out, decide_eq_true hl0]; rfl, Hfin.out _ (msg_car _ _ _ _ _ _ _ _ _ _)⟩
        · have d3 : decide ((0 : Int) < (Lt.length : Int)) = false := decide_eq_false (by omega)
          have d4 : ¬ (0 : Int) < (Lt.length : Int) := by omega
          go_wp2
          exact end8e Tryz.results65 (Hend.out _ _ _ _ _ _ _ _ _ _) rfl rfl rfl ⟨Hbel.out _ _ _ _ _ _ _ _ _ _, _, _, _, _, _, _, _, _, _, _, _, _, by rw [Hsome.out, decide_eq_true hl0]; rfl, Hfin.out _ (msg_car _ _ _ _ _ _ _ _ _ _)⟩
      · have d1 : decide ((0 : Int) < (l.length : Int)) = false := decide_eq_false (by omega)
        have d2 : ¬ (0 : Int) < (l.length : Int) := by omega
        by_cases hL0 : 0 < Lt.length
        · have d3 : decide ((0 : Int) < (Lt.length : Int)) = true := decide_eq_true (by omega)
          have d4 : (0 : Int) < (Lt.length : Int) := by omega
          go_wp2
          exact end8e Tryz.results65 (Hend.out _ _ _ _ _ _ _ _ _ _) rfl rfl rfl ⟨Hbel.out _ _ _ _ _ _ _ _ _ _, _, _, _, _, _, _, _, _, _, _, _, _, by rw [Hsome.out, decide_eq_false hl0, decide_eq_true hL0]; rfl, Hfin.out _ (msg_car _ _ _ _ _ _ _ _ _ _)⟩
        · have d3 : decide ((0 : Int) < (Lt.length : Int)) = false := decide_eq_false (by omega)
          have d4 : ¬ (0 : Int) < (Lt.length : Int) := by omega
          go_wp2
          exact end8e Tryz.results65 (Hend.out _ _ _ _ _ _ _ _ _ _) rfl rfl rfl ⟨Hbel.out _ _ _ _ _ _ _ _ _ _, _, _, _, _, _, _, _, _, _, _, _, _, by rw [Hsome.out, decide_eq_false hl0, decide_eq_false hL0]; rfl, Hfin.out _ (msg_car _ _ _ _ _ _ _ _ _ _)⟩
  case true =>
    obtain rfl : i + 1 = q := by simpa using hq
    have hTy : ty = 2 := by rw [← hty]; rfl
    subst hTy
    clear hq hty
    have hsi := hq1 rfl
    have hN2 := HN.out
    rw [show ((i + 1 : Nat) : Int) = (i : Int) + 1 by omega] at hN2
    have HN2 := Lib.hid hN2
    have hc0b : BoxAt ((w.alloc (.cells zEn 45)).alloc (.cells #[.int .i64 2, .int .i64 0, .string ⟨#[]⟩, .string ⟨#[]⟩, .slice none 0 0, .slice none 0 0, .int .i64 i, .int .i64 0] 45)) w.heap.size zEn 45 := (BoxAt.new w zEn 45).alloc _
    have hd0b : BoxAt ((w.alloc (.cells zEn 45)).alloc (.cells #[.int .i64 2, .int .i64 0, .string ⟨#[]⟩, .string ⟨#[]⟩, .slice none 0 0, .slice none 0 0, .int .i64 i, .int .i64 0] 45)) (w.heap.size + 1) #[.int .i64 2, .int .i64 0, .string ⟨#[]⟩, .string ⟨#[]⟩, .slice none 0 0, .slice none 0 0, .int .i64 i, .int .i64 0] 45 := BoxAt.new' _ _ _ _ (by simp)
    have HC0b := Lib.hid hc0b
    have HD0b := Lib.hid hd0b
    clear hN2 hc0b hd0b HN HC0 HD0
    go_enter Tryz.func65, Tryz.ntmps65
    go_wp2_with fail
    go_at_call 72
    refine (HP.out _).mono ?_
    rintro e w1 ⟨rfl, rfl⟩
    go_wp2_with fail
    go_at_call 85
    refine (HN2.out _).mono ?_
    rintro e w1 ⟨hb1, X, A, n, c, j, rfl, hj, hn4, h3⟩
    have HB1 := Lib.hid ((((Below.refl w.heap.size w).alloc (Nat.le_refl _) (.cells zEn 45)).alloc (by simp) (.cells #[.int .i64 2, .int .i64 0, .string ⟨#[]⟩, .string ⟨#[]⟩, .slice none 0 0, .slice none 0 0, .int .i64 i, .int .i64 0] 45)).trans (hb1.mono (by simp; omega)))
    have hc1 := BoxAt.later HC0b.out hb1
    have hd1 := BoxAt.later HD0b.out hb1
    have hs1 := hb1.size
    rw [World.size_alloc, World.size_alloc] at hs1
    have HC1 := Lib.hid hc1
    have HD1 := Lib.hid hd1
    obtain ⟨q0, q1, q2, q3, q4, q5, q6, q7, p0, p1, p2, p3, p4, p5, p6, p7⟩ := cellsE hd1
    obtain ⟨u0, u1, u2, u3, u4, u5, u6, u7, v0, v1, v2, v3, v4, v5, v6, v7⟩ := cellsE hc1
    have hl1 := hd1.lt
    have hlc := hc1.lt
    have H3 := Lib.hid h3
    have hj0 : (j : Int) ≤ 1000000 := by omega
    have hn0 : (n : Int) ≤ 4000000 := by omega
    clear hb1 hc1 hd1 h3 HC0b HD0b
    cases r with
    | none =>
      have hR := HR.out
      dsimp only at hR
      subst hR
      go_wp2
      exact end8e Tryz.results65 ((box_set8 HC1.out _ _ _ _ _ _ _ _).alloc _) rfl rfl rfl ⟨(below_set8 HB1.out (Nat.le_refl _) _ _ _ _ _ _ _ _).alloc (by rw [set8_size]; omega) _, 0, 0, ⟨#[]⟩, ⟨#[]⟩, none, 0, 0, none, 0, 0, 0, 0, rfl, fun x h => by cases h⟩
    | some v =>
      obtain ⟨x, l, e⟩ := v
      obtain ⟨rfl, rfl, rfl, hpat⟩ := H3.out x l e rfl
      obtain ⟨he1, he2⟩ := Hpos.out _ _ _ rfl
      have hAt := fun W => HA.out e W (by omega) he2
      have hR := HR.out
      dsimp only at hR
      obtain ⟨RL, hRL⟩ : ∃ R, atsS s [] e = R := ⟨_, rfl⟩
      rw [hRL] at hAt hR
      obtain ⟨Lt, k⟩ := RL
      dsimp only at hAt hR
      have HAt := Lib.hid hAt
      have HRl := Lib.hid hR
      have HPat := Lib.hid hpat
      clear hAt hR hRL hpat
      go_wp2_with fail
      go_region
      all_goals (go_wp2_with fail)
      go_at_call 86
      generalize hWA : World.drew (((w1.setCell ⟨w.heap.size + 1, 3, none⟩ (.string x)).setCell ⟨w.heap.size + 1, 4, none⟩ (.slice A l.length c)).alloc (.cells #[.string x, .slice A l.length c] 82)) = WA
      have hsz : WA.heap.size = w1.heap.size + 1 := by
        rw [← hWA]
        show (World.alloc _ _).heap.size = _
        simp
      have hdA : BoxAt WA (w.heap.size + 1) #[.int .i64 2, .int .i64 0, .string ⟨#[]⟩, .string x, .slice A l.length c, .slice none 0 0, .int .i64 i, .int .i64 0] 45 := by
        rw [← hWA]
        exact (box_e34 HD1.out (.string x) (.slice A l.length c)).alloc (.cells #[.string x, .slice A l.length c] 82)
      have hcA : BoxAt WA w.heap.size zEn 45 := by
        rw [← hWA]
        exact ((HC1.out.setOther ⟨w.heap.size + 1, 3, none⟩ (.string x) (by simp)).setOther ⟨w.heap.size + 1, 4, none⟩ (.slice A l.length c) (by simp)).alloc (.cells #[.string x, .slice A l.length c] 82)
      have hbA : Below w.heap.size w WA := by
        rw [← hWA]
        exact (((HB1.out.setCell (p := ⟨w.heap.size + 1, 3, none⟩) (by simp) (.string x)).setCell (p := ⟨w.heap.size + 1, 4, none⟩) (by simp) (.slice A l.length c)).alloc (by simp; omega) (.cells #[.string x, .slice A l.length c] 82)).drew
      have hpA : PatF WA (Since (w.heap.size + 2) WA) l (.slice A l.length c) := PatF.carry (fun z hz => by
        obtain ⟨z1, z2⟩ := hz
        rw [World.size_alloc, World.size_alloc] at z1
        refine ⟨⟨by omega, by omega⟩, ?_⟩
        rw [← hWA]
        refine (Lib.alloc_old _ _ z (by simpa using z2)).trans ?_
        rw [Below.heap_setCell _ _ _ z (by show z ≠ w.heap.size + 1; omega), Below.heap_setCell _ _ _ z (by show z ≠ w.heap.size + 1; omega)]) HPat.out
      clear hWA
      refine (HAt.out _).mono ?_
      rintro e2 w2 ⟨hb2, A2, n2, c2, rfl, hk, hek, hlen, hn2, hats⟩
      subst hlen
      have hd2 := BoxAt.later hdA hb2
      have hc2 := BoxAt.later hcA hb2
      have hs2 := hb2.size
      have HB2 := Lib.hid (hbA.trans (hb2.mono hbA.size))
      have HC2 := Lib.hid hc2
      have HD2 := Lib.hid hd2
      have HP2 := Lib.hid (PatF.carry (F' := Since (w.heap.size + 2) w2) (fun z hz => ⟨⟨hz.1, Nat.lt_of_lt_of_le hz.2 hs2⟩, hb2.block z hz.2⟩) hpA)
      have HA2 := Lib.hid (AtsF.carry (F' := Since (w.heap.size + 2) w2) (fun z hz => ⟨⟨by have := hz.1; omega, hz.2⟩, rfl⟩) hats)
      have hBk := fun W => HBe.out k W hk
      obtain ⟨tu, htu⟩ : ∃ tu, beh s k = tu := ⟨_, rfl⟩
      have hR := HRl.out
      rw [htu] at hBk hR
      have HBk := Lib.hid hBk
      have HR3 := Lib.hid hR
      obtain ⟨r0, r1, r2, r3, r4, r5, r6, r7, f0, f1, f2, f3, f4, f5, f6, f7⟩ := cellsE hd2
      obtain ⟨m0, m1, m2, m3, m4, m5, m6, m7, g0, g1, g2, g3, g4, g5, g6, g7⟩ := cellsE hc2
      have hl2 := hd2.lt
      have hlc2 := hc2.lt
      have hk0 : (k : Int) ≤ 1000000 := by omega
      have hn20 : (Lt.length : Int) ≤ 1000000 := by omega
      clear hb2 hats hdA hcA hbA hpA hc2 hd2 hBk hR htu HRl HC1 HD1 HB1 HPat q0 q1 q2 q3 q4 q5 q6 q7 p0 p1 p2 p3 p4 p5 p6 p7 u0 u1 u2 u3 u4 u5 u6 u7 v0 v1 v2 v3 v4 v5 v6 v7
      go_wp2_with fail
      go_at_call 63
      refine (HBk.out _).mono ?_
      rintro e3 w3 ⟨rfl, rfl⟩
      have hfin : ∀ (W : World), (∀ z, Since (w.heap.size + 2) w2 z → Since w.heap.size W z ∧ W.heap[z]? = w2.heap[z]?) → ∀ x', R = some x' → EnF W (Since w.heap.size W) x' (entV 2 0 ⟨#[]⟩ x (.slice A l.length c) (.slice A2 Lt.length c2) i tu) := fun W g x' h => by
        rw [← HR3.out] at h
        split at h
        · cases h
          exact ⟨A, c, A2, c2, rfl, HP2.out.carry g, HA2.out.carry g⟩
        · cases h
      have Hfin := Lib.hid hfin
      have hsome : R.isSome = decide (0 < l.length) := by
        rw [← HR3.out]
        cases l <;> simp
      have Hsome := Lib.hid hsome
      clear hfin hsome HR3 HP2 HA2
      have hend : ∀ y5 y7 z0 z1 z2 z3 z4 z5 z6 z7, BoxAt (set8 ((w2.setCell ⟨w.heap.size + 1, 5, none⟩ y5).setCell ⟨w.heap.size + 1, 7, none⟩ y7) w.heap.size z0 z1 z2 z3 z4 z5 z6 z7) w.heap.size #[z0, z1, z2, z3, z4, z5, z6, z7] 45 := fun _ _ _ _ _ _ _ _ _ _ => box_set8 ((HC2.out.setOther ⟨w.heap.size + 1, 5, none⟩ _ (by simp)).setOther ⟨w.heap.size + 1, 7, none⟩ _ (by simp)) _ _ _ _ _ _ _ _
      have hbel : ∀ y5 y7 z0 z1 z2 z3 z4 z5 z6 z7, Below w.heap.size w (set8 ((w2.setCell ⟨w.heap.size + 1, 5, none⟩ y5).setCell ⟨w.heap.size + 1, 7, none⟩ y7) w.heap.size z0 z1 z2 z3 z4 z5 z6 z7) := fun _ _ _ _ _ _ _ _ _ _ => below_set8 ((HB2.out.setCell (p := ⟨w.heap.size + 1, 5, none⟩) (by simp) _).setCell (p := ⟨w.heap.size + 1, 7, none⟩) (by simp) _) (Nat.le_refl _) _ _ _ _ _ _ _ _
      have Hend := Lib.hid hend
      have Hbel := Lib.hid hbel
      clear hend hbel HC2 HD2 HB2
      by_cases hl0 : 0 < l.length
      · have d1 : decide ((0 : Int) < (l.length : Int)) = true := decide_eq_true (by omega)
        have d2 : (0 : Int) < (l.length : Int) := by omega
        by_cases hL0 : 0 < Lt.length
        · have d3 : decide ((0 : Int) < (Lt.length : Int)) = true := decide_eq_true (by omega)
          have d4 : (0 : Int) < (Lt.length : Int) := by omega
          go_wp2
          exact end8e Tryz.results65 (Hend.out _ _ _ _ _ _ _ _ _ _) rfl rfl rfl ⟨Hbel.out _ _ _ _ _ _ _ _ _ _, _, _, _, _, _, _, _, _, _, _, _, _, by rw [Hsome.out, decide_eq_true hl0]; rfl, Hfin.out _ (msg_car _ _ _ _ _ _ _ _ _ _)⟩
        · have d3 : decide ((0 : Int) < (Lt.length : Int)) = false := decide_eq_false (by omega)
          have d4 : ¬ (0 : Int) < (Lt.length : Int) := by omega
          go_wp2
          exact end8e Tryz.results65 (Hend.out _ _ _ _ _ _ _ _ _ _) rfl rfl rfl ⟨Hbel.out _ _ _ _ _ _ _ _ _ _, _, _, _, _, _, _, _, _, _, _, _, _, by rw [Hsome.out, decide_eq_true hl0]; rfl, Hfin.out _ (msg_car _ _ _ _ _ _ _ _ _ _)⟩
      · have d1 : decide ((0 : Int) < (l.length : Int)) = false := decide_eq_false (by omega)
        have d2 : ¬ (0 : Int) < (l.length : Int) := by omega
        by_cases hL0 : 0 < Lt.length
        · have d3 : decide ((0 : Int) < (Lt.length : Int)) = true := decide_eq_true (by omega)
          have d4 : (0 : Int) < (Lt.length : Int) := by omega
          go_wp2
          exact end8e Tryz.results65 (Hend.out _ _ _ _ _ _ _ _ _ _) rfl rfl rfl ⟨Hbel.out _ _ _ _ _ _ _ _ _ _, _, _, _, _, _, _, _, _, _, _, _, _, by rw [Hsome.out, decide_eq_false hl0]; rfl, Hfin.out _ (msg_car _ _ _ _ _ _ _ _ _ _)⟩
        · have d3 : decide ((0 : Int) < (Lt.length : Int)) = false := decide_eq_false (by omega)
          have d4 : ¬ (0 : Int) < (Lt.length : Int) := by omega
          go_wp2
          exact end8e Tryz.results65 (Hend.out _ _ _ _ _ _ _ _ _ _) rfl rfl rfl ⟨Hbel.out _ _ _ _ _ _ _ _ _ _, _, _, _, _, _, _, _, _, _, _, _, _, by rw [Hsome.out, decide_eq_false hl0]; rfl, Hfin.out _ (msg_car _ _ _ _ _ _ _ _ _ _)⟩
end Go.Proofs.YtdoambpiafkmmaaGreatDoor
