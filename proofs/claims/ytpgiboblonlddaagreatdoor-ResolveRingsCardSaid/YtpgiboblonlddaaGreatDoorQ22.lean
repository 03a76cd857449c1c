/-
  Several texts put together (part 22): what the law and the program call, walked; their contracts.
-/
import Derived.Test.YtpgiboblonlddaaGreatDoorQ21
import Derived.Test.YtpgiboblonlddaaGreatDoorQ19
namespace Go.Proofs.YtpgiboblonlddaaGreatDoor
open Go.RowKit
set_option linter.unusedVariables false
set_option linter.unusedSimpArgs false
def EnF (W : World) (F : Nat → Prop) (x : EN) (v : Value) : Prop := ∃ (A : Option Addr) (c : Nat) (B : Option Addr) (d : Nat), v = entV x.ty x.lv x.tx x.nm (.slice A x.val.length c) (.slice B x.ats.length d) x.fr x.tu ∧
  PatF W F x.val (.slice A x.val.length c) ∧ AtsF W F x.ats (.slice B x.ats.length d)
theorem EnF.carry {W W' : World} {F F' : Nat → Prop} (g : ∀ b, F b → F' b ∧ W'.heap[b]? = W.heap[b]?) {x : EN} {v : Value} (h : EnF W F x v) : EnF W' F' x v := by
  obtain ⟨A, c, B, d, h1, h2, h3⟩ := h
  exact ⟨A, c, B, d, h1, h2.carry g, h3.carry g⟩
def GotE (s : ByteArray) (w : World) (r : Option EN) (e : Ending) (w' : World) : Prop :=
  Below w.heap.size w w' ∧ ∃ (ty lv : Int) (tx nm : ByteArray) (A : Option Addr) (n c : Nat) (B : Option Addr) (m d : Nat) (fr tu : Int), e = .returned (.tuple #[entV ty lv tx nm (.slice A n c) (.slice B m d) fr tu, .bool r.isSome]) ∧
    ∀ x, r = some x → EnF w' (Since w.heap.size w') x (entV ty lv tx nm (.slice A n c) (.slice B m d) fr tu)
set_option maxRecDepth 100000 in
theorem res8e {fn : Func} {A M : Nat} {tmps : Array Value} {w : World} {b : Nat} {x0 x1 x2 x3 x4 x5 x6 x7 v : Value} {t : TypeId} (hres : fn.results = #[.cell A 89, .tmp M]) (ha : tmps.getD A undef = .pointer (some ⟨b, 0, none⟩)) (hm : tmps.getD M undef = v)
    (hb : BoxAt w b #[x0, x1, x2, x3, x4, x5, x6, x7] t) : (results fn tmps).run Tryz.prog w = .ok (.tuple #[.agg #[x0, x1, x2, x3, x4, x5, x6, x7], v]) w := by
  obtain ⟨q0, q1, q2, q3, q4, q5, q6, q7, _⟩ := cellsE hb
  have ha' : tmps[A]?.getD undef = .pointer (some ⟨b, 0, none⟩) := by rw [← ha]; simp
  have hm' : tmps[M]?.getD undef = v := by rw [← hm]; simp
  simp [results, hres, ha', hm', go_sem, q0, q1, q2, q3, q4, q5, q6, q7]
theorem end8e {fn : Func} {R : Ending → World → Prop} {a : Act} {w2 : World} {A M b : Nat} {x0 x1 x2 x3 x4 x5 x6 x7 v : Value} {t : TypeId} (hres : fn.results = #[.cell A 89, .tmp M]) (hbox : BoxAt w2 b #[x0, x1, x2, x3, x4, x5, x6, x7] t)
    (ha : a.tmps.getD A undef = .pointer (some ⟨b, 0, none⟩)) (hm : a.tmps.getD M undef = v) (hd : a.defers = []) (hR : R (.returned (.tuple #[.agg #[x0, x1, x2, x3, x4, x5, x6, x7], v])) w2) : bodyPost Tryz.prog fn R .ret a w2 :=
  bodyPost_ret (res8e hres ha hm hbox) hd hR
theorem box_e34 {w : World} {E : Nat} {x0 x1 x2 x3 x4 x5 x6 x7 : Value} {t : TypeId} (h : BoxAt w E #[x0, x1, x2, x3, x4, x5, x6, x7] t) (y3 y4 : Value) :
    BoxAt ((w.setCell ⟨E, 3, none⟩ y3).setCell ⟨E, 4, none⟩ y4) E #[x0, x1, x2, y3, y4, x5, x6, x7] t := by
  unfold BoxAt at h ⊢
  simp [World.setCell, Array.getElem?_modify, h]
theorem box_e0 {w : World} {E : Nat} {x0 x1 x2 x3 x4 x5 x6 x7 : Value} {t : TypeId} (h : BoxAt w E #[x0, x1, x2, x3, x4, x5, x6, x7] t) (y : Value) :
    BoxAt (w.setCell ⟨E, 0, none⟩ y) E #[y, x1, x2, x3, x4, x5, x6, x7] t := by
  unfold BoxAt at h ⊢
  simp [World.setCell, Array.getElem?_modify, h]
theorem box_e5 {w : World} {E : Nat} {x0 x1 x2 x3 x4 x5 x6 x7 : Value} {t : TypeId} (h : BoxAt w E #[x0, x1, x2, x3, x4, x5, x6, x7] t) (y : Value) :
    BoxAt (w.setCell ⟨E, 5, none⟩ y) E #[x0, x1, x2, x3, x4, y, x6, x7] t := by
  unfold BoxAt at h ⊢
  simp [World.setCell, Array.getElem?_modify, h]
theorem box_e7 {w : World} {E : Nat} {x0 x1 x2 x3 x4 x5 x6 x7 : Value} {t : TypeId} (h : BoxAt w E #[x0, x1, x2, x3, x4, x5, x6, x7] t) (y : Value) :
    BoxAt (w.setCell ⟨E, 7, none⟩ y) E #[x0, x1, x2, x3, x4, x5, x6, y] t := by
  unfold BoxAt at h ⊢
  simp [World.setCell, Array.getElem?_modify, h]
theorem msg_car {w w2 : World} (a b x0 x1 x2 x3 x4 x5 x6 x7 : Value) : ∀ z, Since (w.heap.size + 2) w2 z → Since w.heap.size (set8 ((w2.setCell ⟨w.heap.size + 1, 5, none⟩ a).setCell ⟨w.heap.size + 1, 7, none⟩ b) w.heap.size x0 x1 x2 x3 x4 x5 x6 x7) z ∧
    (set8 ((w2.setCell ⟨w.heap.size + 1, 5, none⟩ a).setCell ⟨w.heap.size + 1, 7, none⟩ b) w.heap.size x0 x1 x2 x3 x4 x5 x6 x7).heap[z]? = w2.heap[z]? := fun z hz => by
  obtain ⟨z1, z2⟩ := hz
  refine ⟨⟨by omega, by rw [set8_size]; simpa using z2⟩, ?_⟩
  rw [set8_heap _ _ _ _ _ _ _ _ _ _ z (by omega), Below.heap_setCell _ _ _ z (by show z ≠ w.heap.size + 1; omega), Below.heap_setCell _ _ _ z (by show z ≠ w.heap.size + 1; omega)]
set_option maxHeartbeats 4000000 in
set_option maxRecDepth 100000 in
theorem message_call {s : ByteArray} (hPC : PatCall s) (hs : s.size ≤ 1000000) (i : Nat) (hi : i ≤ s.size) (w : World) : Calls Tryz.prog 101 #[.string s, .int .i64 i] w (GotE s w (msgS s i)) := by
  obtain ⟨R, hR⟩ : ∃ R, msgS s i = R := ⟨_, rfl⟩
  rw [hR]
  unfold msgS at hR
  have hx := isAt_prefix s i 45 hi
  have hp := fun W => Tryz.strings_HasPrefix (s.extract i s.size) ⟨#[45]⟩ W
  rw [hx] at hp
  obtain ⟨b, hb⟩ : ∃ b, isAt s i 45 = b := ⟨_, rfl⟩
  have hq1 : b = true → i + 1 ≤ s.size := fun h => isAt_lt (hb.trans h)
  rw [hb] at hp hR
  have HP := Lib.hid hp
  have hi0 : (i : Int) ≤ 1000000 := by omega
  have hss : (s.size : Int) ≤ 1000000 := by omega
  obtain ⟨q, hq⟩ : ∃ q, (if b = true then i + 1 else i) = q := ⟨_, rfl⟩
  rw [hq] at hR
  have hqs : q ≤ s.size := by
    cases b
    · simp at hq; omega
    · simp at hq; have := hq1 rfl; omega
  have hN := fun W => named_call hPC hs q hqs W
  have hpos := fun x l e h => named_pos hqs (x := x) (l := l) (e := e) h
  obtain ⟨r, hr⟩ : ∃ r, namedS s q = r := ⟨_, rfl⟩
  rw [hr] at hN hR hpos
  obtain ⟨ty, hty⟩ : ∃ ty : Int, (if b = true then 2 else 1) = ty := ⟨_, rfl⟩
  have hc0 : BoxAt ((w.alloc (.cells zEn 89)).alloc (.cells #[.int .i64 1, .int .i64 0, .string ⟨#[]⟩, .string ⟨#[]⟩, .slice none 0 0, .slice none 0 0, .int .i64 i, .int .i64 0] 89)) w.heap.size zEn 89 := (BoxAt.new w zEn 89).alloc _
  have hd0 : BoxAt ((w.alloc (.cells zEn 89)).alloc (.cells #[.int .i64 1, .int .i64 0, .string ⟨#[]⟩, .string ⟨#[]⟩, .slice none 0 0, .slice none 0 0, .int .i64 i, .int .i64 0] 89)) (w.heap.size + 1) #[.int .i64 1, .int .i64 0, .string ⟨#[]⟩, .string ⟨#[]⟩, .slice none 0 0, .slice none 0 0, .int .i64 i, .int .i64 0] 89 := BoxAt.new' _ _ _ _ (by simp)
  have HC0 := Lib.hid hc0
  have HD0 := Lib.hid hd0
  have HN := Lib.hid hN
  have HR := Lib.hid hR
  have Hpos := Lib.hid hpos
  have HA := Lib.hid (fun j W (h1 : 1 ≤ j) (hj : j ≤ s.size) => attrs_call hPC hs j h1 hj W)
  have HBe := Lib.hid (fun j W (hj : j ≤ s.size) => behind_any s j (by omega) hj W)
  clear hp hx hb hc0 hd0 hN hR hpos hr hPC
  cases b
  case false =>
    obtain rfl : i = q := by simpa using hq
    have hTy : ty = 1 := by rw [← hty]; rfl
    subst hTy
    clear hq hty
    go_enter Tryz.func101, Tryz.ntmps101
    go_wp2_with fail
    go_at_call 127
    refine (HP.out _).mono ?_
    rintro e w1 ⟨rfl, rfl⟩
    go_wp2_with fail
    go_at_call 139
    refine (HN.out _).mono ?_
    rintro e w1 ⟨hb1, X, A, n, c, j, rfl, hj, hn4, h3⟩
    have HB1 := Lib.hid ((((Below.refl w.heap.size w).alloc (Nat.le_refl _) (.cells zEn 89)).alloc (by simp) (.cells #[.int .i64 1, .int .i64 0, .string ⟨#[]⟩, .string ⟨#[]⟩, .slice none 0 0, .slice none 0 0, .int .i64 i, .int .i64 0] 89)).trans (hb1.mono (by simp; omega)))
    have hc1 := BoxAt.later HC0.out hb1
    have hd1 := BoxAt.later HD0.out hb1
    have hs1 := hb1.size
    rw [World.size_alloc, World.size_alloc] at hs1
    have HC1 := Lib.hid hc1
    have HD1 := Lib.hid hd1
    obtain ⟨q0, q1, q2, q3, q4, q5, q6, q7, p0, p1, p2, p3, p4, p5, p6, p7⟩ := cellsE hd1
    obtain ⟨u0, u1, u2, u3, u4, u5, u6, u7, v0, v1, v2, v3, v4, v5, v6, v7⟩ := cellsE hc1
    have hl1 := hd1.lt
    have hlc := hc1.lt
    have H3 := Lib.hid h3
    have hj0 : (j : Int) ≤ 1000000 := by omega
    have hn0 : (n : Int) ≤ 4000000 := by omega
    clear hb1 hc1 hd1 h3 HC0 HD0
    cases r with
    | none =>
      have hR := HR.out
      dsimp only at hR
      subst hR
      go_wp2
      exact end8e Tryz.results101 ((box_set8 HC1.out _ _ _ _ _ _ _ _).alloc _) rfl rfl rfl ⟨(below_set8 HB1.out (Nat.le_refl _) _ _ _ _ _ _ _ _).alloc (by rw [set8_size]; omega) _, 0, 0, ⟨#[]⟩, ⟨#[]⟩, none, 0, 0, none, 0, 0, 0, 0, rfl, fun x h => by cases h⟩
    | some v =>
      obtain ⟨x, l, e⟩ := v
      obtain ⟨rfl, rfl, rfl, hpat⟩ := H3.out x l e rfl
      obtain ⟨he1, he2⟩ := Hpos.out _ _ _ rfl
      have hAt := fun W => HA.out e W (by omega) he2
      have hR := HR.out
      dsimp only at hR
      obtain ⟨RL, hRL⟩ : ∃ R, atsS s [] e = R := ⟨_, rfl⟩
      rw [hRL] at hAt hR
      obtain ⟨Lt, k⟩ := RL
      dsimp only at hAt hR
      have HAt := Lib.hid hAt
      have HRl := Lib.hid hR
      have HPat := Lib.hid hpat
      clear hAt hR hRL hpat
      go_wp2_with fail
      go_region
      all_goals (go_wp2_with fail)
      go_at_call 140
      generalize hWA : World.drew (((w1.setCell ⟨w.heap.size + 1, 3, none⟩ (.string x)).setCell ⟨w.heap.size + 1, 4, none⟩ (.slice A l.length c)).alloc (.cells #[.string x, .slice A l.length c] 128)) = WA
      have hsz : WA.heap.size = w1.heap.size + 1 := by
        rw [← hWA]
        show (World.alloc _ _).heap.size = _
        simp
      have hdA : BoxAt WA (w.heap.size + 1) #[.int .i64 1, .int .i64 0, .string ⟨#[]⟩, .string x, .slice A l.length c, .slice none 0 0, .int .i64 i, .int .i64 0] 89 := by
        rw [← hWA]
        exact (box_e34 HD1.out (.string x) (.slice A l.length c)).alloc (.cells #[.string x, .slice A l.length c] 128)
      have hcA : BoxAt WA w.heap.size zEn 89 := by
        rw [← hWA]
        exact ((HC1.out.setOther ⟨w.heap.size + 1, 3, none⟩ (.string x) (by simp)).setOther ⟨w.heap.size + 1, 4, none⟩ (.slice A l.length c) (by simp)).alloc (.cells #[.string x, .slice A l.length c] 128)
      have hbA : Below w.heap.size w WA := by
        rw [← hWA]
        exact (((HB1.out.setCell (p := ⟨w.heap.size + 1, 3, none⟩) (by simp) (.string x)).setCell (p := ⟨w.heap.size + 1, 4, none⟩) (by simp) (.slice A l.length c)).alloc (by simp; omega) (.cells #[.string x, .slice A l.length c] 128)).drew
      have hpA : PatF WA (Since (w.heap.size + 2) WA) l (.slice A l.length c) := PatF.carry (fun z hz => by
        obtain ⟨z1, z2⟩ := hz
        rw [World.size_alloc, World.size_alloc] at z1
        refine ⟨⟨by omega, by omega⟩, ?_⟩
        rw [← hWA]
        refine (Lib.alloc_old _ _ z (by simpa using z2)).trans ?_
        rw [Below.heap_setCell _ _ _ z (by show z ≠ w.heap.size + 1; omega), Below.heap_setCell _ _ _ z (by show z ≠ w.heap.size + 1; omega)]) HPat.out
      clear hWA
      refine (HAt.out _).mono ?_
      rintro e2 w2 ⟨hb2, A2, n2, c2, rfl, hk, hek, hlen, hn2, hats⟩
      subst hlen
      have hd2 := BoxAt.later hdA hb2
      have hc2 := BoxAt.later hcA hb2
      have hs2 := hb2.size
      have HB2 := Lib.hid (hbA.trans (hb2.mono hbA.size))
      have HC2 := Lib.hid hc2
      have HD2 := Lib.hid hd2
      have HP2 := Lib.hid (PatF.carry (F' := Since (w.heap.size + 2) w2) (fun z hz => ⟨⟨hz.1, Nat.lt_of_lt_of_le hz.2 hs2⟩, hb2.block z hz.2⟩) hpA)
      have HA2 := Lib.hid (AtsF.carry (F' := Since (w.heap.size + 2) w2) (fun z hz => ⟨⟨by have := hz.1; omega, hz.2⟩, rfl⟩) hats)
      have hBk := fun W => HBe.out k W hk
      obtain ⟨tu, htu⟩ : ∃ tu, beh s k = tu := ⟨_, rfl⟩
      have hR := HRl.out
      rw [htu] at hBk hR
      have HBk := Lib.hid hBk
      have HR3 := Lib.hid hR
      obtain ⟨r0, r1, r2, r3, r4, r5, r6, r7, f0, f1, f2, f3, f4, f5, f6, f7⟩ := cellsE hd2
      obtain ⟨m0, m1, m2, m3, m4, m5, m6, m7, g0, g1, g2, g3, g4, g5, g6, g7⟩ := cellsE hc2
      have hl2 := hd2.lt
      have hlc2 := hc2.lt
      have hk0 : (k : Int) ≤ 1000000 := by omega
      have hn20 : (Lt.length : Int) ≤ 1000000 := by omega
      clear hb2 hats hdA hcA hbA hpA hc2 hd2 hBk hR htu HRl HC1 HD1 HB1 HPat q0 q1 q2 q3 q4 q5 q6 q7 p0 p1 p2 p3 p4 p5 p6 p7 u0 u1 u2 u3 u4 u5 u6 u7 v0 v1 v2 v3 v4 v5 v6 v7
      go_wp2_with fail
      go_at_call 99
      refine (HBk.out _).mono ?_
      rintro e3 w3 ⟨rfl, rfl⟩
      have hfin : ∀ (W : World), (∀ z, Since (w.heap.size + 2) w2 z → Since w.heap.size W z ∧ W.heap[z]? = w2.heap[z]?) → ∀ x', R = some x' → EnF W (Since w.heap.size W) x' (entV 1 0 ⟨#[]⟩ x (.slice A l.length c) (.slice A2 Lt.length c2) i tu) := fun W g x' h => by
        rw [← HR3.out] at h
        split at h
        · cases h
          exact ⟨A, c, A2, c2, rfl, HP2.out.carry g, HA2.out.carry g⟩
        · cases h
      have Hfin := Lib.hid hfin
      have hsome : R.isSome = (decide (0 < l.length) || decide (0 < Lt.length)) := by
        rw [← HR3.out]
        cases l <;> cases Lt <;> simp
      have Hsome := Lib.hid hsome
      clear hfin hsome HR3 HP2 HA2
      have hend : ∀ y5 y7 z0 z1 z2 z3 z4 z5 z6 z7, BoxAt (set8 ((w2.setCell ⟨w.heap.size + 1, 5, none⟩ y5).setCell ⟨w.heap.size + 1, 7, none⟩ y7) w.heap.size z0 z1 z2 z3 z4 z5 z6 z7) w.heap.size #[z0, z1, z2, z3, z4, z5, z6, z7] 89 := fun _ _ _ _ _ _ _ _ _ _ => box_set8 ((HC2.out.setOther ⟨w.heap.size + 1, 5, none⟩ _ (by simp)).setOther ⟨w.heap.size + 1, 7, none⟩ _ (by simp)) _ _ _ _ _ _ _ _
      have hbel : ∀ y5 y7 z0 z1 z2 z3 z4 z5 z6 z7, Below w.heap.size w (set8 ((w2.setCell ⟨w.heap.size + 1, 5, none⟩ y5).setCell ⟨w.heap.size + 1, 7, none⟩ y7) w.heap.size z0 z1 z2 z3 z4 z5 z6 z7) := fun _ _ _ _ _ _ _ _ _ _ => below_set8 ((HB2.out.setCell (p := ⟨w.heap.size + 1, 5, none⟩) (by simp) _).setCell (p := ⟨w.heap.size + 1, 7, none⟩) (by simp) _) (Nat.le_refl _) _ _ _ _ _ _ _ _
      have Hend := Lib.hid hend
      have Hbel := Lib.hid hbel
      clear hend hbel HC2 HD2 HB2
      by_cases hl0 : 0 < l.length
      · have d1 : decide ((0 : Int) < (l.length : Int)) = true := decide_eq_true (by omega)
        have d2 : (0 : Int) < (l.length : Int) := by omega
        by_cases hL0 : 0 < Lt.length
        · have d3 : decide ((0 : Int) < (Lt.length : Int)) = true := decide_eq_true (by omega)
          have d4 : (0 : Int) < (Lt.length : Int) := by omega
          go_wp2
          exact end8e Tryz.results101 (Hend.out _ _ _ _ _ _ _ _ _ _) rfl rfl rfl ⟨Hbel.out _ _ _ _ _ _ _ _ _ _, _, _, _, _, _, _, _, _, _, _, _, _, by rw [Hsome.out, decide_eq_true hl0]; rfl, Hfin.out _ (msg_car _ _ _ _ _ _ _ _ _ _)⟩
        · have d3 : decide ((0 : Int) < (Lt.length : Int)) = false := decide_eq_false (by omega)
          have d4 : ¬ (0 : Int) < (Lt.length : Int) := by omega
          go_wp2
          exact end8e Tryz.results101 (Hend.out _ _ _ _ _ _ _ _ _ _) rfl rfl rfl ⟨Hbel.out _ _ _ _ _ _ _ _ _ _, _, _, _, _, _, _, _, _, _, _, _, _, by rw [Hsome.out, decide_eq_true hl0]; rfl, Hfin.out _ (msg_car _ _ _ _ _ _ _ _ _ _)⟩
      · have d1 : decide ((0 : Int) < (l.length : Int)) = false := decide_eq_false (by omega)
        have d2 : ¬ (0 : Int) < (l.length : Int) := by omega
        by_cases hL0 : 0 < Lt.length
        · have d3 : decide ((0 : Int) < (Lt.length : Int)) = true := decide_eq_true (by omega)
          have d4 : (0 : Int) < (Lt.length : Int) := by omega
          go_wp2
          exact end8e Tryz.results101 (Hend.out _ _ _ _ _ _ _ _ _ _) rfl rfl rfl ⟨Hbel.out _ _ _ _ _ _ _ _ _ _, _, _, _, _, _, _, _, _, _, _, _, _, by rw [Hsome.out, decide_eq_false hl0, decide_eq_true hL0]; rfl, Hfin.out _ (msg_car _ _ _ _ _ _ _ _ _ _)⟩
        · have d3 : decide ((0 : Int) < (Lt.length : Int)) = false := decide_eq_false (by omega)
          have d4 : ¬ (0 : Int) < (Lt.length : Int) := by omega
          go_wp2
          exact end8e Tryz.results101 (Hend.out _ _ _ _ _ _ _ _ _ _) rfl rfl rfl ⟨Hbel.out _ _ _ _ _ _ _ _ _ _, _, _, _, _, _, _, _, _, _, _, _, _, by rw [Hsome.out, decide_eq_false hl0, decide_eq_false hL0]; rfl, Hfin.out _ (msg_car _ _ _ _ _ _ _ _ _ _)⟩
  case true =>
    obtain rfl : i + 1 = q := by simpa using hq
    have hTy : ty = 2 := by rw [← hty]; rfl
    subst hTy
    clear hq hty
    have hsi := hq1 rfl
    have hN2 := HN.out
    rw [show ((i + 1 : Nat) : Int) = (i : Int) + 1 by omega] at hN2
    have HN2 := Lib.hid hN2
    have hc0b : BoxAt ((w.alloc (.cells zEn 89)).alloc (.cells #[.int .i64 2, .int .i64 0, .string ⟨#[]⟩, .string ⟨#[]⟩, .slice none 0 0, .slice none 0 0, .int .i64 i, .int .i64 0] 89)) w.heap.size zEn 89 := (BoxAt.new w zEn 89).alloc _
    have hd0b : BoxAt ((w.alloc (.cells zEn 89)).alloc (.cells #[.int .i64 2, .int .i64 0, .string ⟨#[]⟩, .string ⟨#[]⟩, .slice none 0 0, .slice none 0 0, .int .i64 i, .int .i64 0] 89)) (w.heap.size + 1) #[.int .i64 2, .int .i64 0, .string ⟨#[]⟩, .string ⟨#[]⟩, .slice none 0 0, .slice none 0 0, .int .i64 i, .int .i64 0] 89 := BoxAt.new' _ _ _ _ (by simp)
    have HC0b := Lib.hid hc0b
    have HD0b := Lib.hid hd0b
    clear hN2 hc0b hd0b HN HC0 HD0
    go_enter Tryz.func101, Tryz.ntmps101
    go_wp2_with fail
    go_at_call 127
    refine (HP.out _).mono ?_
    rintro e w1 ⟨rfl, rfl⟩
    go_wp2_with fail
    go_at_call 139
    refine (HN2.out _).mono ?_
    rintro e w1 ⟨hb1, X, A, n, c, j, rfl, hj, hn4, h3⟩
    have HB1 := Lib.hid ((((Below.refl w.heap.size w).alloc (Nat.le_refl _) (.cells zEn 89)).alloc (by simp) (.cells #[.int .i64 2, .int .i64 0, .string ⟨#[]⟩, .string ⟨#[]⟩, .slice none 0 0, .slice none 0 0, .int .i64 i, .int .i64 0] 89)).trans (hb1.mono (by simp; omega)))
    have hc1 := BoxAt.later HC0b.out hb1
    have hd1 := BoxAt.later HD0b.out hb1
    have hs1 := hb1.size
    rw [World.size_alloc, World.size_alloc] at hs1
    have HC1 := Lib.hid hc1
    have HD1 := Lib.hid hd1
    obtain ⟨q0, q1, q2, q3, q4, q5, q6, q7, p0, p1, p2, p3, p4, p5, p6, p7⟩ := cellsE hd1
    obtain ⟨u0, u1, u2, u3, u4, u5, u6, u7, v0, v1, v2, v3, v4, v5, v6, v7⟩ := cellsE hc1
    have hl1 := hd1.lt
    have hlc := hc1.lt
    have H3 := Lib.hid h3
    have hj0 : (j : Int) ≤ 1000000 := by omega
    have hn0 : (n : Int) ≤ 4000000 := by omega
    clear hb1 hc1 hd1 h3 HC0b HD0b
    cases r with
    | none =>
      have hR := HR.out
      dsimp only at hR
      subst hR
      go_wp2
      exact end8e Tryz.results101 ((box_set8 HC1.out _ _ _ _ _ _ _ _).alloc _) rfl rfl rfl ⟨(below_set8 HB1.out (Nat.le_refl _) _ _ _ _ _ _ _ _).alloc (by rw [set8_size]; omega) _, 0, 0, ⟨#[]⟩, ⟨#[]⟩, none, 0, 0, none, 0, 0, 0, 0, rfl, fun x h => by cases h⟩
    | some v =>
      obtain ⟨x, l, e⟩ := v
      obtain ⟨rfl, rfl, rfl, hpat⟩ := H3.out x l e rfl
      obtain ⟨he1, he2⟩ := Hpos.out _ _ _ rfl
      have hAt := fun W => HA.out e W (by omega) he2
      have hR := HR.out
      dsimp only at hR
      obtain ⟨RL, hRL⟩ : ∃ R, atsS s [] e = R := ⟨_, rfl⟩
      rw [hRL] at hAt hR
      obtain ⟨Lt, k⟩ := RL
      dsimp only at hAt hR
      have HAt := Lib.hid hAt
      have HRl := Lib.hid hR
      have HPat := Lib.hid hpat
      clear hAt hR hRL hpat
      go_wp2_with fail
      go_region
      all_goals (go_wp2_with fail)
      go_at_call 140
      generalize hWA : World.drew (((w1.setCell ⟨w.heap.size + 1, 3, none⟩ (.string x)).setCell ⟨w.heap.size + 1, 4, none⟩ (.slice A l.length c)).alloc (.cells #[.string x, .slice A l.length c] 128)) = WA
      have hsz : WA.heap.size = w1.heap.size + 1 := by
        rw [← hWA]
        show (World.alloc _ _).heap.size = _
        simp
      have hdA : BoxAt WA (w.heap.size + 1) #[.int .i64 2, .int .i64 0, .string ⟨#[]⟩, .string x, .slice A l.length c, .slice none 0 0, .int .i64 i, .int .i64 0] 89 := by
        rw [← hWA]
        exact (box_e34 HD1.out (.string x) (.slice A l.length c)).alloc (.cells #[.string x, .slice A l.length c] 128)
      have hcA : BoxAt WA w.heap.size zEn 89 := by
        rw [← hWA]
        exact ((HC1.out.setOther ⟨w.heap.size + 1, 3, none⟩ (.string x) (by simp)).setOther ⟨w.heap.size + 1, 4, none⟩ (.slice A l.length c) (by simp)).alloc (.cells #[.string x, .slice A l.length c] 128)
      have hbA : Below w.heap.size w WA := by
        rw [← hWA]
        exact (((HB1.out.setCell (p := ⟨w.heap.size + 1, 3, none⟩) (by simp) (.string x)).setCell (p := ⟨w.heap.size + 1, 4, none⟩) (by simp) (.slice A l.length c)).alloc (by simp; omega) (.cells #[.string x, .slice A l.length c] 128)).drew
      have hpA : PatF WA (Since (w.heap.size + 2) WA) l (.slice A l.length c) := PatF.carry (fun z hz => by
        obtain ⟨z1, z2⟩ := hz
        rw [World.size_alloc, World.size_alloc] at z1
        refine ⟨⟨by omega, by omega⟩, ?_⟩
        rw [← hWA]
        refine (Lib.alloc_old _ _ z (by simpa using z2)).trans ?_
        rw [Below.heap_setCell _ _ _ z (by show z ≠ w.heap.size + 1; omega), Below.heap_setCell _ _ _ z (by show z ≠ w.heap.size + 1; omega)]) HPat.out
      clear hWA
      refine (HAt.out _).mono ?_
      rintro e2 w2 ⟨hb2, A2, n2, c2, rfl, hk, hek, hlen, hn2, hats⟩
      subst hlen
      have hd2 := BoxAt.later hdA hb2
      have hc2 := BoxAt.later hcA hb2
      have hs2 := hb2.size
      have HB2 := Lib.hid (hbA.trans (hb2.mono hbA.size))
      have HC2 := Lib.hid hc2
      have HD2 := Lib.hid hd2
      have HP2 := Lib.hid (PatF.carry (F' := Since (w.heap.size + 2) w2) (fun z hz => ⟨⟨hz.1, Nat.lt_of_lt_of_le hz.2 hs2⟩, hb2.block z hz.2⟩) hpA)
      have HA2 := Lib.hid (AtsF.carry (F' := Since (w.heap.size + 2) w2) (fun z hz => ⟨⟨by have := hz.1; omega, hz.2⟩, rfl⟩) hats)
      have hBk := fun W => HBe.out k W hk
      obtain ⟨tu, htu⟩ : ∃ tu, beh s k = tu := ⟨_, rfl⟩
      have hR := HRl.out
      rw [htu] at hBk hR
      have HBk := Lib.hid hBk
      have HR3 := Lib.hid hR
      obtain ⟨r0, r1, r2, r3, r4, r5, r6, r7, f0, f1, f2, f3, f4, f5, f6, f7⟩ := cellsE hd2
      obtain ⟨m0, m1, m2, m3, m4, m5, m6, m7, g0, g1, g2, g3, g4, g5, g6, g7⟩ := cellsE hc2
      have hl2 := hd2.lt
      have hlc2 := hc2.lt
      have hk0 : (k : Int) ≤ 1000000 := by omega
      have hn20 : (Lt.length : Int) ≤ 1000000 := by omega
      clear hb2 hats hdA hcA hbA hpA hc2 hd2 hBk hR htu HRl HC1 HD1 HB1 HPat q0 q1 q2 q3 q4 q5 q6 q7 p0 p1 p2 p3 p4 p5 p6 p7 u0 u1 u2 u3 u4 u5 u6 u7 v0 v1 v2 v3 v4 v5 v6 v7
      go_wp2_with fail
      go_at_call 99
      refine (HBk.out _).mono ?_
      rintro e3 w3 ⟨rfl, rfl⟩
      have hfin : ∀ (W : World), (∀ z, Since (w.heap.size + 2) w2 z → Since w.heap.size W z ∧ W.heap[z]? = w2.heap[z]?) → ∀ x', R = some x' → EnF W (Since w.heap.size W) x' (entV 2 0 ⟨#[]⟩ x (.slice A l.length c) (.slice A2 Lt.length c2) i tu) := fun W g x' h => by
        rw [← HR3.out] at h
        split at h
        · cases h
          exact ⟨A, c, A2, c2, rfl, HP2.out.carry g, HA2.out.carry g⟩
        · cases h
      have Hfin := Lib.hid hfin
      have hsome : R.isSome = decide (0 < l.length) := by
        rw [← HR3.out]
        cases l <;> simp
      have Hsome := Lib.hid hsome
      clear hfin hsome HR3 HP2 HA2
      have hend : ∀ y5 y7 z0 z1 z2 z3 z4 z5 z6 z7, BoxAt (set8 ((w2.setCell ⟨w.heap.size + 1, 5, none⟩ y5).setCell ⟨w.heap.size + 1, 7, none⟩ y7) w.heap.size z0 z1 z2 z3 z4 z5 z6 z7) w.heap.size #[z0, z1, z2, z3, z4, z5, z6, z7] 89 := fun _ _ _ _ _ _ _ _ _ _ => box_set8 ((HC2.out.setOther ⟨w.heap.size + 1, 5, none⟩ _ (by simp)).setOther ⟨w.heap.size + 1, 7, none⟩ _ (by simp)) _ _ _ _ _ _ _ _
      have hbel : ∀ y5 y7 z0 z1 z2 z3 z4 z5 z6 z7, Below w.heap.size w (set8 ((w2.setCell ⟨w.heap.size + 1, 5, none⟩ y5).setCell ⟨w.heap.size + 1, 7, none⟩ y7) w.heap.size z0 z1 z2 z3 z4 z5 z6 z7) := fun _ _ _ _ _ _ _ _ _ _ => below_set8 ((HB2.out.setCell (p := ⟨w.heap.size + 1, 5, none⟩) (by simp) _).setCell (p := ⟨w.heap.size + 1, 7, none⟩) (by simp) _) (Nat.le_refl _) _ _ _ _ _ _ _ _
      have Hend := Lib.hid hend
      have Hbel := Lib.hid hbel
      clear hend hbel HC2 HD2 HB2
      by_cases hl0 : 0 < l.length
      · have d1 : decide ((0 : Int) < (l.length : Int)) = true := decide_eq_true (by omega)
        have d2 : (0 : Int) < (l.length : Int) := by omega
        by_cases hL0 : 0 < Lt.length
        · have d3 : decide ((0 : Int) < (Lt.length : Int)) = true := decide_eq_true (by omega)
          have d4 : (0 : Int) < (Lt.length : Int) := by omega
          go_wp2
          exact end8e Tryz.results101 (Hend.out _ _ _ _ _ _ _ _ _ _) rfl rfl rfl ⟨Hbel.out _ _ _ _ _ _ _ _ _ _, _, _, _, _, _, _, _, _, _, _, _, _, by rw [Hsome.out, decide_eq_true hl0]; rfl, Hfin.out _ (msg_car _ _ _ _ _ _ _ _ _ _)⟩
        · have d3 : decide ((0 : Int) < (Lt.length : Int)) = false := decide_eq_false (by omega)
          have d4 : ¬ (0 : Int) < (Lt.length : Int) := by omega
          go_wp2
          exact end8e Tryz.results101 (Hend.out _ _ _ _ _ _ _ _ _ _) rfl rfl rfl ⟨Hbel.out _ _ _ _ _ _ _ _ _ _, _, _, _, _, _, _, _, _, _, _, _, _, by rw [Hsome.out, decide_eq_true hl0]; rfl, Hfin.out _ (msg_car _ _ _ _ _ _ _ _ _ _)⟩
      · have d1 : decide ((0 : Int) < (l.length : Int)) = false := decide_eq_false (by omega)
        have d2 : ¬ (0 : Int) < (l.length : Int) := by omega
        by_cases hL0 : 0 < Lt.length
        · have d3 : decide ((0 : Int) < (Lt.length : Int)) = true := decide_eq_true (by omega)
          have d4 : (0 : Int) < (Lt.length : Int) := by omega
          go_wp2
          exact end8e Tryz.results101 (Hend.out _ _ _ _ _ _ _ _ _ _) rfl rfl rfl ⟨Hbel.out _ _ _ _ _ _ _ _ _ _, _, _, _, _, _, _, _, _, _, _, _, _, by rw [Hsome.out, decide_eq_false hl0]; rfl, Hfin.out _ (msg_car _ _ _ _ _ _ _ _ _ _)⟩
        · have d3 : decide ((0 : Int) < (Lt.length : Int)) = false := decide_eq_false (by omega)
          have d4 : ¬ (0 : Int) < (Lt.length : Int) := by omega
          go_wp2
          exact end8e Tryz.results101 (Hend.out _ _ _ _ _ _ _ _ _ _) rfl rfl rfl ⟨Hbel.out _ _ _ _ _ _ _ _ _ _, _, _, _, _, _, _, _, _, _, _, _, _, by rw [Hsome.out, decide_eq_false hl0]; rfl, Hfin.out _ (msg_car _ _ _ _ _ _ _ _ _ _)⟩
end Go.Proofs.YtpgiboblonlddaaGreatDoor

namespace Go.Proofs.YtpgiboblonlddaaGreatDoor
open Go.RowKit
set_option linter.unusedVariables false
set_option linter.unusedSimpArgs false
theorem infoS : (Tryz.prog.info? 9).map (fun i => (i.zero, i.size, i.bytes)) = some (some (.string ⟨#[]⟩), 1, 16) := by kernel_rfl
theorem com_lt (s : ByteArray) (i : Nat) (hi : i ≤ s.size) (h : (comL s i).1 ≠ 0) : i < s.size := by
  have h1 := hs_ok s i hi
  have h2 := li_ok s i hi
  unfold comL at h
  split at h
  · exact absurd rfl h
  · dsimp only at h; omega
theorem com_le (s : ByteArray) (i : Nat) (hi : i ≤ s.size) : (comL s i).1 ≤ 3 ∧ (comL s i).2.size ≤ s.size := by
  have h2 := li_ok s i hi
  unfold comL
  split
  · exact ⟨by omega, by show E0.size ≤ _; exact Nat.zero_le _⟩
  · next hc =>
    refine ⟨by dsimp only; omega, ?_⟩
    dsimp only
    split
    · rw [ByteArray.size_extract]; omega
    · exact Nat.zero_le _
theorem comGo_step (s : ByteArray) (lv : Nat) (acc : List ByteArray) (k : Nat) (x : ByteArray) (hk : k < s.size) :
    comGo s lv acc k x = if (comL s (beh s k)).1 = lv then comGo s lv (acc ++ [x]) (beh s k) (comL s (beh s k)).2 else (acc ++ [x], beh s k) := by
  have h := beh_ok s k (Nat.le_of_lt hk)
  rw [comGo]
  by_cases h1 : (comL s (beh s k)).1 = lv
  · rw [dif_pos ⟨h1, h.2.2 hk, h.2.1⟩, if_pos h1]
  · rw [dif_neg (fun e => h1 e.1), if_neg h1]
theorem join_len (m : Nat) : ∀ l : List ByteArray, (∀ x ∈ l, x.size ≤ m) → (Lib.join (l.map (·.data.toList)) [10]).length ≤ l.length * (m + 1)
  | [], _ => by simp [Lib.join]
  | [a], h => by
    have := h a (by simp)
    simp [Lib.join, size_data]
    omega
  | a :: b :: l, h => by
    have h1 := h a (by simp)
    have h2 := join_len m (b :: l) (fun x hx => h x (by simp [hx]))
    have h3 : (a :: b :: l).length * (m + 1) = (b :: l).length * (m + 1) + (m + 1) := by rw [List.length_cons, Nat.succ_mul]
    rw [h3]
    simp [Lib.join, size_data] at h2 ⊢
    omega
abbrev bV (x : ByteArray) : Value := .string x
set_option maxHeartbeats 4000000 in
set_option maxRecDepth 100000 in
theorem comment_call {s : ByteArray} (hs : s.size ≤ 1000000) (i : Nat) (hi : i ≤ s.size) (w : World) : Calls Tryz.prog 100 #[.string s, .int .i64 i] w (GotE s w (comS s i)) := by
  obtain ⟨i0, hi0, hz0, hz1, hz2⟩ := info_parts infoS
  obtain ⟨R, hR⟩ : ∃ R, comS s i = R := ⟨_, rfl⟩
  rw [hR]
  unfold comS at hR
  have hL := fun W => commentLine_any s i (by omega) hi W
  have hle := com_le s i hi
  have hlt := com_lt s i hi
  obtain ⟨lw, hlw⟩ : ∃ lw, comL s i = lw := ⟨_, rfl⟩
  rw [hlw] at hL hle hlt hR
  obtain ⟨lv, x0⟩ := lw
  dsimp only at hL hle hlt hR
  have HL := Lib.hid hL
  have HR := Lib.hid hR
  have HLc := Lib.hid (fun j W (hj : j ≤ s.size) => commentLine_any s j (by omega) hj W)
  have HBe := Lib.hid (fun j W (hj : j ≤ s.size) => behind_any s j (by omega) hj W)
  have hii : (i : Int) ≤ 1000000 := by omega
  have hc0 := BoxAt.new w zEn 89
  have HC0 := Lib.hid hc0
  obtain ⟨u0, u1, u2, u3, u4, u5, u6, u7, v0, v1, v2, v3, v4, v5, v6, v7⟩ := cellsE hc0
  clear hL hR hlw hc0
  have hlv : (lv : Int) ≤ 3 := by omega
  by_cases h0 : lv = 0
  · have d1 : ((lv : Int) == 0) = true := beq_iff_eq.2 (by omega)
    have hR := HR.out
    rw [if_pos h0] at hR
    subst hR
    clear h0
    go_enter Tryz.func100, Tryz.ntmps100
    go_wp2_with fail
    go_at_call 137
    refine (HL.out _).mono ?_
    rintro e w1 ⟨rfl, rfl⟩
    go_wp2
    exact end8e Tryz.results100 HC0.out rfl rfl rfl ⟨(Below.refl _ _).alloc (Nat.le_refl _) _, 0, 0, ⟨#[]⟩, ⟨#[]⟩, none, 0, 0, none, 0, 0, 0, 0, rfl, fun x h => by cases h⟩
  have d1 : ((lv : Int) == 0) = false := beq_eq_false_iff_ne.2 (by omega)
  have hR := HR.out
  rw [if_neg h0] at hR
  obtain ⟨RG, hRG⟩ : ∃ R, comGo s lv [] i x0 = R := ⟨_, rfl⟩
  rw [hRG] at hR
  have HG := Lib.hid hRG
  have HR2 := Lib.hid hR
  clear hR hRG HR
  go_enter Tryz.func100, Tryz.ntmps100
  go_wp2_with fail
  go_at_call 137
  refine (HL.out _).mono ?_
  rintro e w1 ⟨rfl, rfl⟩
  go_wp2
  go_loopw [7, 8, 9, 10] (fun t7 t8 t9 t10 wr => ∃ (acc : List ByteArray) (x : ByteArray) (k nx : Nat) (A : Option Addr) (c : Nat), t7 = .string x ∧ t8 = .slice A acc.length c ∧ t9 = .int .i64 k ∧ t10 = .int .i64 nx ∧ i ≤ k ∧ k ≤ s.size ∧ nx ≤ 3 ∧ acc.length ≤ k ∧ (nx = lv → k < s.size) ∧ Hid ((∀ y ∈ acc, y.size ≤ s.size) ∧ x.size ≤ s.size) ∧ (nx ≠ lv → 0 < acc.length) ∧ Hid ((if nx = lv then comGo s lv acc k x else (acc, k)) = RG) ∧ Hid (BoxAt wr w.heap.size zEn 89) ∧ Hid (Below w.heap.size w wr) ∧ Hid (wr.ownsRow (w.heap.size + 1) 9 1 (.slice A acc.length c) acc.length (acc.map bV))) (fun _ _ t9 _ _ => s.size - (intOf t9).toNat)
  case atStart => exact ⟨[], x0, i, lv, none, 0, rfl, rfl, rfl, rfl, Nat.le_refl _, hi, hle.1, Nat.zero_le _, fun _ => hlt h0, ⟨fun y h => by simp at h, hle.2⟩, fun h => absurd rfl h, by rw [if_pos rfl]; exact HG.out, HC0.out, (Below.refl _ _).alloc (Nat.le_refl _) _, World.ownsRow_nil _ _ _ _⟩
  case round =>
    obtain ⟨acc, x, k, nx, A, c, rfl, rfl, rfl, rfl, hik, hk, hnx, hacc, hkl, Hsz, hpos, HRG, HC, HBel, HO⟩ := hrel
    have hk0 : (k : Int) ≤ 1000000 := by omega
    have hnx0 : (nx : Int) ≤ 3 := by omega
    have haccI : (acc.length : Int) ≤ 1000000 := by omega
    obtain ⟨q0, q1, q2, q3, q4, q5, q6, q7, p0, p1, p2, p3, p4, p5, p6, p7⟩ := cellsE HC.out
    have hl := HC.out.lt
    by_cases hn : nx = lv
    · have d2 : ((nx : Int) == (lv : Int)) = true := beq_iff_eq.2 (by omega)
      have hkl' := hkl hn
      have hRG := HRG.out
      rw [if_pos hn, comGo_step s lv acc k x hkl'] at hRG
      have hb := beh_ok s k hk
      have hbl := hb.2.2 hkl'
      have hBk := fun W => HBe.out k W hk
      have hLk := fun W => HLc.out (beh s k) W hb.2.1
      have hsz2 := com_le s (beh s k) hb.2.1
      have hltk := com_lt s (beh s k) hb.2.1
      obtain ⟨kb, hkb⟩ : ∃ kb, beh s k = kb := ⟨_, rfl⟩
      rw [hkb] at hRG hb hbl hBk hLk hsz2 hltk
      obtain ⟨cx, hcx⟩ : ∃ cx, comL s kb = cx := ⟨_, rfl⟩
      rw [hcx] at hRG hLk hsz2 hltk
      obtain ⟨nx', x'⟩ := cx
      dsimp only at hRG hLk hsz2 hltk
      have HBk := Lib.hid hBk
      have HLk := Lib.hid hLk
      have HRG2 := Lib.hid hRG
      have Hltk := Lib.hid hltk
      have hbs := HBel.out.size
      have hnew : BoxAt (wr.alloc (.cells #[.string x] 9)) wr.heap.size #[.string x] 9 := BoxAt.new' _ _ _ _ rfl
      have hown1 := HO.out.alloc (.cells #[.string x] 9)
      have Hv5 := Lib.hid (fun g e => HO.out.lt g e)
      have hkb0 : (kb : Int) ≤ 1000000 := by omega
      have hcb := HC.out.alloc (.cells #[.string x] 9)
      have HCb := Lib.hid hcb
      clear hBk hLk hRG hltk hkb hcx HRG hcb
      go_wp2_with (at_builtin; refine wpList_append_where _ rfl _ _ 27 rfl (w.heap.size + 1) 9 i0 (.string ⟨#[]⟩) 1 16 Tryz.underlying27 hi0 hz0 hz1 hz2 rfl (by decide) _ _ _ rfl hown1 ⟨wr.heap.size, 0, none⟩ 1 1 [.string x] rfl rfl ?c1 ?c2 ?c3 ?c4 ?c5 ?c6 ?_)
      case c1 =>
        intro j u hj
        match j, hj with
        | 0, hj => simp at hj; subst hj; exact hnew.cell 0
      case c2 => intro u hu; simp at hu; subst hu; rfl
      case c3 => unfold maxLen; omega
      case c4 => omega
      case c5 => simp; omega
      case c6 => decide
      intro v' w8 hown' hgrow hwh
      have HC8 := Lib.hid (show BoxAt w8 w.heap.size zEn 89 from (hgrow.block w.heap.size HCb.out.lt (fun e => by have := (Hv5.out _ e.symm).1; omega)).trans HCb.out)
      have HB8 := Lib.hid ((HBel.out.alloc (by omega) (.cells #[.string x] 9)).grown hgrow (by simp; omega) (fun g e => by have := (Hv5.out g e).1; omega))
      obtain ⟨A3, c3, rfl⟩ := own_slice hown' (by omega)
      have HO8 := Lib.hid hown'
      clear hown' hgrow hwh hnew hown1 q0 q1 q2 q3 q4 q5 q6 q7 p0 p1 p2 p3 p4 p5 p6 p7
      go_wp2_with fail
      go_at_call 99
      refine (HBk.out _).mono ?_
      rintro e w9 ⟨rfl, rfl⟩
      go_wp2_with fail
      go_at_call 137
      refine (HLk.out _).mono ?_
      rintro e w9 ⟨rfl, rfl⟩
      go_wp2
      go_roundw
      case rel =>
        refine ⟨acc ++ [x], x', kb, nx', A3, c3, rfl, ?_, rfl, rfl, by omega, hb.2.1, hsz2.1, ?_, fun h => Hltk.out (by omega), ⟨fun y hy => ?_, hsz2.2⟩, fun _ => by simp, HRG2.out, HC8, HB8, ?_⟩
        · show Value.slice A3 _ c3 = _
          simp
        · rw [List.length_append, List.length_singleton]; omega
        · rcases List.mem_append.1 hy with h | h
          · exact Hsz.out.1 y h
          · simp at h; rw [h]; exact Hsz.out.2
        · rw [List.length_append, List.length_singleton, List.map_append]
          exact Lib.hid HO8.out
      case measure => simp [intOf]; omega
    · have d2 : ((nx : Int) == (lv : Int)) = false := beq_eq_false_iff_ne.2 (by omega)
      have hRG := HRG.out
      rw [if_neg hn] at hRG
      subst hRG
      have h00 := hpos hn
      rcases HO.out.2 with ⟨_, hz⟩ | ⟨g, cap, cur, hv, hb, hg, hc1, hc2, hcs, htk⟩
      · omega
      cases hv
      have hjl := join_len s.size acc Hsz.out.1
      have hj2 : acc.length * (s.size + 1) ≤ 1000000 * 1000001 := Nat.mul_le_mul (by omega) (by omega)
      have hJ := Tryz.strings_Join g 0 c acc ⟨#[10]⟩ wr (fun j y hy => by
        have := HO.out.cells (g := g) rfl j (bV y) (by rw [List.getElem?_map, hy]; rfl)
        rw [Addr.add_mid] at this
        exact this) (Array.getElem?_eq_some_iff.1 hg).1 (by omega) hc1 (by
          rw [show (⟨#[10]⟩ : ByteArray).data.toList = [10] from rfl]
          omega)
      rw [show (⟨#[10]⟩ : ByteArray).data.toList = [10] from rfl] at hJ
      have HJ := Lib.hid hJ
      have hR := HR2.out
      dsimp only at hR
      obtain ⟨T, hT⟩ : ∃ T : ByteArray, ⟨(Lib.join (acc.map (·.data.toList)) [10]).toArray⟩ = T := ⟨_, rfl⟩
      have hT2 : mkB (Lib.join (acc.map (·.data.toList)) [10]) = T := hT
      rw [hT2] at hR
      subst hR
      have hJ := HJ.out
      rw [hT] at hJ
      have HJ2 := Lib.hid hJ
      clear hJ HJ hT hT2 hjl hj2 hcs htk hg
      go_wp2_with fail
      go_at_call 138
      refine (HJ2.out).mono ?_
      rintro e w2 ⟨rfl, hb2⟩
      have hc2 := BoxAt.later HC.out hb2
      have HC2 := Lib.hid hc2
      have HB2 := Lib.hid (HBel.out.trans (hb2.mono HBel.out.size))
      obtain ⟨m0, m1, m2, m3, m4, m5, m6, m7, g0, g1, g2, g3, g4, g5, g6, g7⟩ := cellsE hc2
      have hl2 := hc2.lt
      clear hb2 hc2 q0 q1 q2 q3 q4 q5 q6 q7 p0 p1 p2 p3 p4 p5 p6 p7
      go_wp2
      exact end8e Tryz.results100 (box_set8 HC2.out _ _ _ _ _ _ _ _) rfl rfl rfl ⟨below_set8 HB2.out (Nat.le_refl _) _ _ _ _ _ _ _ _, _, _, _, _, _, _, _, _, _, _, _, _, rfl, fun x h => by
        cases h
        exact ⟨none, 0, none, 0, rfl, ⟨none, 0, rfl, Nat.le_refl _, Nat.zero_le _, fun h => absurd h (by simp)⟩, AtsF.nil _ _⟩⟩
end Go.Proofs.YtpgiboblonlddaaGreatDoor

namespace Go.Proofs.YtpgiboblonlddaaGreatDoor
open Go.RowKit
set_option linter.unusedVariables false
set_option linter.unusedSimpArgs false
theorem endE8 {fn : Func} {R : Ending → World → Prop} {a : Act} {w2 : World} {A b : Nat} {ty lv : Int} {tx nm : ByteArray} {v u : Value} {fr tu : Int} {t : TypeId} (hres : fn.results = #[.cell A 89])
    (hbox : BoxAt w2 b #[.int .i64 ty, .int .i64 lv, .string tx, .string nm, v, u, .int .i64 fr, .int .i64 tu] t)
    (ha : a.tmps.getD A undef = .pointer (some ⟨b, 0, none⟩)) (hd : a.defers = []) (hR : R (.returned (entV ty lv tx nm v u fr tu)) w2) : bodyPost Tryz.prog fn R .ret a w2 :=
  endE hres hbox ha hd hR
theorem EnF.fields {W : World} {F : Nat → Prop} {x : EN} {ty lv : Int} {tx nm : ByteArray} {v u : Value} {fr tu : Int} (h : EnF W F x (entV ty lv tx nm v u fr tu)) :
    ty = x.ty ∧ lv = x.lv ∧ tx = x.tx ∧ nm = x.nm ∧ fr = x.fr ∧ tu = x.tu := by
  obtain ⟨A, c, B, d, h1, _⟩ := h
  unfold entV at h1
  cases h1
  exact ⟨rfl, rfl, rfl, rfl, rfl, rfl⟩
def GotR (w : World) (x : EN) (e : Ending) (w' : World) : Prop :=
  Below w.heap.size w w' ∧ ∃ v, e = .returned v ∧ EnF w' (Since w.heap.size w') x v
theorem carry_set8a {w w2 : World} {B : Nat} (hB : w.heap.size + 1 ≤ B) (o : Obj) (x0 x1 x2 x3 x4 x5 x6 x7 : Value) : ∀ z, Since B w2 z → Since w.heap.size ((set8 w2 w.heap.size x0 x1 x2 x3 x4 x5 x6 x7).alloc o) z ∧ ((set8 w2 w.heap.size x0 x1 x2 x3 x4 x5 x6 x7).alloc o).heap[z]? = w2.heap[z]? := fun z hz => by
  obtain ⟨z1, z2⟩ := hz
  exact ⟨⟨by omega, by rw [World.size_alloc, set8_size]; omega⟩, (Lib.alloc_old _ _ z (by rw [set8_size]; exact z2)).trans (set8_heap _ _ _ _ _ _ _ _ _ _ z (by omega))⟩
set_option maxHeartbeats 4000000 in
set_option maxRecDepth 100000 in
theorem read_call {s : ByteArray} (hPC : PatCall s) (hs : s.size ≤ 1000000) (i : Nat) (hi : i < s.size) (w : World) : Calls Tryz.prog 67 #[.string s, .int .i64 i] w (GotR w (readS s i)) := by
  obtain ⟨R, hR⟩ : ∃ R, readS s i = R := ⟨_, rfl⟩
  rw [hR]
  unfold readS at hR
  have hC := fun W => comment_call hs i (Nat.le_of_lt hi) W
  have hM := fun W => message_call hPC hs i (Nat.le_of_lt hi) W
  have hJ := fun W => junk_any s i (by omega) hi W
  have hJs : junkS s i = ⟨3, 0, s.extract i (junkTo s (beh s i)), E0, [], [], i, junkTo s (beh s i)⟩ := rfl
  rw [hJs] at hR
  obtain ⟨jt, hjt⟩ : ∃ j, junkTo s (beh s i) = j := ⟨_, rfl⟩
  obtain ⟨jx, hjx⟩ : ∃ x, s.extract i jt = x := ⟨_, rfl⟩
  rw [hjt, hjx] at hJ hR
  obtain ⟨rc, hrc⟩ : ∃ r, comS s i = r := ⟨_, rfl⟩
  obtain ⟨rm, hrm⟩ : ∃ r, msgS s i = r := ⟨_, rfl⟩
  rw [hrc] at hC hR
  rw [hrm] at hM hR
  have HC := Lib.hid hC
  have HM := Lib.hid hM
  have HJ := Lib.hid hJ
  have HR := Lib.hid hR
  have hi0 : (i : Int) ≤ 1000000 := by omega
  have HX0 := Lib.hid (BoxAt.new w zEn 89)
  clear hC hM hJ hR hJs hrc hrm hjt hjx hPC
  unfold GotE at HC HM
  unfold entV at HC HM HJ
  go_enter Tryz.func67, Tryz.ntmps67
  go_wp2_with fail
  go_at_call 100
  refine (HC.out _).mono ?_
  rintro e w1 ⟨hb1, ty, lv, tx, nm, A, n, c, B, m, d, fr, tu, rfl, h1⟩
  have hx1 := BoxAt.later HX0.out hb1
  have HX1 := Lib.hid hx1
  have HB1 := Lib.hid (((Below.refl w.heap.size w).alloc (Nat.le_refl _) (.cells zEn 89)).trans (hb1.mono (by simp)))
  have H1 := Lib.hid h1
  obtain ⟨q0, q1, q2, q3, q4, q5, q6, q7, p0, p1, p2, p3, p4, p5, p6, p7⟩ := cellsE hx1
  have hl1 := hx1.lt
  have hs1 := hb1.size
  rw [World.size_alloc] at hs1
  clear hb1 h1 hx1
  cases rc with
  | some x =>
    have hR := HR.out
    dsimp only at hR
    subst hR
    go_wp2
    exact endE8 Tryz.results67 ((box_set8 HX1.out _ _ _ _ _ _ _ _).alloc _) rfl rfl ⟨(below_set8 HB1.out (Nat.le_refl _) _ _ _ _ _ _ _ _).alloc (by rw [set8_size]; omega) _, _, rfl, EnF.carry (carry_set8a (by simp; try omega) _ _ _ _ _ _ _ _ _) (H1.out x rfl)⟩
  | none =>
    have hR := HR.out
    dsimp only at hR
    have HR2 := Lib.hid hR
    clear hR HR H1
    go_wp2_with fail
    go_at_call 101
    refine (HM.out _).mono ?_
    rintro e w2 ⟨hb2, ty', lv', tx', nm', A', n', c', B', m', d', fr', tu', rfl, h2⟩
    have hx2 := BoxAt.later (HX1.out.alloc (.cells #[.int .i64 ty, .int .i64 lv, .string tx, .string nm, .slice A n c, .slice B m d, .int .i64 fr, .int .i64 tu] 89)) hb2
    have HX2 := Lib.hid hx2
    have HB2 := Lib.hid ((HB1.out.alloc (by omega) (.cells #[.int .i64 ty, .int .i64 lv, .string tx, .string nm, .slice A n c, .slice B m d, .int .i64 fr, .int .i64 tu] 89)).trans (hb2.mono (by simp; omega)))
    have H2 := Lib.hid h2
    obtain ⟨r0, r1, r2, r3, r4, r5, r6, r7, f0, f1, f2, f3, f4, f5, f6, f7⟩ := cellsE hx2
    have hl2 := hx2.lt
    have hs2 := hb2.size
    rw [World.size_alloc] at hs2
    clear hb2 h2 hx2 q0 q1 q2 q3 q4 q5 q6 q7 p0 p1 p2 p3 p4 p5 p6 p7
    cases rm with
    | some x =>
      have hR := HR2.out
      dsimp only at hR
      subst hR
      go_wp2
      exact endE8 Tryz.results67 ((box_set8 HX2.out _ _ _ _ _ _ _ _).alloc _) rfl rfl ⟨(below_set8 HB2.out (Nat.le_refl _) _ _ _ _ _ _ _ _).alloc (by rw [set8_size]; omega) _, _, rfl, EnF.carry (carry_set8a (by simp; try omega) _ _ _ _ _ _ _ _ _) (H2.out x rfl)⟩
    | none =>
      have hR := HR2.out
      dsimp only at hR
      subst hR
      clear H2 HR2
      go_wp2_with fail
      go_at_call 102
      refine (HJ.out _).mono ?_
      rintro e w3 ⟨rfl, hb3⟩
      have hx3 := BoxAt.later (HX2.out.alloc (.cells #[.int .i64 ty', .int .i64 lv', .string tx', .string nm', .slice A' n' c', .slice B' m' d', .int .i64 fr', .int .i64 tu'] 89)) hb3
      have HX3 := Lib.hid hx3
      have HB3 := Lib.hid ((HB2.out.alloc (by omega) (.cells #[.int .i64 ty', .int .i64 lv', .string tx', .string nm', .slice A' n' c', .slice B' m' d', .int .i64 fr', .int .i64 tu'] 89)).trans (hb3.mono (by simp; omega)))
      obtain ⟨q0, q1, q2, q3, q4, q5, q6, q7, p0, p1, p2, p3, p4, p5, p6, p7⟩ := cellsE hx3
      have hl3 := hx3.lt
      clear hb3 hx3 r0 r1 r2 r3 r4 r5 r6 r7 f0 f1 f2 f3 f4 f5 f6 f7
      go_wp2
      exact endE8 Tryz.results67 (box_set8 HX3.out _ _ _ _ _ _ _ _) rfl rfl ⟨below_set8 HB3.out (Nat.le_refl _) _ _ _ _ _ _ _ _, _, rfl, none, 0, none, 0, rfl, ⟨none, 0, rfl, Nat.le_refl _, Nat.zero_le _, fun h => absurd h (by simp)⟩, AtsF.nil _ _⟩
end Go.Proofs.YtpgiboblonlddaaGreatDoor

namespace Go.Proofs.YtpgiboblonlddaaGreatDoor
open Go.RowKit
set_option linter.unusedVariables false
set_option linter.unusedSimpArgs false
theorem infoEn : (Tryz.prog.info? 89).map (fun i => (i.zero, i.size, i.bytes)) = some (some (.agg #[.int .i64 0, .int .i64 0, .string ⟨#[]⟩, .string ⟨#[]⟩, .slice none 0 0, .slice none 0 0, .int .i64 0, .int .i64 0]), 8, 112) := by kernel_rfl
def NsF (W : World) (F : Nat → Prop) : List EN → Nat → Nat → Prop
  | [], _, _ => True
  | x :: r, b, o => F b ∧ (∃ (A : Option Addr) (c : Nat) (B : Option Addr) (d : Nat), W.cell? ⟨b, o, none⟩ = some (.int .i64 x.ty) ∧ W.cell? ⟨b, o + 1, none⟩ = some (.int .i64 x.lv) ∧ W.cell? ⟨b, o + 2, none⟩ = some (.string x.tx) ∧ W.cell? ⟨b, o + 3, none⟩ = some (.string x.nm) ∧
      W.cell? ⟨b, o + 4, none⟩ = some (.slice A x.val.length c) ∧ W.cell? ⟨b, o + 5, none⟩ = some (.slice B x.ats.length d) ∧ W.cell? ⟨b, o + 6, none⟩ = some (.int .i64 x.fr) ∧ W.cell? ⟨b, o + 7, none⟩ = some (.int .i64 x.tu) ∧
      PatF W F x.val (.slice A x.val.length c) ∧ AtsF W F x.ats (.slice B x.ats.length d)) ∧ NsF W F r b (o + 8)
theorem NsF.carry {W W' : World} {F F' : Nat → Prop} (g : ∀ b, F b → F' b ∧ W'.heap[b]? = W.heap[b]?) : ∀ (l : List EN) (b o : Nat), NsF W F l b o → NsF W' F' l b o
  | [], b, o, _ => by rw [NsF]; trivial
  | x :: r, b, o, h => by
    rw [NsF] at h ⊢
    obtain ⟨hb, ⟨A, c, B, d, h0, h1, h2, h3, h4, h5, h6, h7, h8, h9⟩, hr⟩ := h
    have e := (g b hb).2
    exact ⟨(g b hb).1, ⟨A, c, B, d, (cell_same e _).trans h0, (cell_same e _).trans h1, (cell_same e _).trans h2, (cell_same e _).trans h3, (cell_same e _).trans h4, (cell_same e _).trans h5, (cell_same e _).trans h6, (cell_same e _).trans h7, h8.carry g, h9.carry g⟩, NsF.carry g r b _ hr⟩
def NZip (W : World) (F : Nat → Prop) : List EN → List Value → Prop
  | [], xs => xs = []
  | x :: r, xs => ∃ (A : Option Addr) (c : Nat) (B : Option Addr) (d : Nat) (ys : List Value), xs = .int .i64 x.ty :: .int .i64 x.lv :: .string x.tx :: .string x.nm :: .slice A x.val.length c :: .slice B x.ats.length d :: .int .i64 x.fr :: .int .i64 x.tu :: ys ∧
      PatF W F x.val (.slice A x.val.length c) ∧ AtsF W F x.ats (.slice B x.ats.length d) ∧ NZip W F r ys
theorem NZip.snoc {W : World} {F : Nat → Prop} {x : EN} {A : Option Addr} {c : Nat} {B : Option Addr} {d : Nat} (hp : PatF W F x.val (.slice A x.val.length c)) (hq : AtsF W F x.ats (.slice B x.ats.length d)) : ∀ (acc : List EN) (xs : List Value), NZip W F acc xs →
    NZip W F (acc ++ [x]) (xs ++ [.int .i64 x.ty, .int .i64 x.lv, .string x.tx, .string x.nm, .slice A x.val.length c, .slice B x.ats.length d, .int .i64 x.fr, .int .i64 x.tu])
  | [], xs, h => by
    rw [NZip] at h
    subst h
    exact ⟨A, c, B, d, [], rfl, hp, hq, rfl⟩
  | y :: r, xs, h => by
    rw [NZip] at h
    obtain ⟨A', c', B', d', ys, rfl, h2, h3, h4⟩ := h
    exact ⟨A', c', B', d', _, rfl, h2, h3, NZip.snoc hp hq r ys h4⟩
theorem NZip.carry {W W' : World} {F F' : Nat → Prop} (g : ∀ b, F b → F' b ∧ W'.heap[b]? = W.heap[b]?) : ∀ (acc : List EN) (xs : List Value), NZip W F acc xs → NZip W' F' acc xs
  | [], xs, h => by rw [NZip] at h ⊢; exact h
  | y :: r, xs, h => by
    rw [NZip] at h
    obtain ⟨A', c', B', d', ys, rfl, h2, h3, h4⟩ := h
    exact ⟨A', c', B', d', ys, rfl, h2.carry g, h3.carry g, NZip.carry g r ys h4⟩
theorem NZip.ns {W : World} {F : Nat → Prop} {g : Nat} (hg : F g) : ∀ (acc : List EN) (xs : List Value) (o : Nat), (∀ j x, xs[j]? = some x → W.cell? ⟨g, o + j, none⟩ = some x) → NZip W F acc xs → NsF W F acc g o
  | [], xs, o, hc, h => by rw [NsF]; trivial
  | y :: r, xs, o, hc, h => by
    rw [NZip] at h
    obtain ⟨A', c', B', d', ys, rfl, h2, h3, h4⟩ := h
    rw [NsF]
    refine ⟨hg, ⟨A', c', B', d', hc 0 _ rfl, hc 1 _ rfl, hc 2 _ rfl, hc 3 _ rfl, hc 4 _ rfl, hc 5 _ rfl, hc 6 _ rfl, hc 7 _ rfl, h2, h3⟩, NZip.ns hg r ys (o + 8) (fun j x hx => ?_) h4⟩
    have := hc (j + 8) x (by simpa using hx)
    rw [show o + 8 + j = o + (j + 8) by omega]
    exact this
def OwnN (B : Nat) (W : World) (v : Value) (acc : List EN) : Prop := ∃ xs, W.ownsRow B 89 8 v acc.length xs ∧ NZip W (OwnSet B W v) acc xs
theorem OwnN.nil (B : Nat) (W : World) : OwnN B W (.slice none 0 0) [] := ⟨[], World.ownsRow_nil _ _ _ _, rfl⟩
theorem OwnN.below {B : Nat} {W W' : World} {v : Value} {acc : List EN} (h : OwnN B W v acc) (g : Below W.heap.size W W') : OwnN B W' v acc := by
  obtain ⟨xs, h1, h2⟩ := h
  refine ⟨xs, h1.kept (⟨g.os, g.tape, g.output, g.size, fun k hk _ => g.block k hk⟩ : W.grownBy W' none) (by by_cases h : v.ownBlock = none; exact .inl h; exact .inr h), NZip.carry (fun b hb => ?_) _ _ h2⟩
  obtain ⟨⟨hb1, hb2⟩, hb3⟩ := hb
  exact ⟨⟨⟨hb1, Nat.lt_of_lt_of_le hb2 g.size⟩, hb3⟩, g.block b hb2⟩
theorem OwnN.push {B : Nat} {w1 W2 W3 : World} {v v' : Value} {acc : List EN} {xs : List Value} {x : EN} {A' : Option Addr} {c' : Nat} {B' : Option Addr} {d' : Nat} (K : Below w1.heap.size w1 W2) (hz : NZip w1 (OwnSet B w1 v) acc xs)
    (hp : PatF W2 (OwnSet B W2 v) x.val (.slice A' x.val.length c')) (hq : AtsF W2 (OwnSet B W2 v) x.ats (.slice B' x.ats.length d'))
    (ho : W3.ownsRow B 89 8 v' (acc.length + 1) (xs ++ [.int .i64 x.ty, .int .i64 x.lv, .string x.tx, .string x.nm, .slice A' x.val.length c', .slice B' x.ats.length d', .int .i64 x.fr, .int .i64 x.tu])) (hg : W2.grownBy W3 v.ownBlock) (hw : v'.ownBlock = v.ownBlock ∨ v'.ownBlock = some W2.heap.size) : OwnN B W3 v' (acc ++ [x]) := by
  refine ⟨_, by rw [List.length_append]; exact ho, ?_⟩
  have hz2 : NZip W2 (OwnSet B W2 v) acc xs := NZip.carry (fun b hb => by
    obtain ⟨⟨hb1, hb2⟩, hb3⟩ := hb
    exact ⟨⟨⟨hb1, Nat.lt_of_lt_of_le hb2 K.size⟩, hb3⟩, K.block b hb2⟩) _ _ hz
  have g : ∀ b, OwnSet B W2 v b → OwnSet B W3 v' b ∧ W3.heap[b]? = W2.heap[b]? := fun b hb => by
    obtain ⟨⟨hb1, hb2⟩, hb3⟩ := hb
    refine ⟨⟨⟨hb1, Nat.lt_of_lt_of_le hb2 hg.size⟩, ?_⟩, hg.block b hb2 hb3⟩
    rcases hw with e | e
    · rw [e]; exact hb3
    · rw [e]; intro e2; have := Option.some.inj e2; omega
  exact NZip.carry g _ _ (NZip.snoc hp hq acc xs hz2)
def ListF (W : World) (F : Nat → Prop) (l : List EN) (v : Value) : Prop := LieAt (NsF W F l) v l.length
theorem OwnN.list {B : Nat} {W : World} {v : Value} {acc : List EN} (h : OwnN B W v acc) : ∃ A c, v = .slice A acc.length c ∧ ListF W (Since B W) acc v := by
  obtain ⟨xs, h1, h2⟩ := h
  rcases h1.2 with ⟨rfl, h0⟩ | ⟨g, cap, cur, rfl, hb, hg, hc1, hc2, hcs, htk⟩
  · have : acc = [] := List.eq_nil_of_length_eq_zero h0
    subst this
    exact ⟨none, 0, rfl, none, 0, rfl, Nat.le_refl _, Nat.zero_le _, fun h => absurd h (by simp)⟩
  · refine ⟨_, _, rfl, _, _, rfl, hc1, hc2, fun _ => ⟨g, 0, rfl, NZip.ns ⟨hb, (Array.getElem?_eq_some_iff.1 hg).1⟩ acc xs 0 (fun j x hx => ?_) (NZip.carry (fun b hb => ⟨hb.1, rfl⟩) _ _ h2)⟩⟩
    have := h1.cells (g := g) rfl j x hx
    rw [Addr.add_mid] at this
    exact this
end Go.Proofs.YtpgiboblonlddaaGreatDoor
