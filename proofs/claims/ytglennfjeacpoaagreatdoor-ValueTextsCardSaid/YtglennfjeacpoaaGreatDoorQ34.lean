/-
  Several texts put together (part 34): what the law and the program call, walked; their contracts.
-/
import Derived.Test.YtglennfjeacpoaaGreatDoorQ32
import Derived.Test.YtglennfjeacpoaaGreatDoorQ33
namespace Go.Proofs.YtglennfjeacpoaaGreatDoor
open Go.RowKit
set_option linter.unusedVariables false
set_option linter.unusedSimpArgs false
structure HT (w : World) (m v b cn : Nat) (made : Bool) (cm cv : Array Value) (W : World) : Prop where
  m : BoxAt W m cm 26
  v : BoxAt W v cv 33
  k : MarksAt W b made cn
  bel : Below w.heap.size w W
theorem HT.later {w W W' : World} {m v b cn : Nat} {made : Bool} {cm cv : Array Value} (h : HT w m v b cn made cm cv W) (g : Below W.heap.size W W') : HT w m v b cn made cm cv W' :=
  ⟨h.m.later g, h.v.later g, h.k.later g, h.bel.trans (g.mono h.bel.size)⟩
theorem HT.drew {w W : World} {m v b cn : Nat} {made : Bool} {cm cv : Array Value} (h : HT w m v b cn made cm cv W) : HT w m v b cn made cm cv W.drew := h.later (Below.refl _ _).drew
theorem HT.kp {w W W' : World} {m v b cn : Nat} {made : Bool} {cm cv : Array Value} (h : HT w m v b cn made cm cv W) (hm : m ≠ b) (hv : v ≠ b) (hb : w.heap.size ≤ b) (g : Kp b W W') {cn' : Nat} (k : MarksAt W' b true cn') : HT w m v b cn' true cm cv W' :=
  ⟨h.m.kp g hm, h.v.kp g hv, k, h.bel.trans (g.below.mono hb)⟩
theorem told_parse {l : List UInt8} {n : Bool} {d : List UInt8} {k : Nat} (h : parseL l = some (n, d, k)) : Told d k := by
  rw [parseL_body] at h
  cases hb : bodyL (Lib.trimPrefix l [45]) with
  | none => rw [hb] at h; cases h
  | some x =>
    obtain ⟨d', k'⟩ := x
    rw [hb] at h
    cases h
    exact told_of_body hb
theorem mom_both (lang : ByteArray) (sec st : Int) : ∃ T, (∀ W : World, TabPow W → Calls Tryz.prog 12 #[.string lang, .int .i64 sec, .int .i64 st] W fun e w' => e = .returned (.string T) ∧ Below W.heap.size W w') ∧ FmToV lang sec st T := by
  obtain ⟨y, m, d, h, mi, se, wd, a⟩ := mom_ex (clampS sec)
  exact ⟨_, fun W hT => lformat_any lang sec st a W hT, fun W hT => mformat_any lang sec st a W hT⟩
set_option maxHeartbeats 8000000 in
set_option maxRecDepth 100000 in
theorem lawTexts (kd : Int) (tx : ByteArray) (n : Bool) (s : ByteArray) (r : Int) (l : List OPT) (A : Option Addr) (c : Nat) (sec st : Int) (lang : ByteArray) (w : World) (hsh : w.ShapedOpen Tryz.prog) (ht : TabPow w) (hl : ListO w l A c) (hs : s.size ≤ 9223372036854775807) (hr0 : -9223372036854775808 ≤ r) (hr1 : r ≤ 9223372036854775807) :
    Calls Tryz.prog 3 #[.agg #[.int .i64 kd, .string tx, .bool n, .string s, .int .i64 r, .slice A l.length c, .int .i64 sec, .int .i64 st], .string lang] w fun e w' => e = .returned (.bool true) ∧ Below w.heap.size w w' := by
  have hRt := fun W (h : ListO W l A c) => mright_any kd tx n s r l A c sec st W h hs hr0 hr1
  have hOp := fun (h : ∀ p ∈ l, OkO p) (W : World) (hW : ListO W l A c) => opts_any l A c W hW h
  have hVal := fun (k : Nat) (mi mf xf : Int) (pl rk : Bool) (hj : bits BinOp.and IntKind.i64 kd 3 = 1) (hO : ∀ W : World, ListO W l A c → Calls Tryz.prog 11 #[.slice A l.length c] W fun e w' => e = .returned (.agg #[.int .i64 mi, .int .i64 mf, .int .i64 xf, .bool pl, .bool rk]) ∧ Below W.heap.size W w') (W : World) (h : ListO W l A c) => value1k_core kd hj tx n s (k : Int) l A c sec st mi mf xf pl rk W h hO
  have HOp := Lib.hid hOp
  have HVal := Lib.hid hVal
  have HRt := Lib.hid hRt
  have HL := Lib.hid hl
  have Hsh := Lib.hid hsh
  have Ht := Lib.hid ht
  obtain ⟨j, hj3, hj⟩ := and3 kd
  clear hOp hVal hRt hl hsh hs hr0 hr1 ht
  generalize hL : l.length = L at *
  have HLL := Lib.hid hL
  clear hL
  have Z0 := Lib.hid ((Below.refl w.heap.size w).alloc (Nat.le_refl _) (.cells #[.int .i64 kd, .string tx, .bool n, .string s, .int .i64 r, .slice A L c, .int .i64 sec, .int .i64 st] 26))
  have M0 := Lib.hid (BoxAt.new w #[.int .i64 kd, .string tx, .bool n, .string s, .int .i64 r, .slice A L c, .int .i64 sec, .int .i64 st] 26)
  go_enter Tryz.func3, Tryz.ntmps3
  go_wp2_with fail
  go_at_call 7
  refine (headV_any _ (shp_below Hsh.out Z0.out)).mono ?_
  rintro e w1 ⟨rfl, hb1⟩
  have Z1 := Lib.hid (below_then Z0.out (Nat.le_refl _) hb1)
  have m := M0.out.later hb1
  have zm := m.lt
  have m0 := m.cell 0
  have m1 := m.cell 1
  have m2 := m.cell 2
  have m3 := m.cell 3
  have m4 := m.cell 4
  have m5 := m.cell 5
  have m6 := m.cell 6
  have m7 := m.cell 7
  simp only [List.getElem?_toArray, List.getElem?_cons_zero, List.getElem?_cons_succ] at m0 m1 m2 m3 m4 m5 m6 m7
  have M1 := Lib.hid m
  clear hb1 m M0
  go_wp2_with fail
  go_at_call 8
  refine (HRt.out _ (HL.out.later Z1.out)).mono ?_
  rintro e w2 ⟨hr, hb2⟩
  have Z2 := Lib.hid (below_then Z1.out (Nat.le_refl _) hb2)
  have m := M1.out.later hb2
  clear zm m0 m1 m2 m3 m4 m5 m6 m7 hb2 M1 Z1 Z0 HRt
  have M2 := Lib.hid m
  clear m
  rcases hr with rfl | ⟨hOk, ⟨k, rfl, hN⟩, h20, h60, rfl⟩
  · go_wp2
    go_ret
    exact ⟨rfl, Z2.out⟩
  have m := M2.out
  have zm := m.lt
  have m0 := m.cell 0
  have m1 := m.cell 1
  have m2 := m.cell 2
  have m3 := m.cell 3
  have m4 := m.cell 4
  have m5 := m.cell 5
  have m6 := m.cell 6
  have m7 := m.cell 7
  simp only [List.getElem?_toArray, List.getElem?_cons_zero, List.getElem?_cons_succ] at m0 m1 m2 m3 m4 m5 m6 m7
  clear m
  have : j = 0 ∨ j = 1 ∨ j = 2 ∨ j = 3 := by omega
  have HN := Lib.hid hN
  have HOk := Lib.hid hOk
  have H60 := Lib.hid h60
  clear hN hOk h60 h20 hj3
  rcases this with rfl | rfl | rfl | rfl
  · have hj' : bits BinOp.and IntKind.i64 kd 3 = 0 := hj
    have hV : ∀ W : World, Below w.heap.size w W → Calls Tryz.prog 9 #[.agg #[.int .i64 kd, .string tx, .bool n, .string s, .int .i64 (k : Int), .slice A L c, .int .i64 sec, .int .i64 st]] W fun e w' => e = .returned (.agg #[.int .i64 0, .string tx, .bool false, .string ⟨#[]⟩, .int .i64 0, .int .i64 0, .int .i64 0, .int .i64 0, .bool false, .bool false, .int .i64 0, .int .i64 0]) ∧ Below W.heap.size W w' := fun W hW =>
      value0_any kd tx n s (k : Int) L A c sec st _ _ _ _ _ _ _ _ _ _ _ _ W (shp_below Hsh.out hW) hj' (fun W _ => str_any tx W) ⟨_, rfl⟩ ⟨_, rfl⟩ ⟨_, rfl⟩ ⟨_, rfl⟩ ⟨_, rfl⟩ ⟨_, rfl⟩ ⟨_, rfl⟩ ⟨_, rfl⟩ ⟨_, rfl⟩ ⟨_, rfl⟩ ⟨_, rfl⟩ ⟨_, rfl⟩
    have HV := Lib.hid hV
    clear hV hj
    as_aux_lemma =>
      go_wp2_with fail
      go_at_call 9
      refine (HV.out _ Z2.out).mono ?_
      rintro e w3 ⟨rfl, hb3⟩
      have Z3 := Lib.hid (below_new (below_then Z2.out (Nat.le_refl _) hb3) (Nat.le_refl _) (.cells #[.int .i64 0, .string tx, .bool false, .string ⟨#[]⟩, .int .i64 0, .int .i64 0, .int .i64 0, .int .i64 0, .bool false, .bool false, .int .i64 0, .int .i64 0] 33))
      have M3 := Lib.hid ((M2.out.later hb3).alloc (.cells #[.int .i64 0, .string tx, .bool false, .string ⟨#[]⟩, .int .i64 0, .int .i64 0, .int .i64 0, .int .i64 0, .bool false, .bool false, .int .i64 0, .int .i64 0] 33))
      have V3 := Lib.hid (BoxAt.new w3 #[.int .i64 0, .string tx, .bool false, .string ⟨#[]⟩, .int .i64 0, .int .i64 0, .int .i64 0, .int .i64 0, .bool false, .bool false, .int .i64 0, .int .i64 0] 33)
      have zw3 : w.heap.size < w3.heap.size := (M2.out.later hb3).lt
      clear hb3 M2 zm m0 m1 m2 m3 m4 m5 m6 m7
      have mk := marks_new (w3.alloc (.cells #[.int .i64 0, .string tx, .bool false, .string ⟨#[]⟩, .int .i64 0, .int .i64 0, .int .i64 0, .int .i64 0, .bool false, .bool false, .int .i64 0, .int .i64 0] 33))
      rw [show (w3.alloc (.cells #[.int .i64 0, .string tx, .bool false, .string ⟨#[]⟩, .int .i64 0, .int .i64 0, .int .i64 0, .int .i64 0, .bool false, .bool false, .int .i64 0, .int .i64 0] 33)).heap.size = w3.heap.size + 1 by simp] at mk
      have K4 := Lib.hid mk
      clear mk
      have Z4 := Lib.hid (below_new Z3.out (Nat.le_refl _) (.cells #[.int .u32 0, .int .i32 0, .int .u32 0, .map none, .int .i64 0] 53))
      have M4 := Lib.hid (M3.out.alloc (.cells #[.int .u32 0, .int .i32 0, .int .u32 0, .map none, .int .i64 0] 53))
      have V4 := Lib.hid (V3.out.alloc (.cells #[.int .u32 0, .int .i32 0, .int .u32 0, .map none, .int .i64 0] 53))
      have m := M3.out
      have zm := m.lt
      have m0 := m.cell 0
      have m1 := m.cell 1
      have m2 := m.cell 2
      have m3 := m.cell 3
      have m4 := m.cell 4
      have m5 := m.cell 5
      have m6 := m.cell 6
      have m7 := m.cell 7
      simp only [List.getElem?_toArray, List.getElem?_cons_zero, List.getElem?_cons_succ] at m0 m1 m2 m3 m4 m5 m6 m7
      clear m
      have y := V3.out
      clear Z3 M3
      clear y
      go_wp2_with fail
      go_at_call 14
      refine (stringT_any (w3.heap.size + 1) tx lang _).mono ?_
      rintro e w5 ⟨rfl, hb5⟩
      go_wp2
      go_ret
      exact ⟨ret_bool (by simp), below_then Z4.out (Nat.le_refl _) hb5⟩
  · have hj' : bits BinOp.and IntKind.i64 kd 3 = 1 := hj
    have hO := HOp.out HOk.out
    have hb := opts_bd l dflO HOk.out dfl_bd
    obtain ⟨hb1, hb2, hb3⟩ := hb
    have hV0 := HVal.out k _ _ _ _ _ hj' hO
    generalize (optsF l dflO).mi = mi at *
    generalize (optsF l dflO).mf = mf at *
    generalize (optsF l dflO).xf = xf at *
    generalize (optsF l dflO).pl = pl at *
    generalize (optsF l dflO).rk = rk at *
    obtain ⟨a1, rfl⟩ := Int.eq_ofNat_of_zero_le hb1.1
    obtain ⟨a2, rfl⟩ := Int.eq_ofNat_of_zero_le hb2.1
    obtain ⟨a3, rfl⟩ := Int.eq_ofNat_of_zero_le hb3.1
    have hN := HN.out
    have hlt := hN.lt
    have hle := hN.le
    rw [size_data] at hlt hle
    have hFm := fun b => fmtAt_of b lang a1 a2 a3 pl rk n s k hle (by omega) hN.digs (by omega) (by omega) (by omega)
    generalize bL (fmtL n pl (rndL s.data.toList k a2 a3) (rndK s.data.toList k a2 a3) a1 (sgn lang).1 (sgn lang).2) = T at *
    generalize ((a1 : Nat) : Int) = mi at *
    generalize ((a2 : Nat) : Int) = mf at *
    generalize ((a3 : Nat) : Int) = xf at *
    have hV : ∀ W : World, Below w.heap.size w W → Calls Tryz.prog 9 #[.agg #[.int .i64 kd, .string tx, .bool n, .string s, .int .i64 (k : Int), .slice A L c, .int .i64 sec, .int .i64 st]] W fun e w' => e = .returned (.agg #[.int .i64 1, .string ⟨#[]⟩, .bool n, .string s, .int .i64 (k : Int), .int .i64 mi, .int .i64 mf, .int .i64 xf, .bool pl, .bool rk, .int .i64 0, .int .i64 0]) ∧ Below W.heap.size W w' := fun W hW => hV0 W (HL.out.later hW)
    have hO2 : ∀ W : World, Below w.heap.size w W → Calls Tryz.prog 11 #[.slice A L c] W fun e w' => e = .returned (.agg #[.int .i64 mi, .int .i64 mf, .int .i64 xf, .bool pl, .bool rk]) ∧ Below W.heap.size W w' := fun W hW => hO W (HL.out.later hW)
    have HV := Lib.hid hV
    have HO := Lib.hid hO2
    have HFm := Lib.hid hFm
    clear hV hj hV0 hO hO2 hFm hb1 hb2 hb3 hN hlt hle
    as_aux_lemma =>
      go_wp2_with fail
      go_at_call 9
      refine (HV.out _ Z2.out).mono ?_
      rintro e w3 ⟨rfl, hb3⟩
      have Z3 := Lib.hid (below_new (below_then Z2.out (Nat.le_refl _) hb3) (Nat.le_refl _) (.cells #[.int .i64 1, .string ⟨#[]⟩, .bool n, .string s, .int .i64 (k : Int), .int .i64 mi, .int .i64 mf, .int .i64 xf, .bool pl, .bool rk, .int .i64 0, .int .i64 0] 33))
      have M3 := Lib.hid ((M2.out.later hb3).alloc (.cells #[.int .i64 1, .string ⟨#[]⟩, .bool n, .string s, .int .i64 (k : Int), .int .i64 mi, .int .i64 mf, .int .i64 xf, .bool pl, .bool rk, .int .i64 0, .int .i64 0] 33))
      have V3 := Lib.hid (BoxAt.new w3 #[.int .i64 1, .string ⟨#[]⟩, .bool n, .string s, .int .i64 (k : Int), .int .i64 mi, .int .i64 mf, .int .i64 xf, .bool pl, .bool rk, .int .i64 0, .int .i64 0] 33)
      have zw3 : w.heap.size < w3.heap.size := (M2.out.later hb3).lt
      clear hb3 M2 zm m0 m1 m2 m3 m4 m5 m6 m7
      have mk := marks_new (w3.alloc (.cells #[.int .i64 1, .string ⟨#[]⟩, .bool n, .string s, .int .i64 (k : Int), .int .i64 mi, .int .i64 mf, .int .i64 xf, .bool pl, .bool rk, .int .i64 0, .int .i64 0] 33))
      rw [show (w3.alloc (.cells #[.int .i64 1, .string ⟨#[]⟩, .bool n, .string s, .int .i64 (k : Int), .int .i64 mi, .int .i64 mf, .int .i64 xf, .bool pl, .bool rk, .int .i64 0, .int .i64 0] 33)).heap.size = w3.heap.size + 1 by simp] at mk
      have K4 := Lib.hid mk
      clear mk
      have Z4 := Lib.hid (below_new Z3.out (Nat.le_refl _) (.cells #[.int .u32 0, .int .i32 0, .int .u32 0, .map none, .int .i64 0] 53))
      have M4 := Lib.hid (M3.out.alloc (.cells #[.int .u32 0, .int .i32 0, .int .u32 0, .map none, .int .i64 0] 53))
      have V4 := Lib.hid (V3.out.alloc (.cells #[.int .u32 0, .int .i32 0, .int .u32 0, .map none, .int .i64 0] 53))
      have m := M3.out
      have zm := m.lt
      have m0 := m.cell 0
      have m1 := m.cell 1
      have m2 := m.cell 2
      have m3 := m.cell 3
      have m4 := m.cell 4
      have m5 := m.cell 5
      have m6 := m.cell 6
      have m7 := m.cell 7
      simp only [List.getElem?_toArray, List.getElem?_cons_zero, List.getElem?_cons_succ] at m0 m1 m2 m3 m4 m5 m6 m7
      clear m
      have y := V3.out
      clear Z3 M3
      clear y
      go_wp2_with fail
      clear m0 m1 m2 m3 m4 m5 m6 m7 zm
      have nT : (T.toList == T.toList) = true := by simp
      generalize (w3.alloc (.cells #[.int .i64 1, .string ⟨#[]⟩, .bool n, .string s, .int .i64 (k : Int), .int .i64 mi, .int .i64 mf, .int .i64 xf, .bool pl, .bool rk, .int .i64 0, .int .i64 0] 33)).alloc (.cells #[.int .u32 0, .int .i32 0, .int .u32 0, .map none, .int .i64 0] 53) = W4 at *
      have m := M4.out
      have zm := m.lt
      have m0 := m.cell 0
      have m1 := m.cell 1
      have m2 := m.cell 2
      have m3 := m.cell 3
      have m4 := m.cell 4
      have m5 := m.cell 5
      have m6 := m.cell 6
      have m7 := m.cell 7
      simp only [List.getElem?_toArray, List.getElem?_cons_zero, List.getElem?_cons_succ] at m0 m1 m2 m3 m4 m5 m6 m7
      clear m
      go_region_with (first | (go_at_call 11; refine (HO.out _ (by first | exact Z4.out | exact Z4.out.drew)).mono ?_; rintro e w5 ⟨rfl, hb5⟩; (have mm : BoxAt w5 w.heap.size #[.int .i64 kd, .string tx, .bool n, .string s, .int .i64 (k : Int), .slice A L c, .int .i64 sec, .int .i64 st] 26 := by first | exact (M4.out.later (Below.refl _ _).drew).later hb5 | exact M4.out.later hb5); have mz := mm.lt; have x2 := mm.cell 2; have x3 := mm.cell 3; have x4 := mm.cell 4; simp only [List.getElem?_toArray, List.getElem?_cons_zero, List.getElem?_cons_succ] at x2 x3 x4; clear mm) | (go_at_call 10; refine ((HFm.out (w3.heap.size + 1)) _ false 0 (by first | exact (K4.out.later (Below.refl _ _).drew).later hb5 | exact K4.out.later hb5) (by omega)).mono ?_; rintro e w6 ⟨rfl, hm6, hk6⟩))
      all_goals
        have Z5 := Lib.hid (below_then (Z4.out.drew) (Nat.le_refl _) hb5)
        have y := ((V4.out.later (Below.refl _ _).drew).later hb5).kp hk6 (by omega)
        have Z6 := Lib.hid (Z5.out.trans (hk6.below.mono (by omega)))
        have K6 := Lib.hid hm6
        clear hm6 hk6 hb5 x2 x3 x4 mz m0 m1 m2 m3 m4 m5 m6 m7 zm
        have zy := y.lt
        have y0 := y.cell 0
        have y1 := y.cell 1
        have y2 := y.cell 2
        have y3 := y.cell 3
        have y4 := y.cell 4
        have y5 := y.cell 5
        have y6 := y.cell 6
        have y7 := y.cell 7
        have y8 := y.cell 8
        have y9 := y.cell 9
        have y10 := y.cell 10
        have y11 := y.cell 11
        simp only [List.getElem?_toArray, List.getElem?_cons_zero, List.getElem?_cons_succ] at y0 y1 y2 y3 y4 y5 y6 y7 y8 y9 y10 y11
        clear y
        go_wp2_with fail
        go_at_call 14
        refine (stringN_any (w3.heap.size + 1) true 1 n s (k : Int) mi mf xf pl rk lang T _ K6.out (by omega) (HFm.out _)).mono ?_
        rintro e w7 ⟨rfl, hm7, hk7⟩
        have Z7 := Lib.hid (Z6.out.trans (hk7.below.mono (by omega)))
        clear hm7 hk7
        go_wp2
        go_ret
        exact ⟨ret_bool (by simp), Z7.out⟩
  · have hj' : bits BinOp.and IntKind.i64 kd 3 = 2 := hj
    have hV : ∀ W : World, Below w.heap.size w W → Calls Tryz.prog 9 #[.agg #[.int .i64 kd, .string tx, .bool n, .string s, .int .i64 (k : Int), .slice A L c, .int .i64 sec, .int .i64 st]] W fun e w' => e = .returned (.agg #[.int .i64 2, .string ⟨#[]⟩, .bool false, .string ⟨#[]⟩, .int .i64 0, .int .i64 0, .int .i64 0, .int .i64 0, .bool false, .bool false, .int .i64 sec, .int .i64 st]) ∧ Below W.heap.size W w' := fun W hW =>
      value2_any kd tx n s (k : Int) L A c sec st W hj'
    have HV := Lib.hid hV
    obtain ⟨T, hLf, hMf⟩ := mom_both lang sec st
    have HLf := Lib.hid hLf
    have HMf := Lib.hid hMf
    clear hV hj hLf hMf
    as_aux_lemma =>
      go_wp2_with fail
      go_at_call 9
      refine (HV.out _ Z2.out).mono ?_
      rintro e w3 ⟨rfl, hb3⟩
      have Z3 := Lib.hid (below_new (below_then Z2.out (Nat.le_refl _) hb3) (Nat.le_refl _) (.cells #[.int .i64 2, .string ⟨#[]⟩, .bool false, .string ⟨#[]⟩, .int .i64 0, .int .i64 0, .int .i64 0, .int .i64 0, .bool false, .bool false, .int .i64 sec, .int .i64 st] 33))
      have M3 := Lib.hid ((M2.out.later hb3).alloc (.cells #[.int .i64 2, .string ⟨#[]⟩, .bool false, .string ⟨#[]⟩, .int .i64 0, .int .i64 0, .int .i64 0, .int .i64 0, .bool false, .bool false, .int .i64 sec, .int .i64 st] 33))
      have V3 := Lib.hid (BoxAt.new w3 #[.int .i64 2, .string ⟨#[]⟩, .bool false, .string ⟨#[]⟩, .int .i64 0, .int .i64 0, .int .i64 0, .int .i64 0, .bool false, .bool false, .int .i64 sec, .int .i64 st] 33)
      have zw3 : w.heap.size < w3.heap.size := (M2.out.later hb3).lt
      clear hb3 M2 zm m0 m1 m2 m3 m4 m5 m6 m7
      have mk := marks_new (w3.alloc (.cells #[.int .i64 2, .string ⟨#[]⟩, .bool false, .string ⟨#[]⟩, .int .i64 0, .int .i64 0, .int .i64 0, .int .i64 0, .bool false, .bool false, .int .i64 sec, .int .i64 st] 33))
      rw [show (w3.alloc (.cells #[.int .i64 2, .string ⟨#[]⟩, .bool false, .string ⟨#[]⟩, .int .i64 0, .int .i64 0, .int .i64 0, .int .i64 0, .bool false, .bool false, .int .i64 sec, .int .i64 st] 33)).heap.size = w3.heap.size + 1 by simp] at mk
      have K4 := Lib.hid mk
      clear mk
      have Z4 := Lib.hid (below_new Z3.out (Nat.le_refl _) (.cells #[.int .u32 0, .int .i32 0, .int .u32 0, .map none, .int .i64 0] 53))
      have M4 := Lib.hid (M3.out.alloc (.cells #[.int .u32 0, .int .i32 0, .int .u32 0, .map none, .int .i64 0] 53))
      have V4 := Lib.hid (V3.out.alloc (.cells #[.int .u32 0, .int .i32 0, .int .u32 0, .map none, .int .i64 0] 53))
      have m := M3.out
      have zm := m.lt
      have m0 := m.cell 0
      have m1 := m.cell 1
      have m2 := m.cell 2
      have m3 := m.cell 3
      have m4 := m.cell 4
      have m5 := m.cell 5
      have m6 := m.cell 6
      have m7 := m.cell 7
      simp only [List.getElem?_toArray, List.getElem?_cons_zero, List.getElem?_cons_succ] at m0 m1 m2 m3 m4 m5 m6 m7
      clear m
      have y := V3.out
      clear Z3 M3
      clear y
      go_wp2_with fail
      go_at_call 12
      refine (HLf.out _ (Ht.out.below Z4.out)).mono ?_
      rintro e w5 ⟨rfl, hb5⟩
      have Z5 := Lib.hid (below_then Z4.out (Nat.le_refl _) hb5)
      have y := V4.out.later hb5
      clear hb5 m0 m1 m2 m3 m4 m5 m6 m7 zm
      have zy := y.lt
      have y0 := y.cell 0
      have y1 := y.cell 1
      have y2 := y.cell 2
      have y3 := y.cell 3
      have y4 := y.cell 4
      have y5 := y.cell 5
      have y6 := y.cell 6
      have y7 := y.cell 7
      have y8 := y.cell 8
      have y9 := y.cell 9
      have y10 := y.cell 10
      have y11 := y.cell 11
      simp only [List.getElem?_toArray, List.getElem?_cons_zero, List.getElem?_cons_succ] at y0 y1 y2 y3 y4 y5 y6 y7 y8 y9 y10 y11
      clear y
      go_wp2_with fail
      go_at_call 14
      refine (stringM_any (w3.heap.size + 1) sec st lang T _ (Ht.out.below Z5.out) HMf.out).mono ?_
      rintro e w6 ⟨rfl, hb6⟩
      go_wp2
      go_ret
      exact ⟨ret_bool (by simp), below_then Z5.out (Nat.le_refl _) hb6⟩
  · have hj' : bits BinOp.and IntKind.i64 kd 3 = 3 := hj
    have h60 := H60.out
    have hRf := fun W => ref_val tx W (by omega)
    cases hp : parseL tx.data.toList with
    | none =>
      rw [hp] at hRf
      have hV : ∀ W : World, Below w.heap.size w W → Calls Tryz.prog 9 #[.agg #[.int .i64 kd, .string tx, .bool n, .string s, .int .i64 (k : Int), .slice A L c, .int .i64 sec, .int .i64 st]] W fun e w' => e = .returned (.agg #[.int .i64 0, .string tx, .bool false, .string ⟨#[]⟩, .int .i64 0, .int .i64 0, .int .i64 0, .int .i64 0, .bool false, .bool false, .int .i64 0, .int .i64 0]) ∧ Below W.heap.size W w' := fun W hW =>
        value3_any kd tx n s (k : Int) L A c sec st _ _ _ _ _ _ _ _ _ _ _ _ W (shp_below Hsh.out hW) hj' (fun W hW => written_no tx W hW (parseNo hp (by omega))) ⟨_, rfl⟩ ⟨_, rfl⟩ ⟨_, rfl⟩ ⟨_, rfl⟩ ⟨_, rfl⟩ ⟨_, rfl⟩ ⟨_, rfl⟩ ⟨_, rfl⟩ ⟨_, rfl⟩ ⟨_, rfl⟩ ⟨_, rfl⟩ ⟨_, rfl⟩
      have hRf2 : ∀ W : World, Calls Tryz.prog 13 #[.string tx] W fun e w' => e = .returned (.tuple #[.agg #[.bool false, .string ⟨#[]⟩, .int .i64 0], .bool false]) ∧ Below W.heap.size W w' := hRf
      have HV := Lib.hid hV
      have HRf := Lib.hid hRf2
      clear hV hj hRf hRf2 hp h60
      as_aux_lemma =>
        go_wp2_with fail
        go_at_call 9
        refine (HV.out _ Z2.out).mono ?_
        rintro e w3 ⟨rfl, hb3⟩
        have Z3 := Lib.hid (below_new (below_then Z2.out (Nat.le_refl _) hb3) (Nat.le_refl _) (.cells #[.int .i64 0, .string tx, .bool false, .string ⟨#[]⟩, .int .i64 0, .int .i64 0, .int .i64 0, .int .i64 0, .bool false, .bool false, .int .i64 0, .int .i64 0] 33))
        have M3 := Lib.hid ((M2.out.later hb3).alloc (.cells #[.int .i64 0, .string tx, .bool false, .string ⟨#[]⟩, .int .i64 0, .int .i64 0, .int .i64 0, .int .i64 0, .bool false, .bool false, .int .i64 0, .int .i64 0] 33))
        have V3 := Lib.hid (BoxAt.new w3 #[.int .i64 0, .string tx, .bool false, .string ⟨#[]⟩, .int .i64 0, .int .i64 0, .int .i64 0, .int .i64 0, .bool false, .bool false, .int .i64 0, .int .i64 0] 33)
        have zw3 : w.heap.size < w3.heap.size := (M2.out.later hb3).lt
        clear hb3 M2 zm m0 m1 m2 m3 m4 m5 m6 m7
        have mk := marks_new (w3.alloc (.cells #[.int .i64 0, .string tx, .bool false, .string ⟨#[]⟩, .int .i64 0, .int .i64 0, .int .i64 0, .int .i64 0, .bool false, .bool false, .int .i64 0, .int .i64 0] 33))
        rw [show (w3.alloc (.cells #[.int .i64 0, .string tx, .bool false, .string ⟨#[]⟩, .int .i64 0, .int .i64 0, .int .i64 0, .int .i64 0, .bool false, .bool false, .int .i64 0, .int .i64 0] 33)).heap.size = w3.heap.size + 1 by simp] at mk
        have K4 := Lib.hid mk
        clear mk
        have Z4 := Lib.hid (below_new Z3.out (Nat.le_refl _) (.cells #[.int .u32 0, .int .i32 0, .int .u32 0, .map none, .int .i64 0] 53))
        have M4 := Lib.hid (M3.out.alloc (.cells #[.int .u32 0, .int .i32 0, .int .u32 0, .map none, .int .i64 0] 53))
        have V4 := Lib.hid (V3.out.alloc (.cells #[.int .u32 0, .int .i32 0, .int .u32 0, .map none, .int .i64 0] 53))
        have m := M3.out
        have zm := m.lt
        have m0 := m.cell 0
        have m1 := m.cell 1
        have m2 := m.cell 2
        have m3 := m.cell 3
        have m4 := m.cell 4
        have m5 := m.cell 5
        have m6 := m.cell 6
        have m7 := m.cell 7
        simp only [List.getElem?_toArray, List.getElem?_cons_zero, List.getElem?_cons_succ] at m0 m1 m2 m3 m4 m5 m6 m7
        clear m
        have y := V3.out
        clear Z3 M3
        clear y
        go_wp2_with fail
        go_at_call 13
        refine (HRf.out _).mono ?_
        rintro e w5 ⟨rfl, hb5⟩
        have Z5 := Lib.hid (below_then Z4.out (Nat.le_refl _) hb5)
        have y := V4.out.later hb5
        clear hb5 m0 m1 m2 m3 m4 m5 m6 m7 zm
        have zy := y.lt
        have y0 := y.cell 0
        have y1 := y.cell 1
        have y2 := y.cell 2
        have y3 := y.cell 3
        have y4 := y.cell 4
        have y5 := y.cell 5
        have y6 := y.cell 6
        have y7 := y.cell 7
        have y8 := y.cell 8
        have y9 := y.cell 9
        have y10 := y.cell 10
        have y11 := y.cell 11
        simp only [List.getElem?_toArray, List.getElem?_cons_zero, List.getElem?_cons_succ] at y0 y1 y2 y3 y4 y5 y6 y7 y8 y9 y10 y11
        clear y
        go_wp2_with fail
        go_at_call 14
        refine (stringT_any (w3.heap.size + 1) tx lang _).mono ?_
        rintro e w6 ⟨rfl, hb6⟩
        go_wp2
        go_ret
        exact ⟨ret_bool (by simp), below_then (below_new Z5.out (Nat.le_refl _) _) (Nat.le_refl _) hb6⟩
    | some x =>
      obtain ⟨n3, d3, k3⟩ := x
      rw [hp] at hRf
      have hT3 := told_parse hp
      obtain ⟨s3, hs3⟩ : ∃ s3, (⟨d3.toArray⟩ : ByteArray) = s3 := ⟨_, rfl⟩
      have hd3 : s3.data.toList = d3 := by rw [← hs3]
      have hPY := parseYes hp (by omega : tx.size < 4294967281)
      have hRf2 : ∀ W : World, Calls Tryz.prog 13 #[.string tx] W fun e w' => e = .returned (.tuple #[.agg #[.bool n3, .string ⟨d3.toArray⟩, .int .i64 (k3 : Int)], .bool true]) ∧ Below W.heap.size W w' := hRf
      rw [hs3] at hPY hRf2
      rw [← hd3] at hT3
      have hlt := hT3.lt
      have hle := hT3.le
      rw [size_data] at hlt hle
      obtain ⟨mf3, hmf3⟩ : ∃ q, min (k3 : Int) 20 = q := ⟨_, rfl⟩
      obtain ⟨xf3, hxf3⟩ : ∃ q, max 3 mf3 = q := ⟨_, rfl⟩
      have hxf4 : max mf3 3 = xf3 := by omega
      have hV : ∀ W : World, Below w.heap.size w W → Calls Tryz.prog 9 #[.agg #[.int .i64 kd, .string tx, .bool n, .string s, .int .i64 (k : Int), .slice A L c, .int .i64 sec, .int .i64 st]] W fun e w' => e = .returned (.agg #[.int .i64 1, .string ⟨#[]⟩, .bool n3, .string s3, .int .i64 (k3 : Int), .int .i64 1, .int .i64 mf3, .int .i64 xf3, .bool false, .bool false, .int .i64 0, .int .i64 0]) ∧ Below W.heap.size W w' := fun W hW =>
        value3_any kd tx n s (k : Int) L A c sec st _ _ _ _ _ _ _ _ _ _ _ _ W (shp_below Hsh.out hW) hj' (fun W hW => written_yes tx s3 n3 k3 mf3 xf3 W hW hPY hmf3 hxf3) ⟨_, rfl⟩ ⟨_, rfl⟩ ⟨_, rfl⟩ ⟨_, rfl⟩ ⟨_, rfl⟩ ⟨_, rfl⟩ ⟨_, rfl⟩ ⟨_, rfl⟩ ⟨_, rfl⟩ ⟨_, rfl⟩ ⟨_, rfl⟩ ⟨_, rfl⟩
      have hFm : ∃ T, ∀ b, FmtAt b lang (.agg #[.bool n3, .string s3, .int .i64 (k3 : Int)]) (.agg #[.int .i64 1, .int .i64 mf3, .int .i64 xf3, .bool false, .bool false]) T := by
        refine ⟨bL (fmtL n3 false (rndL s3.data.toList k3 mf3.toNat xf3.toNat) (rndK s3.data.toList k3 mf3.toNat xf3.toNat) 1 (sgn lang).1 (sgn lang).2), fun b => ?_⟩
        have h := fmtAt_of b lang 1 mf3.toNat xf3.toNat false false n3 s3 k3 (by omega) (by omega) hT3.digs (by omega) (by omega) (by omega)
        rw [show ((mf3.toNat : Nat) : Int) = mf3 by omega, show ((xf3.toNat : Nat) : Int) = xf3 by omega] at h
        exact h
      obtain ⟨T, hFm⟩ := hFm
      have HV := Lib.hid hV
      have HRf := Lib.hid hRf2
      have HFm := Lib.hid hFm
      clear hV hj hRf hRf2 hp h60 hPY hT3 hs3 hd3 hFm hxf3
      as_aux_lemma =>
        go_wp2_with fail
        go_at_call 9
        refine (HV.out _ Z2.out).mono ?_
        rintro e w3 ⟨rfl, hb3⟩
        have Z3 := Lib.hid (below_new (below_then Z2.out (Nat.le_refl _) hb3) (Nat.le_refl _) (.cells #[.int .i64 1, .string ⟨#[]⟩, .bool n3, .string s3, .int .i64 (k3 : Int), .int .i64 1, .int .i64 mf3, .int .i64 xf3, .bool false, .bool false, .int .i64 0, .int .i64 0] 33))
        have M3 := Lib.hid ((M2.out.later hb3).alloc (.cells #[.int .i64 1, .string ⟨#[]⟩, .bool n3, .string s3, .int .i64 (k3 : Int), .int .i64 1, .int .i64 mf3, .int .i64 xf3, .bool false, .bool false, .int .i64 0, .int .i64 0] 33))
        have V3 := Lib.hid (BoxAt.new w3 #[.int .i64 1, .string ⟨#[]⟩, .bool n3, .string s3, .int .i64 (k3 : Int), .int .i64 1, .int .i64 mf3, .int .i64 xf3, .bool false, .bool false, .int .i64 0, .int .i64 0] 33)
        have zw3 : w.heap.size < w3.heap.size := (M2.out.later hb3).lt
        clear hb3 M2 zm m0 m1 m2 m3 m4 m5 m6 m7
        have mk := marks_new (w3.alloc (.cells #[.int .i64 1, .string ⟨#[]⟩, .bool n3, .string s3, .int .i64 (k3 : Int), .int .i64 1, .int .i64 mf3, .int .i64 xf3, .bool false, .bool false, .int .i64 0, .int .i64 0] 33))
        rw [show (w3.alloc (.cells #[.int .i64 1, .string ⟨#[]⟩, .bool n3, .string s3, .int .i64 (k3 : Int), .int .i64 1, .int .i64 mf3, .int .i64 xf3, .bool false, .bool false, .int .i64 0, .int .i64 0] 33)).heap.size = w3.heap.size + 1 by simp] at mk
        have K4 := Lib.hid mk
        clear mk
        have Z4 := Lib.hid (below_new Z3.out (Nat.le_refl _) (.cells #[.int .u32 0, .int .i32 0, .int .u32 0, .map none, .int .i64 0] 53))
        have M4 := Lib.hid (M3.out.alloc (.cells #[.int .u32 0, .int .i32 0, .int .u32 0, .map none, .int .i64 0] 53))
        have V4 := Lib.hid (V3.out.alloc (.cells #[.int .u32 0, .int .i32 0, .int .u32 0, .map none, .int .i64 0] 53))
        have m := M3.out
        have zm := m.lt
        have m0 := m.cell 0
        have m1 := m.cell 1
        have m2 := m.cell 2
        have m3 := m.cell 3
        have m4 := m.cell 4
        have m5 := m.cell 5
        have m6 := m.cell 6
        have m7 := m.cell 7
        simp only [List.getElem?_toArray, List.getElem?_cons_zero, List.getElem?_cons_succ] at m0 m1 m2 m3 m4 m5 m6 m7
        clear m
        have y := V3.out
        clear Z3 M3
        clear y
        go_wp2_with fail
        go_at_call 13
        refine (HRf.out _).mono ?_
        rintro e w5 ⟨rfl, hb5⟩
        have Z5 := Lib.hid (below_new (below_then Z4.out (Nat.le_refl _) hb5) (Nat.le_refl _) (.cells #[.bool n3, .string s3, .int .i64 (k3 : Int)] 23))
        have V5 := Lib.hid ((V4.out.later hb5).alloc (.cells #[.bool n3, .string s3, .int .i64 (k3 : Int)] 23))
        have K5 := Lib.hid ((K4.out.later hb5).later ((Below.refl _ _).alloc (Nat.le_refl _) (.cells #[.bool n3, .string s3, .int .i64 (k3 : Int)] 23)))
        have D5 := Lib.hid (BoxAt.new w5 #[.bool n3, .string s3, .int .i64 (k3 : Int)] 23)
        have zk5 : w3.heap.size + 1 < w5.heap.size := (K4.out.later hb5).lt
        clear hb5 m0 m1 m2 m3 m4 m5 m6 m7 zm
        go_wp2_with fail
        go_at_call 10
        refine ((HFm.out (w3.heap.size + 1)) _ false 0 K5.out (by omega)).mono ?_
        rintro e w6 ⟨rfl, hm6, hk6⟩
        have y := V5.out.kp hk6 (by omega)
        have d := D5.out.kp hk6 (by omega)
        have Z6 := Lib.hid (Z5.out.trans (hk6.below.mono (by omega)))
        have K6 := Lib.hid hm6
        clear hm6 hk6
        have zy := y.lt
        have zd := d.lt
        have y0 := y.cell 0
        have y1 := y.cell 1
        have y2 := y.cell 2
        have y3 := y.cell 3
        have y4 := y.cell 4
        have y5 := y.cell 5
        have y6 := y.cell 6
        have y7 := y.cell 7
        have y8 := y.cell 8
        have y9 := y.cell 9
        have y10 := y.cell 10
        have y11 := y.cell 11
        simp only [List.getElem?_toArray, List.getElem?_cons_zero, List.getElem?_cons_succ] at y0 y1 y2 y3 y4 y5 y6 y7 y8 y9 y10 y11
        have d0 := d.cell 0
        have d1 := d.cell 1
        have d2 := d.cell 2
        simp only [List.getElem?_toArray, List.getElem?_cons_zero, List.getElem?_cons_succ] at d0 d1 d2
        clear y d
        have nS : (s3.toList == s3.toList) = true := by simp
        go_wp2_with fail
        go_at_call 14
        refine (stringN_any (w3.heap.size + 1) true 1 n3 s3 (k3 : Int) 1 mf3 xf3 false false lang T _ K6.out (by omega) (HFm.out _)).mono ?_
        rintro e w7 ⟨rfl, hm7, hk7⟩
        have Z7 := Lib.hid (Z6.out.trans (hk7.below.mono (by omega)))
        clear hm7 hk7
        go_wp2
        go_ret
        exact ⟨ret_bool (by simp), Z7.out⟩
end Go.Proofs.YtglennfjeacpoaaGreatDoor
