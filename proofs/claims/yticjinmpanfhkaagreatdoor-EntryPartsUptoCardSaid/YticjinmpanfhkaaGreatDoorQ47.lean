/-
  Several texts put together (part 47): what the law and the program call, walked; their contracts.
-/
import Derived.Test.YticjinmpanfhkaaGreatDoorQ46
/-
  EntryParts, given that each entry that is read and is no junk may be (written by bin/gen_parts.py).
-/
namespace Go.Proofs.YticjinmpanfhkaaGreatDoor
open Go.RowKit
set_option linter.unusedVariables false
set_option linter.unusedSimpArgs false

set_option maxHeartbeats 64000000 in
set_option maxRecDepth 1000000 in
theorem lawEParts (s : ByteArray) (w : World) (hT : TabU w) (hs : s.size ≤ 2000000) (hR : textOk s = true → AllOk s) : Calls Tryz.prog 5 #[.string s] w fun e w' => e = .returned (.bool true) ∧ Below w.heap.size w w' := by
  have H9 := Lib.hid (head09_any w)
  have hTx := fun W (h : Below w.heap.size w W) => text_any s W (hT.below h) (by omega)
  obtain ⟨k, hk⟩ : ∃ k, textOk s = k := ⟨_, rfl⟩
  rw [hk] at hTx
  have HTx := Lib.hid hTx
  have HK := Lib.hid hk
  have HT := Lib.hid hT
  have HR := Lib.hid (fun e => hR (hk.trans e))
  clear hTx hk hT hR
  go_enter Tryz.func5, Tryz.ntmps5
  go_wp2_with fail
  go_at_call 14
  refine (H9.out).mono ?_
  rintro e w1 ⟨rfl, b1⟩
  have B1 := Lib.hid b1
  clear b1
  go_wp2_with fail
  go_at_call 9
  refine (HTx.out _ B1.out).mono ?_
  rintro e w2 ⟨rfl, b2⟩
  have B2 := Lib.hid (B1.out.trans (b2.mono B1.out.size))
  clear b2 B1
  cases k
  case false =>
    go_wp2
    go_ret
    exact ⟨rfl, B2.out⟩
  have h400 : s.size ≤ 400 := by
    have := HK.out
    unfold textOk at this
    rw [Bool.and_eq_true, decide_eq_true_iff] at this
    exact this.2
  have hss : (s.size : Int) ≤ 400 := by omega
  have hPa := fun W => parse_call (pat_calls (s := s) (by omega)) (by omega) W
  have hCh := parse_chain s
  have hAll := HR.out rfl
  have hTe := texts_ok s
  unfold AllOk at hAll
  obtain ⟨l, hl⟩ : ∃ l, parseS s = l := ⟨_, rfl⟩
  rw [hl] at hPa hCh hAll hTe
  have hln := chain_len (Nat.zero_le _) hCh
  have hl0 : (l.length : Int) ≤ 400 := by omega
  have HPa := Lib.hid hPa
  have HCh := Lib.hid hCh
  have HAll := Lib.hid hAll
  have HTe := Lib.hid hTe
  clear hPa hCh hAll hTe hl
  go_wp2_with fail
  go_at_call 15
  refine (HPa.out _).mono ?_
  rintro e w3 ⟨hb3, A, c, rfl, hlist⟩
  have HB3 := Lib.hid (B2.out.trans (hb3.mono B2.out.size))
  have HLi := Lib.hid hlist
  have HT3 := Lib.hid (HT.out.below HB3.out)
  clear hb3 hlist
  go_wp2
  go_loopw [4, 21] (fun t4 t21 wr => ∃ i a : Nat, t4 = .int .i64 a ∧ t21 = .int .i64 i ∧ i ≤ l.length ∧ a ≤ s.size ∧ Hid (Chain s a (l.drop i)) ∧ Hid (Below w3.heap.size w3 wr)) (fun _ t21 _ => l.length - (intOf t21).toNat)
  case atStart => exact ⟨0, 0, rfl, rfl, Nat.zero_le _, Nat.zero_le _, HCh, Below.refl _ _⟩
  case round =>
    obtain ⟨i, a, rfl, rfl, hi, ha, HC, HBel⟩ := hrel
    have hi0 : (i : Int) ≤ 400 := by omega
    have ha0 : (a : Int) ≤ 400 := by omega
    have hs3 := HBel.out.size
    by_cases hlt : i < l.length
    · have d1 : decide ((i : Int) < (l.length : Int)) = true := decide_eq_true (by omega)
      have d2 : (i : Int) < (l.length : Int) := by omega
      obtain ⟨b, o, rfl, hns⟩ := list_at HLi.out (by omega)
      have hli : l[i]? = some l[i] := List.getElem?_eq_getElem hlt
      have hmem : l[i] ∈ l := List.getElem_mem hlt
      have hdr : l.drop i = l[i] :: l.drop (i + 1) := List.drop_eq_getElem_cons hlt
      obtain ⟨x, hx⟩ : ∃ x, l[i] = x := ⟨_, rfl⟩
      rw [hx] at hli hmem hdr
      have hch := HC.out
      rw [hdr] at hch
      obtain ⟨hFb, A0, c0, B0, d0, p0, p1, p2, p3, p4, p5, p6, p7, hpt, hat⟩ := hns.get i hli
      obtain ⟨hok, hnm, htx, hsz⟩ := HAll.out x hmem
      have hRi := fun (h : x.ty ≠ 3) W (hW : Below w3.heap.size w3 W) => lright_any HT3.out x.ty x.lv x.tx x.nm x.val x.ats (.slice A0 x.val.length c0) (.slice B0 x.ats.length d0) x.fr x.tu (PatF.at_ (fun z hz => hz.2) hpt) (AtsF.at_ (fun z hz => hz.2) hat) hnm htx hsz W hW
      unfold entV at hRi
      have hRi2 := fun (h : x.ty ≠ 3) W hW => by have := hRi h W hW; rw [hok h] at this; exact this
      have hjl := fun (h : x.ty = 3) (h4 : x.fr < s.size) (h5 : readS s x.fr = x) (h6 : x.fr < x.tu ∧ x.tu ≤ s.size) => junk_lines h4 h5 h6 h
      have hjf := fun (h : x.ty = 3) (h4 : x.fr < s.size) (h5 : readS s x.fr = x) => (by have := junk_facts h4 (by rw [h5]; exact h); rw [h5] at this; exact this : x.tx = s.extract x.fr x.tu ∧ (x.tu < s.size → mayB s x.tu = true) ∧ _)
      have hbl : b < wr.heap.size := Nat.lt_of_lt_of_le hFb.2 hs3
      have e0 := cell_below HBel.out p0
      have e1 := cell_below HBel.out p1
      have e2 := cell_below HBel.out p2
      have e3 := cell_below HBel.out p3
      have e4 := cell_below HBel.out p4
      have e5 := cell_below HBel.out p5
      have e6 := cell_below HBel.out p6
      have e7 := cell_below HBel.out p7
      cases hch with
      | cons h1 h2 h3 h4 h5 h6 h7 =>
      have hj1 := fun h => hjl h h4 h5 ⟨h6.1, h6.2.1⟩
      have hj2 := fun h => hjf h h4 h5
      have hba := bareB_of (s := s) (Nat.le_of_lt h4) h2
      have hbc := fun W => bare_any (s.extract a x.fr) W (by rw [ByteArray.size_extract]; omega)
      rw [hba] at hbc
      obtain ⟨fr, hfr⟩ : ∃ f, x.fr = f := ⟨_, rfl⟩
      obtain ⟨tu, htu⟩ : ∃ t, x.tu = t := ⟨_, rfl⟩
      rw [hfr] at h1 h3 h4 h6 e6 hRi2 hbc hj2
      rw [htu] at h6 h7 e7 hRi2 hj2
      obtain ⟨h61, h62, h63⟩ := h6
      have HRi := Lib.hid hRi2
      have HJ1 := Lib.hid hj1
      have HJ2 := Lib.hid hj2
      have HBc := Lib.hid hbc
      have HCn := Lib.hid h7
      have H3 := Lib.hid h3
      have H63 := Lib.hid h63
      have hf0 : (fr : Int) ≤ 400 := by omega
      have ht0 : (tu : Int) ≤ 400 := by omega
      have k1 : decide ((fr : Int) < (a : Int)) = false := decide_eq_false (by omega)
      have k2 : decide ((tu : Int) ≤ (fr : Int)) = false := decide_eq_false (by omega)
      have k3 : decide ((s.size : Int) < (tu : Int)) = false := decide_eq_false (by omega)
      have k4 : (a : Int) ≤ (fr : Int) := by omega
      have k5 : (fr : Int) ≤ (s.size : Int) := by omega
      have k6 : (tu : Int) ≤ (s.size : Int) := by omega
      have k7 : (0 : Int) ≤ (a : Int) := by omega
      have k8 : (fr : Int) ≤ (tu : Int) := by omega
      have k9 : fr ≤ tu := by omega
      have k10 : (0 : Int) ≤ (fr : Int) := by omega
      clear hRi hRi2 hjl hjf hj1 hj2 hba hbc hns hli hmem hdr hpt hat hok hnm htx hsz p0 p1 p2 p3 p4 p5 p6 p7 h2 h3 h5 h63 h7 hx hfr htu HC
      by_cases hty : x.ty = 3
      case neg =>
        as_aux_lemma =>
          have d3 : (x.ty != 3) = true := bne_iff_ne.2 hty
          have Hty := Lib.hid hty
          clear hty
          go_upto_region 10 with fail
          go_cut [79] (fun v wx => v = .bool false ∧ wx = wr.alloc (.cells #[.int .i64 x.ty, .int .i64 x.lv, .string x.tx, .string x.nm, .slice A0 x.val.length c0, .slice B0 x.ats.length d0, .int .i64 fr, .int .i64 tu] 45))
          case first =>
            as_aux_lemma =>
              by_cases hf0 : fr = 0
              case pos =>
                have f1 : decide ((0 : Int) < (fr : Int)) = false := decide_eq_false (by omega)
                have f2 : ¬ (0 : Int) < (fr : Int) := by omega
                clear hf0
                by_cases hts : tu < s.size
                case neg =>
                  as_aux_lemma =>
                    have g1 : decide ((tu : Int) < (s.size : Int)) = false := decide_eq_false (by omega)
                    have g2 : ¬ (tu : Int) < (s.size : Int) := by omega
                    go_wp2_with fail
                    go_at_call 18
                    refine (HBc.out _).mono ?_
                    rintro e w4 ⟨rfl, rfl⟩
                    go_wp2
                    go_meet
                    refine ⟨?_, rfl⟩
                    first | rfl | (congr 1; simp; omega)
                as_aux_lemma =>
                  obtain ⟨q, hq⟩ : ∃ q, tu = q + 1 := ⟨tu - 1, by omega⟩
                  subst hq
                  have hqs : q < s.size := by omega
                  have gb : (s[q]'hqs).toNat = 10 := ls_byte H63.out (Or.inl hts) hqs
                  have g1 : decide ((q : Int) + 1 < (s.size : Int)) = true := decide_eq_true (by omega)
                  have g2 : (q : Int) + 1 < (s.size : Int) := by omega
                  have g3 : (q : Int) < (s.size : Int) := by omega
                  try simp only [Int.natCast_add, Int.natCast_one] at k2
                  try simp only [Int.natCast_add, Int.natCast_one] at k3
                  try simp only [Int.natCast_add, Int.natCast_one] at k6
                  try simp only [Int.natCast_add, Int.natCast_one] at k8
                  try simp only [Int.natCast_add, Int.natCast_one] at e7
                  go_wp2_with fail
                  go_at_call 18
                  refine (HBc.out _).mono ?_
                  rintro e w4 ⟨rfl, rfl⟩
                  go_wp2
                  go_meet
                  refine ⟨?_, rfl⟩
                  first | rfl | (congr 1; simp; omega)
              obtain ⟨j, hj⟩ : ∃ j, fr = j + 1 := ⟨fr - 1, by omega⟩
              subst hj
              have hjs : j < s.size := by omega
              have fb : (s[j]'hjs).toNat = 10 := ls_byte H3.out (Or.inl h4) hjs
              have f1 : decide ((0 : Int) < (j : Int) + 1) = true := decide_eq_true (by omega)
              have f2 : (0 : Int) < (j : Int) + 1 := by omega
              have f3 : (j : Int) < (s.size : Int) := by omega
              try simp only [Int.natCast_add, Int.natCast_one] at k1
              try simp only [Int.natCast_add, Int.natCast_one] at k2
              try simp only [Int.natCast_add, Int.natCast_one] at k4
              try simp only [Int.natCast_add, Int.natCast_one] at k5
              try simp only [Int.natCast_add, Int.natCast_one] at k8
              try simp only [Int.natCast_add, Int.natCast_one] at k10
              try simp only [Int.natCast_add, Int.natCast_one] at e6
              by_cases hts : tu < s.size
              case neg =>
                as_aux_lemma =>
                  have g1 : decide ((tu : Int) < (s.size : Int)) = false := decide_eq_false (by omega)
                  have g2 : ¬ (tu : Int) < (s.size : Int) := by omega
                  go_wp2_with fail
                  go_at_call 18
                  refine (HBc.out _).mono ?_
                  rintro e w4 ⟨rfl, rfl⟩
                  go_wp2
                  go_meet
                  refine ⟨?_, rfl⟩
                  first | rfl | (congr 1; simp; omega)
              as_aux_lemma =>
                obtain ⟨q, hq⟩ : ∃ q, tu = q + 1 := ⟨tu - 1, by omega⟩
                subst hq
                have hqs : q < s.size := by omega
                have gb : (s[q]'hqs).toNat = 10 := ls_byte H63.out (Or.inl hts) hqs
                have g1 : decide ((q : Int) + 1 < (s.size : Int)) = true := decide_eq_true (by omega)
                have g2 : (q : Int) + 1 < (s.size : Int) := by omega
                have g3 : (q : Int) < (s.size : Int) := by omega
                try simp only [Int.natCast_add, Int.natCast_one] at k2
                try simp only [Int.natCast_add, Int.natCast_one] at k3
                try simp only [Int.natCast_add, Int.natCast_one] at k6
                try simp only [Int.natCast_add, Int.natCast_one] at k8
                try simp only [Int.natCast_add, Int.natCast_one] at e7
                go_wp2_with fail
                go_at_call 18
                refine (HBc.out _).mono ?_
                rintro e w4 ⟨rfl, rfl⟩
                go_wp2
                go_meet
                refine ⟨?_, rfl⟩
                first | rfl | (congr 1; simp; omega)
          obtain ⟨rfl, rfl⟩ := hcut
          go_wp2_with fail
          go_at_call 19
          refine (HRi.out Hty.out _ (HBel.out.alloc hs3 _)).mono ?_
          rintro e w5 ⟨rfl, hb5⟩
          have HB5 := Lib.hid ((HBel.out.alloc hs3 _).trans (hb5.mono (by rw [World.size_alloc]; omega)))
          clear hb5
          go_wp2
          go_roundw
          case rel => exact ⟨i + 1, tu, by go_num, by go_num, hlt, h62, HCn, HB5⟩
          case measure => simp [intOf]; omega
      as_aux_lemma =>
        obtain ⟨ht1, ht2, _⟩ := HJ2.out hty
        have d3 : (x.ty != 3) = false := by rw [hty]; rfl
        have hz : x.tx.size ≤ 400 := by rw [ht1, ByteArray.size_extract]; omega
        have hsl := split_len x.tx x.tx.size [] 0 0 (by omega)
        obtain ⟨Ls, hLs⟩ : ∃ L, splitS x.tx = L := ⟨_, rfl⟩
        have hsl2 : Ls.length ≤ 401 := by rw [← hLs]; unfold splitS; rw [List.length_nil] at hsl; omega
        have hjl := HJ1.out hty
        have hsp := fun W => split_any x.tx W (by omega)
        rw [hLs] at hjl hsp
        rw [ht1] at hsp e2
        have HJl := Lib.hid hjl
        have HSp := Lib.hid hsp
        have hLs0 : (Ls.length : Int) ≤ 401 := by omega
        clear hsl hjl hsp hLs
        have Ht2 := Lib.hid ht2
        clear ht1 ht2 hty
        go_upto_region 10 with fail
        go_cut [79] (fun v wx => v = .bool false ∧ wx = wr.alloc (.cells #[.int .i64 x.ty, .int .i64 x.lv, .string (s.extract fr tu), .string x.nm, .slice A0 x.val.length c0, .slice B0 x.ats.length d0, .int .i64 fr, .int .i64 tu] 45))
        case first =>
          as_aux_lemma =>
            by_cases hf0 : fr = 0
            case pos =>
              have f1 : decide ((0 : Int) < (fr : Int)) = false := decide_eq_false (by omega)
              have f2 : ¬ (0 : Int) < (fr : Int) := by omega
              clear hf0
              by_cases hts : tu < s.size
              case neg =>
                as_aux_lemma =>
                  have g1 : decide ((tu : Int) < (s.size : Int)) = false := decide_eq_false (by omega)
                  have g2 : ¬ (tu : Int) < (s.size : Int) := by omega
                  go_wp2_with fail
                  go_at_call 18
                  refine (HBc.out _).mono ?_
                  rintro e w4 ⟨rfl, rfl⟩
                  go_wp2
                  go_meet
                  refine ⟨?_, rfl⟩
                  first | rfl | (congr 1; simp; omega)
              as_aux_lemma =>
                obtain ⟨q, hq⟩ : ∃ q, tu = q + 1 := ⟨tu - 1, by omega⟩
                subst hq
                have hqs : q < s.size := by omega
                have gb : (s[q]'hqs).toNat = 10 := ls_byte H63.out (Or.inl hts) hqs
                have g1 : decide ((q : Int) + 1 < (s.size : Int)) = true := decide_eq_true (by omega)
                have g2 : (q : Int) + 1 < (s.size : Int) := by omega
                have g3 : (q : Int) < (s.size : Int) := by omega
                try simp only [Int.natCast_add, Int.natCast_one] at k2
                try simp only [Int.natCast_add, Int.natCast_one] at k3
                try simp only [Int.natCast_add, Int.natCast_one] at k6
                try simp only [Int.natCast_add, Int.natCast_one] at k8
                try simp only [Int.natCast_add, Int.natCast_one] at e7
                go_wp2_with fail
                go_at_call 18
                refine (HBc.out _).mono ?_
                rintro e w4 ⟨rfl, rfl⟩
                go_wp2
                go_meet
                refine ⟨?_, rfl⟩
                first | rfl | (congr 1; simp; omega)
            obtain ⟨j, hj⟩ : ∃ j, fr = j + 1 := ⟨fr - 1, by omega⟩
            subst hj
            have hjs : j < s.size := by omega
            have fb : (s[j]'hjs).toNat = 10 := ls_byte H3.out (Or.inl h4) hjs
            have f1 : decide ((0 : Int) < (j : Int) + 1) = true := decide_eq_true (by omega)
            have f2 : (0 : Int) < (j : Int) + 1 := by omega
            have f3 : (j : Int) < (s.size : Int) := by omega
            try simp only [Int.natCast_add, Int.natCast_one] at k1
            try simp only [Int.natCast_add, Int.natCast_one] at k2
            try simp only [Int.natCast_add, Int.natCast_one] at k4
            try simp only [Int.natCast_add, Int.natCast_one] at k5
            try simp only [Int.natCast_add, Int.natCast_one] at k8
            try simp only [Int.natCast_add, Int.natCast_one] at k10
            try simp only [Int.natCast_add, Int.natCast_one] at e6
            by_cases hts : tu < s.size
            case neg =>
              as_aux_lemma =>
                have g1 : decide ((tu : Int) < (s.size : Int)) = false := decide_eq_false (by omega)
                have g2 : ¬ (tu : Int) < (s.size : Int) := by omega
                go_wp2_with fail
                go_at_call 18
                refine (HBc.out _).mono ?_
                rintro e w4 ⟨rfl, rfl⟩
                go_wp2
                go_meet
                refine ⟨?_, rfl⟩
                first | rfl | (congr 1; simp; omega)
            as_aux_lemma =>
              obtain ⟨q, hq⟩ : ∃ q, tu = q + 1 := ⟨tu - 1, by omega⟩
              subst hq
              have hqs : q < s.size := by omega
              have gb : (s[q]'hqs).toNat = 10 := ls_byte H63.out (Or.inl hts) hqs
              have g1 : decide ((q : Int) + 1 < (s.size : Int)) = true := decide_eq_true (by omega)
              have g2 : (q : Int) + 1 < (s.size : Int) := by omega
              have g3 : (q : Int) < (s.size : Int) := by omega
              try simp only [Int.natCast_add, Int.natCast_one] at k2
              try simp only [Int.natCast_add, Int.natCast_one] at k3
              try simp only [Int.natCast_add, Int.natCast_one] at k6
              try simp only [Int.natCast_add, Int.natCast_one] at k8
              try simp only [Int.natCast_add, Int.natCast_one] at e7
              go_wp2_with fail
              go_at_call 18
              refine (HBc.out _).mono ?_
              rintro e w4 ⟨rfl, rfl⟩
              go_wp2
              go_meet
              refine ⟨?_, rfl⟩
              first | rfl | (congr 1; simp; omega)
        obtain ⟨rfl, rfl⟩ := hcut
        go_upto_region 16 with fail
        go_cut [125] (fun v wx => v = .bool false ∧ wx = World.drew (wr.alloc (.cells #[.int .i64 x.ty, .int .i64 x.lv, .string (s.extract fr tu), .string x.nm, .slice A0 x.val.length c0, .slice B0 x.ats.length d0, .int .i64 fr, .int .i64 tu] 45)))
        case first =>
          as_aux_lemma =>
            by_cases hts : tu < s.size
            case neg =>
              have g1 : decide ((tu : Int) < (s.size : Int)) = false := decide_eq_false (by omega)
              have g2 : ¬ (tu : Int) < (s.size : Int) := by omega
              go_region
              go_wp2_with fail
              go_meet
              exact ⟨rfl, rfl⟩
            have g1 : decide ((tu : Int) < (s.size : Int)) = true := decide_eq_true (by omega)
            have g2 : (tu : Int) < (s.size : Int) := by omega
            have hmb := Ht2.out hts
            rw [mayB_first hts] at hmb
            obtain ⟨cm, hcm⟩ : ∃ n, (s[tu]'hts).toNat = n := ⟨_, rfl⟩
            have hat : at0 s.data.toList tu = s[tu]'hts := at0_get _ _ (by rw [size_data]; exact hts)
            rw [hat] at hmb
            have hlet := fun W => letter9_any (s[tu]'hts) W
            rw [hcm] at hlet
            have HLet := Lib.hid hlet
            have Hmb := Lib.hid hmb
            have Hcm := Lib.hid hcm
            clear hmb hat hlet
            by_cases c35 : cm = 35
            · have r1 : ((cm : Int) != 35) = false := by rw [bne_eq_false_iff_eq]; omega
              clear c35
              go_region
              go_wp2_with fail
              go_meet
              exact ⟨rfl, rfl⟩
            have r1 : ((cm : Int) != 35) = true := by rw [bne_iff_ne]; omega
            by_cases c45 : cm = 45
            · have r2 : ((cm : Int) != 45) = false := by rw [bne_eq_false_iff_eq]; omega
              clear c35 c45
              go_region
              go_wp2_with fail
              go_meet
              exact ⟨rfl, rfl⟩
            have r2 : ((cm : Int) != 45) = true := by rw [bne_iff_ne]; omega
            have hle : leB (s[tu]'hts) = true := by
              have := Hmb.out
              rw [Bool.or_eq_true, Bool.or_eq_true, beq_iff_eq, beq_iff_eq] at this
              rcases this with (h | h) | h
              · exact absurd (by rw [← Hcm.out, h]; rfl) c35
              · exact absurd (by rw [← Hcm.out, h]; rfl) c45
              · exact h
            have hlet := HLet.out
            rw [hle] at hlet
            have HLet2 := Lib.hid hlet
            have hS0 : (World.drew (wr.alloc (.cells #[.int .i64 x.ty, .int .i64 x.lv, .string (s.extract fr tu), .string x.nm, .slice A0 x.val.length c0, .slice B0 x.ats.length d0, .int .i64 fr, .int .i64 tu] 45))).cell? ⟨wr.heap.size, 2, none⟩ = some (.string (s.extract fr tu)) ∧ (World.drew (wr.alloc (.cells #[.int .i64 x.ty, .int .i64 x.lv, .string (s.extract fr tu), .string x.nm, .slice A0 x.val.length c0, .slice B0 x.ats.length d0, .int .i64 fr, .int .i64 tu] 45))).cell? ⟨wr.heap.size, 6, none⟩ = some (.int .i64 fr) ∧ (World.drew (wr.alloc (.cells #[.int .i64 x.ty, .int .i64 x.lv, .string (s.extract fr tu), .string x.nm, .slice A0 x.val.length c0, .slice B0 x.ats.length d0, .int .i64 fr, .int .i64 tu] 45))).cell? ⟨wr.heap.size, 7, none⟩ = some (.int .i64 tu) := ⟨BoxAt.cell (BoxAt.new wr #[.int .i64 x.ty, .int .i64 x.lv, .string (s.extract fr tu), .string x.nm, .slice A0 x.val.length c0, .slice B0 x.ats.length d0, .int .i64 fr, .int .i64 tu] 45) 2, BoxAt.cell (BoxAt.new wr #[.int .i64 x.ty, .int .i64 x.lv, .string (s.extract fr tu), .string x.nm, .slice A0 x.val.length c0, .slice B0 x.ats.length d0, .int .i64 fr, .int .i64 tu] 45) 6, BoxAt.cell (BoxAt.new wr #[.int .i64 x.ty, .int .i64 x.lv, .string (s.extract fr tu), .string x.nm, .slice A0 x.val.length c0, .slice B0 x.ats.length d0, .int .i64 fr, .int .i64 tu] 45) 7⟩
            have HS0 := Lib.hid hS0
            clear c35 c45 hle hlet HLet Hmb hS0
            go_region_held3 (fun w' => w'.cell? ⟨wr.heap.size, 2, none⟩ = some (.string (s.extract fr tu)) ∧ w'.cell? ⟨wr.heap.size, 6, none⟩ = some (.int .i64 fr) ∧ w'.cell? ⟨wr.heap.size, 7, none⟩ = some (.int .i64 tu))
              (first | (exact HS0.out) | go_keep)
              (first | (go_at_call 20; refine (HLet2.out _).mono ?_; rintro e w6 ⟨rfl, rfl⟩))
            all_goals (go_wp2_with fail)
            go_meet
            exact ⟨rfl, rfl⟩
        obtain ⟨rfl, rfl⟩ := hcut
        go_wp2_with fail
        as_aux_lemma =>
          go_at_call 21
          refine (HSp.out _).mono ?_
          rintro e w5 ⟨hb5, v5, rfl, A5, c5, rfl, hst⟩
          have hwB := (HBel.out.alloc hs3 (.cells #[.int .i64 x.ty, .int .i64 x.lv, .string (s.extract fr tu), .string x.nm, .slice A0 x.val.length c0, .slice B0 x.ats.length d0, .int .i64 fr, .int .i64 tu] 45)).drew
          have HB5 := Lib.hid (hwB.trans (hb5.mono hwB.size))
          have HSt := Lib.hid hst
          clear hb5 hst hwB e0 e1 e2 e3 e4 e5 e6 e7
          go_wp2
          go_loopw [130] (fun t130 wz => ∃ m : Nat, t130 = .int .i64 m ∧ m ≤ Ls.length ∧ Hid (wz = w5)) (fun t130 _ => Ls.length - (intOf t130).toNat)
          case atStart => exact ⟨0, rfl, Nat.zero_le _, Lib.hid rfl⟩
          case round =>
            obtain ⟨m, rfl, hm, HW⟩ := hrel
            have hwz := HW.out
            subst hwz
            have hm0 : (m : Int) ≤ 401 := by omega
            by_cases hml : m < Ls.length
            · have m1 : decide ((m : Int) < (Ls.length : Int)) = true := decide_eq_true (by omega)
              have m2 : (m : Int) < (Ls.length : Int) := by omega
              obtain ⟨b5, o5, rfl, hb5, hc5⟩ := HSt.out (by omega)
              obtain ⟨y, hy⟩ : ∃ y, Ls[m]? = some y := ⟨_, List.getElem?_eq_getElem hml⟩
              have e9 := hc5 m y hy
              obtain ⟨hy0, hyc⟩ := HJl.out m y hy
              by_cases hmz : m = 0
              · subst hmz
                clear hc5 hy hyc
                simp only [Nat.add_zero] at e9
                go_wp2
                go_roundw
                case rel => exact ⟨1, by go_num, by omega, Lib.hid (by first | rfl | trivial)⟩
                case measure => simp [intOf]; omega
              have m3 : decide ((0 : Int) < (m : Int)) = true := decide_eq_true (by omega)
              have m4 : (0 : Int) < (m : Int) := by omega
              obtain ⟨cc, hcc, hcl⟩ := hyc (by omega)
              have hcy : (y[0]'hy0) = cc := by
                have : y.data.toList[0]? = some (y[0]'hy0) := List.getElem?_eq_getElem (by rw [size_data]; exact hy0)
                rw [this] at hcc
                exact Option.some.inj hcc
              rw [Bool.or_eq_false_iff, Bool.or_eq_false_iff] at hcl
              obtain ⟨⟨n1, n2⟩, n3⟩ := hcl
              have hlet := fun W => letter9_any cc W
              rw [n3] at hlet
              rw [beq_eq_false_iff_ne] at n1 n2
              obtain ⟨cn, hcn⟩ : ∃ n, (y[0]'hy0).toNat = n := ⟨_, rfl⟩
              have q1 : ((cn : Int) == 35) = false := beq_eq_false_iff_ne.2 (fun e => n1 (UInt8.toNat_inj.1 (by rw [← hcy, hcn]; show cn = 35; omega)))
              have q2 : ((cn : Int) == 45) = false := beq_eq_false_iff_ne.2 (fun e => n2 (UInt8.toNat_inj.1 (by rw [← hcy, hcn]; show cn = 45; omega)))
              rw [← hcy, hcn] at hlet
              have HLet := Lib.hid hlet
              have hy1 : (0 : Int) < (y.size : Int) := by omega
              clear hc5 hy hyc hcc hcy n1 n2 n3 hlet
              go_wp2_with fail
              go_at_call 20
              refine (HLet.out _).mono ?_
              rintro e w6 ⟨rfl, rfl⟩
              go_wp2
              go_roundw
              case rel => exact ⟨m + 1, by go_num, hml, Lib.hid (by first | rfl | trivial)⟩
              case measure => simp [intOf]; omega
            have m1 : decide ((m : Int) < (Ls.length : Int)) = false := decide_eq_false (by omega)
            have m2 : ¬ (m : Int) < (Ls.length : Int) := by omega
            go_wp2
            go_roundw
            case rel => exact ⟨i + 1, tu, by go_num, by go_num, hlt, h62, HCn, HB5⟩
            case measure => simp [intOf]; omega
    as_aux_lemma =>
      have d1 : decide ((i : Int) < (l.length : Int)) = false := decide_eq_false (by omega)
      have d2 : ¬ (i : Int) < (l.length : Int) := by omega
      have hch : Chain s a [] := by
        have := HC.out
        rw [List.drop_eq_nil_of_le (by omega)] at this
        exact this
      have hbn : bareN s a s.size := by
        cases hch with
        | nil h => exact h
      have hba := bareB_of (Nat.le_refl _) hbn
      have hbc := fun W => bare_any (s.extract a s.size) W (by rw [ByteArray.size_extract]; omega)
      rw [hba] at hbc
      have hbo := fun x hx => chain_mem (Nat.zero_le _) HCh.out x hx
      have hTx := texts_any s l A c HLi.out (fun b hb => hb.2) (by omega) (by omega) (fun x hx => by have := hbo x hx; omega) wr HBel.out
      have hte := HTe.out
      obtain ⟨Ls, hLs⟩ : ∃ L, textsS s l = L := ⟨_, rfl⟩
      rw [hLs] at hTx hte
      obtain ⟨ht1, ht2⟩ := hte
      have hcn := catL_count Ls ht2
      rw [ht1, size_data] at hcn
      have hLs0 : (Ls.length : Int) ≤ 401 := by omega
      have HTxs := Lib.hid hTx
      have HBc := Lib.hid hbc
      have HT1 := Lib.hid ht1
      have HT2 := Lib.hid ht2
      have k4 : (a : Int) ≤ (s.size : Int) := by omega
      have k7 : (0 : Int) ≤ (a : Int) := by omega
      clear hch hbn hba hbc hbo hTx hLs ht1 ht2
      go_wp2_with fail
      go_at_call 22
      refine (HTxs.out).mono ?_
      rintro e w5 ⟨hb5, v5, rfl, A5, c5, rfl, hst⟩
      have HB5 := Lib.hid ((HB3.out.trans (HBel.out.mono HB3.out.size)).trans (hb5.mono (Nat.le_trans HB3.out.size hs3)))
      have HSt := Lib.hid hst
      clear hb5 hst
      go_wp2
      go_loopw [9, 158] (fun t9 t158 wz => ∃ (m : Nat) (X : ByteArray), t9 = .string X ∧ t158 = .int .i64 m ∧ m ≤ Ls.length ∧ X.size ≤ 400 ∧ Hid (X.data.toList = catL (Ls.take m)) ∧ Hid (wz = w5)) (fun _ t158 _ => Ls.length - (intOf t158).toNat)
      case atStart => exact ⟨0, ⟨#[]⟩, rfl, rfl, Nat.zero_le _, by decide, Lib.hid rfl, Lib.hid rfl⟩
      case round =>
        obtain ⟨m, X, rfl, rfl, hm, hX, HX, HW⟩ := hrel
        have hwz := HW.out
        subst hwz
        have hm0 : (m : Int) ≤ 401 := by omega
        by_cases hml : m < Ls.length
        · have m1 : decide ((m : Int) < (Ls.length : Int)) = true := decide_eq_true (by omega)
          have m2 : (m : Int) < (Ls.length : Int) := by omega
          obtain ⟨b5, o5, rfl, hb5, hc5⟩ := HSt.out (by omega)
          obtain ⟨y, hy⟩ : ∃ y, Ls[m]? = some y := ⟨_, List.getElem?_eq_getElem hml⟩
          have e9 := hc5 m y hy
          have hy0 := HT2.out y (List.mem_of_getElem? hy)
          have hye : y.toList.isEmpty = false := by rw [emp_is, decide_eq_false (by omega)]
          have hxy : (X ++ y).data.toList = catL (Ls.take (m + 1)) := by rw [catL_take Ls m y hy, ← HX.out]; simp
          have hxs : (X ++ y).size ≤ 400 := by
            rw [← size_data, hxy]
            have := catL_le Ls (m + 1)
            rw [HT1.out, size_data] at this
            omega
          have hy400 : y.size ≤ 400 := by
            have h := hxs
            rw [ByteArray.size_append] at h
            omega
          have HXy := Lib.hid hxy
          clear hc5 hy hxy hy0
          go_wp2
          go_roundw
          case rel => exact ⟨m + 1, X ++ y, rfl, by go_num, hml, hxs, HXy, Lib.hid (by first | rfl | trivial)⟩
          case measure => simp [intOf]; omega
        have m1 : decide ((m : Int) < (Ls.length : Int)) = false := decide_eq_false (by omega)
        have m2 : ¬ (m : Int) < (Ls.length : Int) := by omega
        have hXs : X = s := bytes_eq (by rw [HX.out, List.take_of_length_le (by omega), HT1.out])
        subst hXs
        go_wp2_with fail
        go_at_call 18
        refine (HBc.out _).mono ?_
        rintro e w6 ⟨rfl, rfl⟩
        go_wp2
        go_ret
        exact ⟨rfl, HB5.out⟩
end Go.Proofs.YticjinmpanfhkaaGreatDoor
