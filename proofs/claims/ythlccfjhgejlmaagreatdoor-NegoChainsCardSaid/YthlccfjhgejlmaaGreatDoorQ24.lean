/-
  Several texts put together (part 24): what the law and the program call, walked; their contracts.
-/
import Derived.Test.YthlccfjhgejlmaaGreatDoorQ23
import Derived.Test.YthlccfjhgejlmaaGreatDoorQ12
import Derived.Test.YthlccfjhgejlmaaGreatDoorQ14
import Derived.Deep.DeepCutAuto
import Derived.Deep.RegionWith
import Derived.Deep.DrawnRows
import Derived.WideMake
import Derived.StringKeys
namespace Go.Proofs.YthlccfjhgejlmaaGreatDoor
open Go.RowKit Go.Shelf Go.Maps
set_option linter.unusedVariables false
set_option linter.unusedSimpArgs false
theorem count_mk (p : List UInt8) (hl : p.length ≤ 100000) (w : World) : Calls Tryz.prog 46 #[.string (mk p)] w fun e w' => e = .returned (.tuple #[.int .i64 (cntL p), .int .i64 (cntD p)]) ∧ w' = w :=
  count_any (mk p) w (by rw [mk_size]; unfold maxLen; omega)
theorem small_mk (p : List UInt8) (hl : p.length ≤ 100000) (w : World) : Calls Tryz.prog 47 #[.string (mk p)] w fun e w' => e = .returned (.string (mk (low p))) ∧ Below w.heap.size w w' :=
  small_any (mk p) w (by rw [mk_size]; exact hl)
theorem big_mk (p : List UInt8) (hl : p.length ≤ 100000) (w : World) : Calls Tryz.prog 48 #[.string (mk p)] w fun e w' => e = .returned (.string (mk (upp p))) ∧ Below w.heap.size w w' :=
  big_any (mk p) w (by rw [mk_size]; exact hl)
theorem smallE (p : List UInt8) (hl : p.length ≤ 100000) (a b : Nat) (w : World) : Calls Tryz.prog 47 #[.string ((mk p).extract a b)] w fun e w' => e = .returned (.string (mk (low ((p.take b).drop a)))) ∧ Below w.heap.size w w' := by
  rw [mk_extract]
  exact small_mk _ (by simp; omega) w
theorem bigE (p : List UInt8) (hl : p.length ≤ 100000) (a b : Nat) (w : World) : Calls Tryz.prog 48 #[.string ((mk p).extract a b)] w fun e w' => e = .returned (.string (mk (upp ((p.take b).drop a)))) ∧ Below w.heap.size w w' := by
  rw [mk_extract]
  exact big_mk _ (by simp; omega) w
structure LAt (w W : World) (P : List (List UInt8)) (bs bm n : Nat) (seen : List (List UInt8)) : Prop where
  below : Below w.heap.size w W
  seen : SeenAt W bm n seen
  bsl : bs < W.heap.size
  bm0 : w.heap.size ≤ bm
  bmb : bs ≠ bm
  parts : ∀ (j : Nat) p, P[j]? = some p → W.cell? ⟨bs, 0 + j, none⟩ = some (.string (mk p))
theorem LAt.later {w W W1 : World} {P : List (List UInt8)} {bs bm n : Nat} {seen : List (List UInt8)} (h : LAt w W P bs bm n seen) (hb : Below W.heap.size W W1) : LAt w W1 P bs bm n seen :=
  ⟨below_then h.below (Nat.le_refl _) hb, h.seen.later hb, Nat.lt_of_lt_of_le h.bsl hb.size, h.bm0, h.bmb, fun j p hp => (hb.cell (p := ⟨bs, 0 + j, none⟩) h.bsl).trans (h.parts j p hp)⟩
theorem LAt.mono {w W : World} {P : List (List UInt8)} {bs bm n m : Nat} {seen : List (List UInt8)} (h : LAt w W P bs bm n seen) (hm : n ≤ m) : LAt w W P bs bm m seen := { h with seen := h.seen.mono hm }
theorem not_map {W : World} {bs bm n : Nat} {seen : List (List UInt8)} (hs : SeenAt W bm n seen) {o : Nat} {v : Value} (hc : W.cell? ⟨bs, o, none⟩ = some v) : bs ≠ bm := by
  rintro rfl
  obtain ⟨D, ⟨es, clock, h1, h2⟩, h3⟩ := hs
  unfold World.cell? at hc
  rw [h1] at hc
  cases hc
def LCut (s : ByteArray) (w : World) (P : List (List UInt8)) (n : Nat) : Prop :=
  Calls Tryz.prog 45 #[.string s] (w.alloc (.map #[] 0)) fun e W' => ∃ bs cap, e = .returned (.slice (some ⟨bs, 0, none⟩) n cap) ∧ LAt w W' P bs w.heap.size 0 []
theorem LCut.of (s : ByteArray) (w : World) (hs : s.size ≤ 100000) (P : List (List UInt8)) (hP : splitH s.data.toList = P) : LCut s w P P.length := by
  have h := split_any s (w.alloc (.map #[] 0)) hs
  rw [hP] at h
  refine h.mono ?_
  rintro e W' ⟨v, rfl, ⟨bs, cap, rfl, h1, h2, h3⟩, hb⟩
  rw [List.length_map] at h3 h1 ⊢
  have hsn : SeenAt W' w.heap.size 0 [] := (SeenAt.made w).later hb
  have hc : ∀ (j : Nat) p, P[j]? = some p → W'.cell? ⟨bs, 0 + j, none⟩ = some (.string (mk p)) := by
    intro j p hp
    obtain ⟨hlt, hq⟩ := List.getElem?_eq_some_iff.1 hp
    rw [h3 j hlt]
    simp [hp]
  refine ⟨bs, cap, rfl, ⟨(below_new (Below.refl _ w) (Nat.le_refl _) _).trans (hb.mono (by simp)), hsn, h2, Nat.le_refl _, ?_, hc⟩⟩
  have hne : P ≠ [] := by rw [← hP]; exact splitH_ne _
  cases P with
  | nil => exact absurd rfl hne
  | cons p ps => exact not_map hsn (hc 0 p rfl)
theorem LCut.at_ {s : ByteArray} {w : World} {P : List (List UInt8)} {n : Nat} (h : LCut s w P n) : Calls Tryz.prog 45 #[.string s] (w.alloc (.map #[] 0)) fun e W' => ∃ bs cap, e = .returned (.slice (some ⟨bs, 0, none⟩) n cap) ∧ LAt w W' P bs w.heap.size 0 [] := h
theorem LAt.put {w W W3 : World} {P : List (List UInt8)} {bs bm n : Nat} {seen : List (List UInt8)} (h : LAt w W P bs bm n seen) {D : DataW Unit} (hm : IsMap D)
    (hat : ∀ p : List UInt8, D.atKey (.string p) (.lit (.bool false)) = .lit (.bool (decide (p ∈ seen)))) {q : List UInt8}
    (hown : W3.ownsMap Tryz.prog 9 (plainElem Tryz.prog 4) bm (n + 1) (D.put (.string q) (.lit (.bool true)))) (hg : W.grownBy W3 (some bm)) : LAt w W3 P bs bm (n + 1) (q :: seen) := by
  have hz := (h.below.grown hg h.below.size (fun k e => by cases e; exact h.bm0)).size
  obtain ⟨g1, g2, g3, g4, g5⟩ := hg
  have hbk := g5 bs h.bsl (by simp [h.bmb])
  refine ⟨h.below.grown ⟨g1, g2, g3, g4, g5⟩ h.below.size (fun k e => by cases e; exact h.bm0), ⟨_, hown, seen_put hm hat q⟩, Nat.lt_of_lt_of_le h.bsl g4, h.bm0, h.bmb, fun j p hp => ?_⟩
  exact (World.cell?_of_block (w := W) (a := ⟨bs, 0 + j, none⟩) hbk).trans (h.parts j p hp)
def LawTo (w : World) (P : List (List UInt8)) (e : Ending) (W' : World) : Prop :=
  Below w.heap.size w W' ∧ (∀ D, lawP P = some D → e = .returned (.tuple #[.string (mk (Lib.join D [45])), .bool true])) ∧ (lawP P = none → e = .returned (.tuple #[.string ⟨#[]⟩, .bool false]))
theorem LawTo.no {w W' : World} {P : List (List UInt8)} (hb : Below w.heap.size w W') (h : lawP P = none) : LawTo w P (.returned (.tuple #[.string ⟨#[]⟩, .bool false])) W' :=
  ⟨hb, (fun D e => by rw [h] at e; cases e), fun _ => rfl⟩
set_option maxRecDepth 1000000 in
set_option maxHeartbeats 8000000 in
theorem lparse_any (s : ByteArray) (w : World) (hs : s.size ≤ 100000) (P : List (List UInt8)) (hP : splitH s.data.toList = P) :
    Calls Tryz.prog 22 #[.string s] w (LawTo w P) := by
  have cS := LCut.of s w hs P hP
  have hmm := @run_makeMap_plain Tryz.prog
  have hPne : P ≠ [] := by rw [← hP]; exact splitH_ne _
  have hPl : P.length ≤ 100001 := by
    have := splitH_length s.data.toList
    have h2 : s.data.toList.length = s.size := by simp
    rw [hP] at this; omega
  have hPe : ∀ p ∈ P, p.length ≤ 100000 := by
    intro p hp
    have := splitH_mem_length s.data.toList p (by rw [hP]; exact hp)
    have h2 : s.data.toList.length = s.size := by simp
    omega
  obtain ⟨n, hn⟩ : ∃ n, P.length = n := ⟨_, rfl⟩
  rw [hn] at hPl cS
  have HN := Lib.hid hn
  have HS := Lib.hid cS
  have HE := Lib.hid hPe
  have HP0 := Lib.hid hPne
  clear hn cS hP hPe hPne
  go_enter Tryz.func22, Tryz.ntmps22
  go_wp2_with ((go_at_call 45; (with_reducible refine HS.out.at_.mono ?_); rintro e w1 ⟨bs, cap, rfl, hL⟩; have HL := Lib.hid hL; clear hL))
  go_loopw [4, 5, 16] (fun o st i wr => ∃ (k sn : Nat) (seen : List (List UInt8)) (ol : List UInt8), k ≤ n ∧ i = .int .i64 k ∧ sn ≤ 3 ∧ st = .int .i64 sn ∧ ol.length ≤ k * 100001 ∧ o = .string (mk ol) ∧ LInv P k sn seen ol ∧ LAt w wr P bs w.heap.size k seen) (fun _ _ i _ => n - (intOf i).toNat)
  case atStart => exact ⟨0, 0, [], [], Nat.zero_le _, rfl, by omega, rfl, by simp, rfl, .inl ⟨rfl, rfl, rfl, rfl⟩, HL.out⟩
  case round =>
    clear HL
    obtain ⟨k, sn, seen, ol, hk, rfl, hsn, rfl, hol, rfl, hI, hL⟩ := hrel
    have HI := Lib.hid hI
    have HL := Lib.hid hL
    clear hI hL
    by_cases hlt : k < n
    · obtain ⟨p, hq⟩ : ∃ p, P[k]? = some p := by
        have : k < P.length := by rw [HN.out]; exact hlt
        exact ⟨P[k], List.getElem?_eq_getElem this⟩
      have c1 : wr.cell? ⟨bs, 0 + k, none⟩ = some (.string (mk p)) := HL.out.parts k p hq
      have c2 : wr.cell? ⟨bs, k, none⟩ = some (.string (mk p)) := by rw [Nat.zero_add] at c1; exact c1
      have l1 := HE.out p (List.mem_of_getElem? hq)
      have HQ := Lib.hid hq
      clear hq
      have hcf := cnt_facts p
      have hbl : -1 ≤ cntL p ∧ cntL p ≤ 100000 ∧ -1 ≤ cntD p ∧ cntD p ≤ 100000 := by
        rcases hcf with ⟨_, nl, nd, h1, h2, h3, _⟩ | ⟨_, h1, h2, _⟩
        · rw [h1, h2]; omega
        · rw [h1, h2]; omega
      clear hcf
      have cC := fun W => count_mk p l1 W
      have hLa := lang_cnt p
      have hSc := script_cnt p
      have hRe := region_cnt p
      have hVa := variant_cnt p
      have CE0 : p = [] → cntL p + cntD p = 0 := by rintro rfl; rfl
      generalize cntL p = cl at *
      generalize cntD p = cd at *
      have CE := Lib.hid CE0
      clear CE0
      obtain ⟨b1, b2, b3, b4⟩ := hbl
      have CC := Lib.hid cC
      clear cC
      by_cases h0 : k = 0
      · subst h0
        cases hla : langB p
        · have hne : ¬ (cd = 0 ∧ 2 ≤ cl ∧ cl ≤ 3) := fun h => by rw [hLa.2 h] at hla; cases hla
          have HLn := Lib.hid (LInv.not_lang HQ.out hla)
          clear hLa hSc hRe hVa hla
          by_cases h1 : cd = 0 <;> by_cases h2 : cl < 2 <;> by_cases h3 : 3 < cl
          all_goals first
            | (exfalso; omega)
            | (clear hne
               go_wp2_with ((go_at_call 46; (with_reducible refine (CC.out _).mono ?_); rintro e w1 ⟨rfl, rfl⟩))
               go_ret2
               exact LawTo.no HL.out.below HLn.out)
        · obtain ⟨h1, h2, h3⟩ := hLa.1 hla
          have HIN := Lib.hid (HI.out.first HQ.out hla)
          have h2' : ¬ cl < 2 := by omega
          have h3' : ¬ 3 < cl := by omega
          clear h2 h3
          clear hLa hSc hRe hVa hla
          go_wp2_with (first
            | (go_at_call 46; (with_reducible refine (CC.out _).mono ?_); rintro e w1 ⟨rfl, rfl⟩)
            | (go_at_call 47; (with_reducible refine (small_mk p l1 _).mono ?_); rintro e w2 ⟨rfl, hb2⟩))
          go_roundw
          case rel => exact ⟨1, sn, seen, low p, by omega, by go_num, hsn, rfl, by rw [low_length]; omega, rfl, HIN.out, (HL.out.later hb2).mono (by omega)⟩
          case measure => simp [intOf]; omega
      · have hk0 : ((k : Int) == 0) = false := by simp; omega
        have hk0' : 0 < k := by omega
        have ho1 : (mk ol).size ≤ 100000 * 100002 := by
          rw [mk_size]
          have : k * 100001 ≤ 100000 * 100001 := Nat.mul_le_mul_right _ (by omega)
          omega
        have hol2 : ol.length + 1 + p.length ≤ (k + 1) * 100001 := by omega
        have HOL := Lib.hid hol2
        clear hol hol2
        obtain ⟨X, hX⟩ : ∃ X, mk ol = X := ⟨_, rfl⟩
        rw [hX] at ho1 ⊢
        have HX := Lib.hid hX
        clear hX
        have HSc := Lib.hid hSc
        have HRe := Lib.hid hRe
        have HVa := Lib.hid hVa
        clear hLa hSc hRe hVa
        go_upto_region 14 with ((go_at_call 46; (with_reducible refine (CC.out _).mono ?_); rintro e w1 ⟨rfl, rfl⟩))
        go_cut [43] (fun c wx => c = .bool (decide (sn < 1) && scriptB p) ∧ LAt w wx P bs w.heap.size k seen)
        case first =>
          have tA : (decide (sn < 1) && scriptB p) = (decide ((sn : Int) < 1) && ((cl == 4) && (cd == 0))) := by
            rw [Bool.eq_iff_iff]; simp only [Bool.and_eq_true, decide_eq_true_eq, beq_iff_eq, HSc.out]; omega
          have TA := Lib.hid tA
          clear tA
          cases h1 : decide ((sn : Int) < 1) <;> cases h2 : (cl == 4) <;> cases h3 : (cd == 0)
          all_goals
            go_wp2_with fail
            go_meet
            refine ⟨?_, HL.out⟩
            rw [TA.out]
            simp [h1, h2, h3]
        case rest =>
          obtain ⟨rfl, hL⟩ := hcut
          clear HL
          have HL := Lib.hid hL
          clear hL c1 c2
          obtain ⟨bA, hA⟩ : ∃ bA, (decide (sn < 1) && scriptB p) = bA := ⟨_, rfl⟩
          rw [hA]
          have HA := Lib.hid hA
          clear hA
          cases bA
          · have HnA := Lib.hid (show ¬ (sn < 1 ∧ scriptB p = true) by
              have := HA.out
              intro h; rw [h.2] at this; simp at this; omega)
            go_upto_region 17 with fail
            go_cut [61] (fun c wx => c = .bool (decide (sn < 2) && regionB p) ∧ LAt w wx P bs w.heap.size k seen)
            case first =>
              have tA : (decide (sn < 2) && regionB p) = (decide ((sn : Int) < 2) && (((cl == 2) && (cd == 0)) || ((cl == 0) && (cd == 3)))) := by
                rw [Bool.eq_iff_iff]; simp only [Bool.and_eq_true, Bool.or_eq_true, decide_eq_true_eq, beq_iff_eq, HRe.out]; omega
              have TA := Lib.hid tA
              clear tA
              cases h1 : decide ((sn : Int) < 2) <;> cases h2 : (cl == 2) <;> cases h3 : (cd == 0) <;> cases h4 : (cl == 0) <;> cases h5 : (cd == 3)
              all_goals
                go_wp2_with fail
                go_meet
                refine ⟨?_, HL.out⟩
                rw [TA.out]
                simp [h1, h2, h3, h4, h5]
            case rest =>
              obtain ⟨rfl, hL⟩ := hcut
              clear HL
              have HL := Lib.hid hL
              clear hL
              obtain ⟨bB, hB⟩ : ∃ bB, (decide (sn < 2) && regionB p) = bB := ⟨_, rfl⟩
              rw [hB]
              have HB := Lib.hid hB
              clear hB
              cases bB
              · have HnB := Lib.hid (show ¬ (sn < 2 ∧ regionB p = true) by
                  have := HB.out
                  intro h; rw [h.2] at this; simp at this; omega)
                go_upto_region 20 with fail
                go_cut [82] (fun c wx => c = .bool (variantB p) ∧ LAt w wx P bs w.heap.size k seen)
                case first =>
                  have tC : variantB p = ((decide (5 ≤ cl + cd) && decide (cl + cd ≤ 8)) || (((cl + cd == 4) && decide (0 < cd)) && decide (((p.headD 0).toNat : Int) ≤ 57))) := by
                    rw [Bool.eq_iff_iff]; simp only [Bool.and_eq_true, Bool.or_eq_true, decide_eq_true_eq, beq_iff_eq, HVa.out]; omega
                  have TC := Lib.hid tC
                  clear tC
                  cases h3 : (cl + cd == 4)
                  · cases h1 : decide (5 ≤ cl + cd) <;> cases h2 : decide (cl + cd ≤ 8)
                    all_goals
                      go_wp2_with fail
                      go_meet
                      refine ⟨?_, HL.out⟩
                      rw [TC.out]
                      simp only [h1, h2, h3]
                      rfl
                  · have hs0 : 0 < (mk p).size := by
                      rw [mk_size]
                      have e4 := beq_iff_eq.1 h3
                      rcases Nat.eq_zero_or_pos p.length with e | e
                      · have := CE.out (List.eq_nil_of_length_eq_zero e); omega
                      · exact e
                    have hhd := headD_get (mk p) hs0
                    rw [mk_data] at hhd
                    obtain ⟨c, hc⟩ : ∃ c, (mk p)[0] = c := ⟨_, rfl⟩
                    rw [hc] at hhd
                    have HHD := Lib.hid hhd
                    clear hhd
                    have h1 : decide (5 ≤ cl + cd) = false := by have := beq_iff_eq.1 h3; simp; omega
                    have h2 : decide (cl + cd ≤ 8) = true := by have := beq_iff_eq.1 h3; simp; omega
                    cases h4 : decide (0 < cd) <;> cases h5 : decide ((c.toNat : Int) ≤ 57)
                    all_goals
                      go_wp2_with fail
                      go_meet
                      refine ⟨?_, HL.out⟩
                      rw [TC.out, HHD.out]
                      simp only [h1, h2, h3, h4, h5]
                      rfl
                case rest =>
                  obtain ⟨rfl, hL⟩ := hcut
                  clear HL
                  have HL := Lib.hid hL
                  clear hL
                  obtain ⟨bC, hC⟩ : ∃ bC, variantB p = bC := ⟨_, rfl⟩
                  rw [hC]
                  have HC := Lib.hid hC
                  clear hC
                  cases bC
                  · have HLn := Lib.hid (HI.out.stop hk0' HQ.out (lawR_none HnA.out HnB.out HC.out))
                    go_wp2_with fail
                    go_ret2
                    exact LawTo.no HL.out.below HLn.out
                  · obtain ⟨T, hT⟩ : ∃ T, mk (low p) = T := ⟨_, rfl⟩
                    have cT := fun W => small_mk p l1 W
                    have hKey : keyOf Tryz.prog 9 (.string (mk (low p))) = some (.string (low p)) := by
                      rw [Go.WideMaps.keyOf_string_mk Tryz.underlying9 (by rw [mk_size, low_length]; unfold maxLen; omega)]; rfl
                    rw [hT] at cT hKey
                    have hT4 : T.size ≤ 100000 := by rw [← hT, mk_size, low_length]; exact l1
                    have HT := Lib.hid hT
                    have CT := Lib.hid cT
                    have HKey := Lib.hid hKey
                    have HKM := Lib.hid (show k < maxLen by unfold maxLen; omega)
                    have HR := Lib.hid (show X ++ ⟨#[45]⟩ ++ T = mk (ol ++ [45] ++ low p) by
                      rw [← HX.out, ← HT.out, show (⟨#[45]⟩ : ByteArray) = mk [45] from rfl, mk_append, mk_append])
                    clear hT cT hKey
                    by_cases hs : low p ∈ seen
                    · have HLn := Lib.hid (HI.out.stop hk0' HQ.out (lawR_twice HC.out hs))
                      have HD := Lib.hid (show decide (low p ∈ seen) = true from decide_eq_true hs)
                      clear hs
                      go_wp2_with (first
                        | (go_at_call 47; (with_reducible refine (CT.out _).mono ?_); rintro e w2 ⟨rfl, hb2⟩; have hL2 := HL.out.later hb2; have HL2 := Lib.hid hL2; obtain ⟨Dm, hown, hat⟩ := hL2.seen; have HO := Lib.hid hown; have HAt := Lib.hid ((hat (low p)).trans (by rw [HD.out])); clear hown hat hL2)
                        | (at_lookup; refine wpList_lookup_own_bool _ rfl _ _ 71 rfl 9 4 keyLaw Tryz.underlying71 Tryz.underlying4 (zeroBool _) w.heap.size k Dm rfl HO.out _ (.string (low p)) rfl HKey.out true HAt.out ?_))
                      go_ret2
                      exact LawTo.no HL2.out.below HLn.out
                    · have HIN := Lib.hid (HI.out.step hk0' HQ.out (lawR_variant HC.out hs))
                      have HD := Lib.hid (show decide (low p ∈ seen) = false from decide_eq_false hs)
                      clear hs
                      go_wp2_with (first
                        | (go_at_call 47; (with_reducible refine (CT.out _).mono ?_); rintro e w2 ⟨rfl, hb2⟩; have hL2 := HL.out.later hb2; have HL2 := Lib.hid hL2; obtain ⟨Dm, hown, hat⟩ := hL2.seen; have HO := Lib.hid hown; have HAt := Lib.hid ((hat (low p)).trans (by rw [HD.out])); have HAl := Lib.hid hat; clear hown hat hL2)
                        | (at_lookup; refine wpList_lookup_own_bool _ rfl _ _ 71 rfl 9 4 keyLaw Tryz.underlying71 Tryz.underlying4 (zeroBool _) w.heap.size k Dm rfl HO.out _ (.string (low p)) rfl HKey.out false HAt.out ?_)
                        | (at_mapUpdate; refine wpList_mapUpdate_own _ rfl _ _ _ 71 rfl 9 4 keyLaw Tryz.underlying71 _ w.heap.size k Dm rfl HO.out HKM.out _ _ _ rfl rfl HKey.out _ [] (plainElem_bool Tryz.underlying4 true) ?_; intro w3 hown3 hg3; have HL3 := Lib.hid (HL2.out.put HO.out.isMap HAl.out hown3 hg3); clear hown3 hg3))
                      go_roundw
                      case rel => exact ⟨k + 1, 3, _, _, by omega, by go_num, by omega, rfl, by simp only [List.length_append, low_length]; have := HOL.out; simp; omega, by rw [HR.out], HIN.out, HL3.out⟩
                      case measure => simp [intOf]; omega
              · have hB2 : sn < 2 ∧ regionB p = true := by
                  have := HB.out
                  simpa [Bool.and_eq_true] using this
                have HIN := Lib.hid (HI.out.step hk0' HQ.out (lawR_region HnA.out hB2.1 hB2.2))
                obtain ⟨T, hT⟩ : ∃ T, mk (upp p) = T := ⟨_, rfl⟩
                have cT := fun W => big_mk p l1 W
                rw [hT] at cT
                have hT4 : T.size ≤ 100000 := by rw [← hT, mk_size, upp_length]; exact l1
                have HT := Lib.hid hT
                have CT := Lib.hid cT
                have HR := Lib.hid (show X ++ ⟨#[45]⟩ ++ T = mk (ol ++ [45] ++ upp p) by
                  rw [← HX.out, ← HT.out, show (⟨#[45]⟩ : ByteArray) = mk [45] from rfl, mk_append, mk_append])
                clear hB2 hT cT
                go_wp2_with ((go_at_call 48; (with_reducible refine (CT.out _).mono ?_); rintro e w2 ⟨rfl, hb2⟩))
                go_roundw
                case rel => exact ⟨k + 1, 2, seen, _, by omega, by go_num, by omega, rfl, by simp only [List.length_append, upp_length]; have := HOL.out; simp; omega, by rw [HR.out], HIN.out, (HL.out.later hb2).mono (by omega)⟩
                case measure => simp [intOf]; omega
          · have hA2 : sn < 1 ∧ scriptB p = true := by
              have := HA.out
              simpa [Bool.and_eq_true] using this
            have HIN := Lib.hid (HI.out.step hk0' HQ.out (lawR_script hA2.1 hA2.2))
            have hl4 := script_len hA2.2
            have s4 : (mk p).size = 4 := by rw [mk_size, hl4]
            obtain ⟨U, hU⟩ : ∃ U, mk (upp ((p.take 1).drop 0)) = U := ⟨_, rfl⟩
            obtain ⟨V, hV⟩ : ∃ V, mk (low ((p.take 4).drop 1)) = V := ⟨_, rfl⟩
            obtain ⟨T, hT⟩ : ∃ T, mk (title p) = T := ⟨_, rfl⟩
            have cU := fun W => bigE p l1 0 1 W
            have cV := fun W => smallE p l1 1 4 W
            rw [hU] at cU
            rw [hV] at cV
            have hUV : U ++ V = T := by
              rw [← hU, ← hV, ← hT, mk_append, title, List.take_of_length_le (show p.length ≤ 4 by omega)]
              rfl
            have hU4 : U.size ≤ 4 := by rw [← hU, mk_size, upp_length]; simp; omega
            have hV4 : V.size ≤ 4 := by rw [← hV, mk_size, low_length]; simp; omega
            have hT4 : T.size ≤ 4 := by rw [← hT, mk_size, title_length]; omega
            have hbig : ¬ 9223372036854775807 < U.size + V.size := by omega
            have HUV := Lib.hid hUV
            have CU := Lib.hid cU
            have CV := Lib.hid cV
            have HT := Lib.hid hT
            have HR := Lib.hid (show X ++ ⟨#[45]⟩ ++ T = mk (ol ++ [45] ++ title p) by
              rw [← HX.out, ← HT.out, show (⟨#[45]⟩ : ByteArray) = mk [45] from rfl, mk_append, mk_append])
            clear hU hV hT cU cV hUV hl4 hA2
            go_wp2_with fail
            go_region_with (first
              | (go_at_call 48; (with_reducible refine (CU.out _).mono ?_); rintro e w3 ⟨rfl, hb3⟩)
              | (go_at_call 47; (with_reducible refine (CV.out _).mono ?_); rintro e w4 ⟨rfl, hb4⟩))
            all_goals
              have HL4 := Lib.hid ((HL.out.later (below_drew hb3)).later hb4)
              clear hb3 hb4
              rw [HUV.out]
              go_wp2_with fail
              go_roundw
              case rel => exact ⟨k + 1, 1, seen, _, by omega, by go_num, by omega, rfl, by simp only [List.length_append, title_length]; have := HOL.out; simp; omega, by rw [HR.out], HIN.out, HL4.out.mono (by omega)⟩
              case measure => simp [intOf]; omega
    · obtain rfl : k = n := by omega
      have hN := HN.out
      have hI := HI.out
      rw [← hN] at hI
      obtain ⟨D, hD, ho⟩ := hI.done HP0.out
      have HD := Lib.hid hD
      have HO := Lib.hid ho
      clear hI hN hD ho
      go_wp2_with fail
      go_ret2
      refine ⟨HL.out.below, fun D' hD' => ?_, fun e => by rw [HD.out] at e; cases e⟩
      rw [HD.out] at hD'
      cases hD'
      rw [HO.out]
      rfl
end Go.Proofs.YthlccfjhgejlmaaGreatDoor
