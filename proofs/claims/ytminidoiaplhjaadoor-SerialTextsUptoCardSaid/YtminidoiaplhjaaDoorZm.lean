/-
  Package serial: an expression, with its arguments.
-/
import Derived.Test.YtminidoiaplhjaaDoorZm0
import Derived.Deep.LoopGhost
namespace Go.Proofs.YtminidoiaplhjaaDoor
open Go.RowKit
set_option linter.unusedVariables false
set_option linter.unusedSimpArgs false

theorem exAr_size : ∀ e : EX, sizeAs (exArs e) + 1 ≤ e.size
  | .mk k t n a al i vs => by rw [EX.size]; show sizeAs al + 1 ≤ _; omega
theorem asz_drop (al : List AR) : sizeAs (al.drop 0) = sizeAs al := by rw [List.drop_zero]
set_option maxHeartbeats 2000000 in
set_option maxRecDepth 100000 in
theorem winl_any {W0 : World} {B b m : Nat} (e0 : EX) (hg0 : gdI e0 = true) (hz0 : e0.size ≤ 4000000) (hH : ∀ e : EX, gdI e = true → e.size ≤ e0.size → WhTo W0 B b m e) : WiTo W0 B b m e0 := by
  intro q o c bs w hS hq hc hx h hn
  obtain ⟨i0, hi0, hzz0, hzz1, hzz2⟩ := info_parts infoC
  obtain ⟨T, hT⟩ : ∃ T, exT m e0 = T := ⟨_, rfl⟩
  rw [hT] at hn ⊢
  have HT := Lib.hid hT
  have HH := Lib.hid h
  have HN := Lib.hid hn
  have HS := Lib.hid hS
  have HHd := Lib.hid hH
  have HX := Lib.hid (show gdI e0 = true ∧ q < W0.heap.size ∧ CellsAt W0 q o c ∧ ExAt W0 e0 c from ⟨hg0, hq, hc, hx⟩)
  have hBw := h.le
  clear hT h hn hS hH hq hc hx hg0
  go_enter Tryd.func71, Tryd.ntmps71
  go_wp2
  go_loopg [1, 6, 7] (e0.size + 1) (fun gk t1 t6 t7 wr => ∃ (e : EX) (q o : Nat) (c : C7) (st : List FR) (D : List UInt8) (A : Option Addr) (cap : Nat), t1 = .pointer (some ⟨q, o, none⟩) ∧ t6 = .slice A st.length cap ∧
    Hid (gdI e = true ∧ q < W0.heap.size ∧ CellsAt W0 q o c ∧ ExAt W0 e c) ∧ Hid (StkR w.heap.size wr (.slice A st.length cap) st) ∧ Hid (StOk W0 st) ∧ Hid (WrAt B b (bs ++ D) wr) ∧ Hid (Wk B b w wr) ∧ Hid (D ++ (exT m e ++ restG m (stP st)) = T) ∧ Hid (e.size + todoG (stP st) < gk) ∧ Hid (st.length + (e.size + todoG (stP st)) ≤ e0.size))
  case atStart => exact ⟨e0, q, o, c, [], [], none, 0, rfl, rfl, HX, StkR.nil _ _, (fun x hx => by cases hx), Lib.hid (by rw [List.append_nil]; exact HH.out), Lib.hid (Wk.refl _ _ _), Lib.hid (by rw [HT.out]; simp [stP, restG]), Lib.hid (by simp [stP, todoG]), Lib.hid (by simp [stP, todoG])⟩
  case round =>
    clear HX HH HT
    obtain ⟨e, q, o, c, st, D, A, cap, rfl, rfl, HX, HR, HO, HA, HK, HT, Hgk, Hsz⟩ := hrel
    obtain ⟨hgi, hq, hc, hx⟩ := HX.out
    have hse : e.size ≤ e0.size := by have := Hsz.out; omega
    have hSr := HS.out.step HK.out
    have hhd := exT_head m e (gdI_flat hgi) (stP st)
    have hlen : (bs ++ D).length + (hdT m e).length ≤ 140737488355328 := by
      have h1 := HT.out
      rw [hhd] at h1
      have h2 := congrArg List.length h1
      have h3 := HN.out
      rw [List.length_append, List.length_append] at h2
      rw [List.length_append]; omega
    have HC := Lib.hid (HHd.out e hgi hse q o c (bs ++ D) wr hSr hq hc hx HA.out hlen)
    have HHG := Lib.hid hhd
    have har := exAr_size e
    obtain ⟨hd, hhd2⟩ : ∃ x, hdT m e = x := ⟨_, rfl⟩
    rw [hhd2] at HC HHG
    clear hhd hlen hhd2
    have hgs : gdAs (exArs e) = true := by
      obtain ⟨k, t, n, a, al, i, vs⟩ := e
      exact (gdI_kind hgi).2.2
    obtain ⟨k, al, A1, c1, hck, hca, hvl, hop, hal⟩ : ∃ (k : Int) (al : List AR) (A1 : Option Addr) (c1 : Nat), c.k = .int .i64 k ∧ c.al = .slice A1 al.length c1 ∧ LieAt (AsAt W0 al) (.slice A1 al.length c1) al.length ∧ opensE e = (k == 5 || decide (0 < al.length)) ∧ exArs e = al := by
      obtain ⟨k, t, n, a, al, i, vs⟩ := e
      rw [ExAt] at hx
      obtain ⟨e1, _, _, _, e5, _⟩ := hx
      obtain ⟨A1, c1, e6, r⟩ := e5
      refine ⟨k, al, A1, c1, e1, e6, ⟨A1, c1, rfl, r⟩, ?_, rfl⟩
      show (k == 5 || !al.isEmpty) = _
      cases al <;> simp
    rw [hal] at har hgs
    obtain ⟨ck, ct, cn, ca, cal, ci, cvs⟩ := c
    dsimp only at hck hca
    subst hck hca
    have HC7 := Lib.hid hc
    have HV := Lib.hid hvl
    have hll := sizeAs_length al
    have halz : (al.length : Int) ≤ 4000000 := by omega
    have Hgs := Lib.hid hgs
    have Har := Lib.hid har
    have Hal := Lib.hid hal
    obtain ⟨b5, h5⟩ : ∃ x, (k == 5) = x := ⟨_, rfl⟩
    obtain ⟨bl, hbl⟩ : ∃ x, decide (0 < al.length) = x := ⟨_, rfl⟩
    rw [h5, hbl] at hop
    have Hop := Lib.hid hop
    have Hse := Lib.hid hse
    clear HX hgi hx hvl hgs har hal hop hll hse hc
    go_wp2_with fail
    go_at_call 82
    refine HC.out.mono ?_
    rintro e w1 ⟨rfl, h1, g1⟩
    obtain ⟨⟨k0, k1, k2, k3, k4, k5, k6⟩, hlt⟩ := (hSr.step g1).at_ hq HC7.out
    have HA1 := Lib.hid h1
    have HK1 := Lib.hid (HK.out.trans g1)
    have HR1 := Lib.hid (HR.out.wk HA.out g1)
    dsimp only at k0 k1 k2 k3 k4 k5 k6
    clear h1 g1 HC hSr HA HK HR
    cases b5
    · cases bl
      · have hn5 : ¬ k = 5 := by rw [beq_eq_false_iff_ne] at h5; exact h5
        have hnl : ¬ 0 < al.length := of_decide_eq_false hbl
        have HA8 := Lib.hid (show WrAt B b (bs ++ (D ++ hd)) w1 by rw [← List.append_assoc]; exact HA1.out)
        have HK8 := HK1
        have HR8 := HR1
        have HO8 := HO
        have HT8 := Lib.hid (show D ++ hd ++ restG m (stP st) = T by
          have h1 := HT.out
          rw [HHG.out, Hop.out, if_neg (by simp)] at h1
          rw [List.append_assoc]; exact h1)
        have Hg8 := Lib.hid (show todoG (stP st) + 1 < gk by have := Hgk.out; have := Har.out; omega)
        have Hs8 := Lib.hid (show st.length + todoG (stP st) ≤ e0.size by have := Hsz.out; omega)
        have hsl : (st.length : Int) ≤ 4000000 := by have := Hs8.out; omega
        clear HA1 HK1 HR1 HO HT Hgk Hsz HHG Hop Hal Har HV HC7 Hgs Hse
        
        go_wp2
        go_loopw [6, 7] (fun t6 t7 wr => ∃ (st : List FR) (D : List UInt8) (A : Option Addr) (cap : Nat), t6 = .slice A st.length cap ∧ t7 = .int .i64 ((st.length : Int) - 1) ∧ Hid (StkR w.heap.size wr (.slice A st.length cap) st) ∧ Hid (StOk W0 st) ∧ Hid (WrAt B b (bs ++ D) wr) ∧ Hid (Wk B b w wr) ∧ Hid (D ++ restG m (stP st) = T) ∧ Hid (todoG (stP st) + 1 < gk) ∧ Hid (st.length + todoG (stP st) ≤ e0.size)) (fun _ t7 _ => (intOf t7 + 1).toNat)
        case atStart => exact ⟨_, _, _, _, (by first | rfl | (rw [Hn8.out]; done) | (simp; done)), (by first | rfl | (rw [Hn8.out]; done) | (congr 1; simp; done) | (congr 1; simp; omega) | (congr 1; omega)), HR8, HO8, HA8, HK8, HT8, Hg8, Hs8⟩
        case round =>
          clear HR8 HO8 HA8 HK8 HT8 Hg8 Hs8
          obtain ⟨st, D, A, cap, rfl, rfl, HR, HO, HA, HK, HT, Hgk, Hsz⟩ := hrel
          rcases List.eq_nil_or_concat st with rfl | ⟨ini, x, hst⟩
          · have z0 : decide ((0 : Int) ≤ -1) = false := rfl
            have HT2 := Lib.hid (show D = T by have := HT.out; simpa [stP, restG] using this)
            rw [show (([] : List FR).length : Int) - 1 = -1 from rfl]
            go_wp2
            go_region
            go_wp2
            (try simp only [Exit.inBlock, Exit.then])
            refine bodyPost_ret (results_none rfl _ _ _) rfl ?_
            have hA2 := HA.out.drew
            rw [HT2.out] at hA2
            first | exact ⟨rfl, hA2, HK.out.drew⟩ | exact ⟨hA2, HK.out.drew⟩ | exact ⟨trivial, hA2, HK.out.drew⟩
          · rw [List.concat_eq_append] at hst
            subst hst
            obtain ⟨p, hp⟩ : ∃ p, ini.length = p := ⟨_, rfl⟩
            have hl1 : (ini ++ [x]).length = p + 1 := by rw [List.length_append, hp]; rfl
            have hr := HR.out
            rw [hl1] at hr
            obtain ⟨g, cap', cur, hv, hg0, hbx, hcp, hcm, hc0, hc1⟩ := hr.top
            rw [hp] at hv hcp hc0 hc1
            obtain ⟨rfl, rfl⟩ : A = some ⟨g, 0, none⟩ ∧ cap = cap' := by simpa using hv
            have hsz := Hsz.out
            rw [hl1] at hsz
            have hp0 : (p : Int) ≤ 4000000 := by omega
            have hp1 : (0 : Int) ≤ (p : Int) := by omega
            have hp2 : decide ((0 : Int) ≤ (p : Int)) = true := decide_eq_true hp1
            have hp3 : (p : Int) < (p : Int) + 1 := by omega
            have hp4 : (p : Int) + 1 - 1 = (p : Int) := by omega
            have hp5 : ¬ (p : Int) < 0 := by omega
            have hp6 : decide ((p : Int) < 0) = false := decide_eq_false hp5
            have hp7 : (p : Int) ≤ (cap : Int) := by omega
            have hp8 : (p : Int) ≤ (p : Int) + 1 := by omega
            obtain ⟨hox, hog, hok, hoz⟩ := HO.out x (by simp)
            have hxl := sizeAs_length x.al
            have hx0 : (x.al.length : Int) ≤ 4000000 := by omega
            have hxk0 : (x.k : Int) ≤ 4000000 := by omega
            have d0 := (hbx.cell (p * 2)).trans hc0
            have d1 := (hbx.cell (p * 2 + 1)).trans hc1
            have hgl := hbx.lt
            have e1 : (((ini ++ [x]).length : Nat) : Int) - 1 = (p : Int) := by rw [hl1]; omega
            rw [e1, hl1]
            have HRr := Lib.hid hr
            have HBx := Lib.hid hbx
            have HC0 := Lib.hid hc0
            have HC1 := Lib.hid hc1
            have Hp := Lib.hid hp
            have Hl1 := Lib.hid hl1
            have HOI : Hid (StOk W0 ini) := fun y hy => HO.out y (by simp [hy])
            have Hox := Lib.hid hox
            have Hog := Lib.hid hog
            have Hsz2 := Lib.hid hsz
            have Hok := Lib.hid hok
            have Hxl := Lib.hid hxl
            have Hoz := Lib.hid hoz
            have Hhg := Lib.hid hg0
            have hne := HA.out.box_ne hbx (by decide)
            have HTT := Lib.hid (show D ++ restG m ((x.al, x.k) :: stP ini) = T by rw [← stP_snoc]; exact HT.out)
            have Hgk2 := Lib.hid (show todoG ((x.al, x.k) :: stP ini) + 1 < gk by rw [← stP_snoc]; exact Hgk.out)
            have Hsz3 := Lib.hid (show p + 1 + todoG ((x.al, x.k) :: stP ini) ≤ e0.size by rw [← stP_snoc]; exact hsz)
            obtain ⟨xal, xA, xc, xk⟩ := x
            dsimp only at *
            clear hp hl1 hr hv hbx hcp hcm hc0 hc1 hsz hox hog hxl hoz e1 HR hg0 HT Hgk Hsz HO Hsz2
            by_cases ht : xk = xal.length
            · have t1 : ((xk : Int) == (xal.length : Int)) = true := by rw [beq_iff_eq]; omega
              have t2 : (xk == xal.length) = true := by rw [beq_iff_eq]; omega
              have hpop : restG m ((xal, xk) :: stP ini) = 41 :: restG m (stP ini) := by rw [ht]; exact restG_pop m xal (stP ini)
              have Hpop := Lib.hid hpop
              have hlen : (bs ++ D).length + 1 ≤ 140737488355328 := by
                have h1 := congrArg List.length HTT.out
                rw [hpop, List.length_append, List.length_cons] at h1
                have := HN.out
                rw [List.length_append]; omega
              have HW := Lib.hid (write1 ⟨#[41]⟩ wr.drew HA.out.drew hlen)
              have Hht := Lib.hid ht
              clear hpop hlen ht
              go_wp2
              go_region
              go_wp2_with fail
              go_at_call 20
              refine HW.out.mono ?_
              rintro e w9 ⟨rfl, h9, g9⟩
              have HA9 := Lib.hid (show WrAt B b (bs ++ (D ++ [41])) w9 by rw [← List.append_assoc]; exact h9)
              have HK9 := Lib.hid (HK.out.trans ((Wk.refl B b wr).drew.trans g9))
              have HR9 := Lib.hid (HRr.out.wk HA.out ((Wk.refl B b wr).drew.trans g9))
              clear h9 g9
              go_wp2
              go_roundw
              case rel =>
                refine ⟨ini, D ++ [41], some ⟨g, 0, none⟩, cap, by rw [Hp.out], (by rw [Hp.out]), Lib.hid ?_, HOI, HA9, HK9, Lib.hid ?_, Lib.hid ?_, Lib.hid ?_⟩
                · have := HR9.out
                  rw [← Hp.out] at this
                  exact this.pop
                · have := HTT.out
                  rw [Hpop.out] at this
                  rw [List.append_assoc]; exact this
                · have := Hgk2.out; unfold todoG at this; omega
                · have := Hsz3.out; unfold todoG at this; rw [Hp.out]; omega
              case measure => simp [intOf] <;> omega
            · have t1 : ((xk : Int) == (xal.length : Int)) = false := by rw [beq_eq_false_iff_ne]; omega
              have t2 : (xk == xal.length) = false := by rw [beq_eq_false_iff_ne]; omega
              have hlt' : xk < xal.length := by have := Hok.out; omega
              obtain ⟨n, e', he⟩ : ∃ n e', xal[xk]? = some (.mk n e') := by
                cases h : xal[xk] with
                | mk n e' => exact ⟨n, e', by rw [List.getElem?_eq_getElem hlt', h]⟩
              have hnx := restG_next m xal xk n e' (stP ini) he
              have htd := todo_next xal xk n e' (stP ini) he
              have hge := gdAs_get xal xk n e' Hog.out he
              have hlen : (bs ++ D).length + (nameG (xk == 0) n).length ≤ 140737488355328 := by
                have h1 := congrArg List.length HTT.out
                rw [hnx, List.length_append, List.length_append] at h1
                have := HN.out
                rw [List.length_append]; omega
              have HC := Lib.hid (next_any (bs := bs ++ D) xal (.slice xA xal.length xc) Hox.out (by have := Hxl.out; omega) xk n e' he g (p * 2) cur wr.drew (HS.out.step HK.out.drew) HA.out.drew HBx.out (Nat.le_trans HS.out.hB (Nat.le_trans hBw Hhg.out)) HC0.out HC1.out hlen)
              have Hnx := Lib.hid hnx
              have Htd := Lib.hid htd
              have Hge := Lib.hid hge
              have Hlt := Lib.hid hlt'
              clear ht hnx htd hge hlen he hlt'
              go_wp2
              go_region
              go_wp2_with fail
              go_at_call 83
              refine HC.out.mono ?_
              rintro y w9 ⟨⟨q9, o9, c9, rfl, hq9, hc9, hx9⟩, h9, u9, gu, gv⟩
              have HA9 := Lib.hid (show WrAt B b (bs ++ (D ++ nameG (xk == 0) n)) w9 by rw [← List.append_assoc]; exact h9)
              have gu' : Wk B b wr u9 := (Wk.refl B b wr).drew.trans gu
              have HK9 := Lib.hid (((HK.out.trans gu').setNew hBw Hhg.out (p * 2 + 1) (.int .i64 ((xk : Int) + 1))).trans gv)
              have hr9 := HRr.out.wk HA.out gu'
              rw [← Hp.out] at hr9
              have hr10 := hr9.bump (xk + 1)
              rw [Hp.out] at hr10
              have HR9 := Lib.hid (hr10.wkn (fun k hk => by cases hk; exact hne) (by have := gv; rw [show ((xk : Int) + 1) = ((xk + 1 : Nat) : Int) by omega] at this; exact this))
              have HX9 := Lib.hid (show gdI e' = true ∧ q9 < W0.heap.size ∧ CellsAt W0 q9 o9 c9 ∧ ExAt W0 e' c9 from ⟨Hge.out, hq9, hc9, hx9⟩)
              clear h9 gu gv gu' hr9 hr10 hq9 hc9 hx9
              go_wp2
              go_roundg (e'.size + todoG ((xal, xk + 1) :: stP ini) + 1)
              case measure => have := Htd.out; have := Hgk2.out; omega
              case rel =>
                refine ⟨e', q9, o9, c9, ini ++ [⟨xal, xA, xc, xk + 1⟩], D ++ nameG (xk == 0) n, some ⟨g, 0, none⟩, cap, rfl, (by rw [List.length_append, Hp.out]; rfl), HX9, Lib.hid ?_, Lib.hid ?_, HA9, HK9, Lib.hid ?_, Lib.hid ?_, Lib.hid ?_⟩
                · rw [List.length_append, Hp.out]; exact HR9.out
                · intro y hy
                  rcases List.mem_append.1 hy with hy | hy
                  · exact HOI.out y hy
                  · rw [List.mem_singleton] at hy
                    subst hy
                    exact ⟨Hox.out, Hog.out, Hlt.out, Hoz.out⟩
                · have := HTT.out
                  rw [Hnx.out] at this
                  rw [stP_snoc, List.append_assoc]; exact this
                · rw [stP_snoc]; exact Nat.lt_succ_self _
                · rw [stP_snoc, List.length_append, Hp.out]
                  exact Nat.le_trans (Nat.add_le_add_left Htd.out (p + 1)) Hsz3.out
      · have hn5 : ¬ k = 5 := by rw [beq_eq_false_iff_ne] at h5; exact h5
        have hnl : 0 < al.length := of_decide_eq_true hbl
        
        have hop2 : opensE e = true := by rw [Hop.out]; rfl
        have hlen1 : (bs ++ D ++ hd).length + 1 ≤ 140737488355328 := by
          have h1 := HT.out
          rw [HHG.out, hop2, if_pos rfl] at h1
          have h2 := congrArg List.length h1
          have := HN.out
          simp at h2 ⊢
          omega
        have HW := Lib.hid (write1 ⟨#[40]⟩ w1 HA1.out hlen1)
        have Hop2 := Lib.hid hop2
        clear hop2 hlen1
        go_wp2_with fail
        go_at_call 20
        refine HW.out.mono ?_
        rintro x w2 ⟨rfl, h2, g2⟩
        obtain ⟨⟨k0, k1, k2, k3, k4, k5, k6⟩, hlt⟩ := ((HS.out.step HK1.out).step g2).at_ hq HC7.out
        dsimp only at k0 k1 k2 k3 k4 k5 k6
        have HA2 := Lib.hid (show WrAt B b (bs ++ (D ++ (hd ++ [40]))) w2 by have := h2; simpa using this)
        have HK2 := Lib.hid (HK1.out.trans g2)
        have HR2 := Lib.hid (HR1.out.wk HA1.out g2)
        have hown1 := HR2.out.below ((Below.refl _ w2).alloc (Nat.le_refl _) (.cells #[.slice A1 al.length c1, .int .i64 0] 127))
        unfold StkR at hown1
        have hsl0 : (st.length : Int) ≤ 4000000 := by have := Hsz.out; omega
        have hsl1 : st.length ≤ 4000000 := by omega
        have hw2 := HK2.out.size
        clear h2 g2 HA1 HK1 HR1
        go_wp2_with (at_builtin; refine wpList_append_where _ rfl _ _ 125 rfl w.heap.size 127 i0 (.agg #[.slice none 0 0, .int .i64 0]) 2 32 Tryd.underlying125 hi0 hzz0 hzz1 hzz2 rfl (by decide) _ _ _ rfl hown1 ⟨w2.heap.size, 0, none⟩ 1 1 [.slice A1 al.length c1, .int .i64 0] rfl rfl ?c1 ?c2 ?c3 ?c4 ?c5 ?c6 ?_)
        case c1 =>
          intro j u hj
          match j, hj with
          | 0, hj => simp at hj; subst hj; simp [Addr.add]
          | 1, hj => simp at hj; subst hj; simp [Addr.add]
        case c2 => intro u hu; simp at hu; rcases hu with rfl | rfl <;> rfl
        case c3 => unfold maxLen; omega
        case c4 => omega
        case c5 => simp; omega
        case c6 => decide
        intro v' w8 hown' hgrow hwh
        have hr8 : StkR w.heap.size w8 v' (st ++ [⟨al, A1, c1, 0⟩]) := by
          unfold StkR
          rw [stkC_snoc, List.length_append]
          exact hown'
        have hr8' := hr8
        obtain ⟨A8, cap8, hv8⟩ := hr8'.shape
        obtain ⟨n8, hn8⟩ : ∃ n, (st ++ [(⟨al, A1, c1, 0⟩ : FR)]).length = n := ⟨_, rfl⟩
        rw [hn8] at hv8
        subst hv8
        have Hn8 := Lib.hid hn8
        have HR8 := Lib.hid (show StkR w.heap.size w8 (.slice A8 (st ++ [(⟨al, A1, c1, 0⟩ : FR)]).length cap8) (st ++ [⟨al, A1, c1, 0⟩]) by rw [hn8]; exact hr8)
        have HA8 := Lib.hid ((HA2.out.alloc (.cells #[.slice A1 al.length c1, .int .i64 0] 127)).kept hgrow (fun k hk => ((show StkR w.heap.size _ (.slice A st.length cap) st from hown1).block hk).2))
        have HK8 := Lib.hid ((HK2.out.alloc HA2.out.le (.cells #[.slice A1 al.length c1, .int .i64 0] 127)).grown hBw hgrow (fun k hk => ((show StkR w.heap.size _ (.slice A st.length cap) st from hown1).block hk).1))
        have HO8 : Hid (StOk W0 (st ++ [⟨al, A1, c1, 0⟩])) := fun y hy => by
          rcases List.mem_append.1 hy with hy | hy
          · exact HO.out y hy
          · rw [List.mem_singleton] at hy
            subst hy
            exact ⟨HV.out, Hgs.out, Nat.zero_le _, by have := Har.out; have := Hse.out; show sizeAs al ≤ _; omega⟩
        have HT8 := Lib.hid (show D ++ (hd ++ [40]) ++ restG m (stP (st ++ [⟨al, A1, c1, 0⟩])) = T by
          have h1 := HT.out
          rw [HHG.out, Hop2.out, if_pos rfl, Hal.out] at h1
          rw [stP_snoc]
          simpa using h1)
        have Hg8 := Lib.hid (show todoG (stP (st ++ [⟨al, A1, c1, 0⟩])) + 1 < gk by
          rw [stP_snoc]
          unfold todoG
          have := Hgk.out; have := Har.out; have := asz_drop al
          dsimp only
          omega)
        have Hs8 := Lib.hid (show (st ++ [(⟨al, A1, c1, 0⟩ : FR)]).length + todoG (stP (st ++ [⟨al, A1, c1, 0⟩])) ≤ e0.size by
          rw [stP_snoc, List.length_append, List.length_singleton]
          unfold todoG
          have := Hsz.out; have := Har.out; have := asz_drop al
          dsimp only
          omega)
        have hsl : (n8 : Int) ≤ 4000000 := by have := Hs8.out; rw [Hn8.out] at this; omega
        clear HA2 HK2 HR2 hown' hgrow hwh hown1 hr8 hr8' hn8 HO HT Hgk Hsz HHG Hop Hal Har HV HC7 Hgs Hse HW
        
        go_wp2
        go_loopw [6, 7] (fun t6 t7 wr => ∃ (st : List FR) (D : List UInt8) (A : Option Addr) (cap : Nat), t6 = .slice A st.length cap ∧ t7 = .int .i64 ((st.length : Int) - 1) ∧ Hid (StkR w.heap.size wr (.slice A st.length cap) st) ∧ Hid (StOk W0 st) ∧ Hid (WrAt B b (bs ++ D) wr) ∧ Hid (Wk B b w wr) ∧ Hid (D ++ restG m (stP st) = T) ∧ Hid (todoG (stP st) + 1 < gk) ∧ Hid (st.length + todoG (stP st) ≤ e0.size)) (fun _ t7 _ => (intOf t7 + 1).toNat)
        case atStart => exact ⟨_, _, _, _, (by first | rfl | (rw [Hn8.out]; done) | (simp; done)), (by first | rfl | (rw [Hn8.out]; done) | (congr 1; simp; done) | (congr 1; simp; omega) | (congr 1; omega)), HR8, HO8, HA8, HK8, HT8, Hg8, Hs8⟩
        case round =>
          clear HR8 HO8 HA8 HK8 HT8 Hg8 Hs8
          obtain ⟨st, D, A, cap, rfl, rfl, HR, HO, HA, HK, HT, Hgk, Hsz⟩ := hrel
          rcases List.eq_nil_or_concat st with rfl | ⟨ini, x, hst⟩
          · have z0 : decide ((0 : Int) ≤ -1) = false := rfl
            have HT2 := Lib.hid (show D = T by have := HT.out; simpa [stP, restG] using this)
            rw [show (([] : List FR).length : Int) - 1 = -1 from rfl]
            go_wp2
            go_region
            go_wp2
            (try simp only [Exit.inBlock, Exit.then])
            refine bodyPost_ret (results_none rfl _ _ _) rfl ?_
            have hA2 := HA.out.drew
            rw [HT2.out] at hA2
            first | exact ⟨rfl, hA2, HK.out.drew⟩ | exact ⟨hA2, HK.out.drew⟩ | exact ⟨trivial, hA2, HK.out.drew⟩
          · rw [List.concat_eq_append] at hst
            subst hst
            obtain ⟨p, hp⟩ : ∃ p, ini.length = p := ⟨_, rfl⟩
            have hl1 : (ini ++ [x]).length = p + 1 := by rw [List.length_append, hp]; rfl
            have hr := HR.out
            rw [hl1] at hr
            obtain ⟨g, cap', cur, hv, hg0, hbx, hcp, hcm, hc0, hc1⟩ := hr.top
            rw [hp] at hv hcp hc0 hc1
            obtain ⟨rfl, rfl⟩ : A = some ⟨g, 0, none⟩ ∧ cap = cap' := by simpa using hv
            have hsz := Hsz.out
            rw [hl1] at hsz
            have hp0 : (p : Int) ≤ 4000000 := by omega
            have hp1 : (0 : Int) ≤ (p : Int) := by omega
            have hp2 : decide ((0 : Int) ≤ (p : Int)) = true := decide_eq_true hp1
            have hp3 : (p : Int) < (p : Int) + 1 := by omega
            have hp4 : (p : Int) + 1 - 1 = (p : Int) := by omega
            have hp5 : ¬ (p : Int) < 0 := by omega
            have hp6 : decide ((p : Int) < 0) = false := decide_eq_false hp5
            have hp7 : (p : Int) ≤ (cap : Int) := by omega
            have hp8 : (p : Int) ≤ (p : Int) + 1 := by omega
            obtain ⟨hox, hog, hok, hoz⟩ := HO.out x (by simp)
            have hxl := sizeAs_length x.al
            have hx0 : (x.al.length : Int) ≤ 4000000 := by omega
            have hxk0 : (x.k : Int) ≤ 4000000 := by omega
            have d0 := (hbx.cell (p * 2)).trans hc0
            have d1 := (hbx.cell (p * 2 + 1)).trans hc1
            have hgl := hbx.lt
            have e1 : (((ini ++ [x]).length : Nat) : Int) - 1 = (p : Int) := by rw [hl1]; omega
            rw [e1, hl1]
            have HRr := Lib.hid hr
            have HBx := Lib.hid hbx
            have HC0 := Lib.hid hc0
            have HC1 := Lib.hid hc1
            have Hp := Lib.hid hp
            have Hl1 := Lib.hid hl1
            have HOI : Hid (StOk W0 ini) := fun y hy => HO.out y (by simp [hy])
            have Hox := Lib.hid hox
            have Hog := Lib.hid hog
            have Hsz2 := Lib.hid hsz
            have Hok := Lib.hid hok
            have Hxl := Lib.hid hxl
            have Hoz := Lib.hid hoz
            have Hhg := Lib.hid hg0
            have hne := HA.out.box_ne hbx (by decide)
            have HTT := Lib.hid (show D ++ restG m ((x.al, x.k) :: stP ini) = T by rw [← stP_snoc]; exact HT.out)
            have Hgk2 := Lib.hid (show todoG ((x.al, x.k) :: stP ini) + 1 < gk by rw [← stP_snoc]; exact Hgk.out)
            have Hsz3 := Lib.hid (show p + 1 + todoG ((x.al, x.k) :: stP ini) ≤ e0.size by rw [← stP_snoc]; exact hsz)
            obtain ⟨xal, xA, xc, xk⟩ := x
            dsimp only at *
            clear hp hl1 hr hv hbx hcp hcm hc0 hc1 hsz hox hog hxl hoz e1 HR hg0 HT Hgk Hsz HO Hsz2
            by_cases ht : xk = xal.length
            · have t1 : ((xk : Int) == (xal.length : Int)) = true := by rw [beq_iff_eq]; omega
              have t2 : (xk == xal.length) = true := by rw [beq_iff_eq]; omega
              have hpop : restG m ((xal, xk) :: stP ini) = 41 :: restG m (stP ini) := by rw [ht]; exact restG_pop m xal (stP ini)
              have Hpop := Lib.hid hpop
              have hlen : (bs ++ D).length + 1 ≤ 140737488355328 := by
                have h1 := congrArg List.length HTT.out
                rw [hpop, List.length_append, List.length_cons] at h1
                have := HN.out
                rw [List.length_append]; omega
              have HW := Lib.hid (write1 ⟨#[41]⟩ wr.drew HA.out.drew hlen)
              have Hht := Lib.hid ht
              clear hpop hlen ht
              go_wp2
              go_region
              go_wp2_with fail
              go_at_call 20
              refine HW.out.mono ?_
              rintro e w9 ⟨rfl, h9, g9⟩
              have HA9 := Lib.hid (show WrAt B b (bs ++ (D ++ [41])) w9 by rw [← List.append_assoc]; exact h9)
              have HK9 := Lib.hid (HK.out.trans ((Wk.refl B b wr).drew.trans g9))
              have HR9 := Lib.hid (HRr.out.wk HA.out ((Wk.refl B b wr).drew.trans g9))
              clear h9 g9
              go_wp2
              go_roundw
              case rel =>
                refine ⟨ini, D ++ [41], some ⟨g, 0, none⟩, cap, by rw [Hp.out], (by rw [Hp.out]), Lib.hid ?_, HOI, HA9, HK9, Lib.hid ?_, Lib.hid ?_, Lib.hid ?_⟩
                · have := HR9.out
                  rw [← Hp.out] at this
                  exact this.pop
                · have := HTT.out
                  rw [Hpop.out] at this
                  rw [List.append_assoc]; exact this
                · have := Hgk2.out; unfold todoG at this; omega
                · have := Hsz3.out; unfold todoG at this; rw [Hp.out]; omega
              case measure => simp [intOf] <;> omega
            · have t1 : ((xk : Int) == (xal.length : Int)) = false := by rw [beq_eq_false_iff_ne]; omega
              have t2 : (xk == xal.length) = false := by rw [beq_eq_false_iff_ne]; omega
              have hlt' : xk < xal.length := by have := Hok.out; omega
              obtain ⟨n, e', he⟩ : ∃ n e', xal[xk]? = some (.mk n e') := by
                cases h : xal[xk] with
                | mk n e' => exact ⟨n, e', by rw [List.getElem?_eq_getElem hlt', h]⟩
              have hnx := restG_next m xal xk n e' (stP ini) he
              have htd := todo_next xal xk n e' (stP ini) he
              have hge := gdAs_get xal xk n e' Hog.out he
              have hlen : (bs ++ D).length + (nameG (xk == 0) n).length ≤ 140737488355328 := by
                have h1 := congrArg List.length HTT.out
                rw [hnx, List.length_append, List.length_append] at h1
                have := HN.out
                rw [List.length_append]; omega
              have HC := Lib.hid (next_any (bs := bs ++ D) xal (.slice xA xal.length xc) Hox.out (by have := Hxl.out; omega) xk n e' he g (p * 2) cur wr.drew (HS.out.step HK.out.drew) HA.out.drew HBx.out (Nat.le_trans HS.out.hB (Nat.le_trans hBw Hhg.out)) HC0.out HC1.out hlen)
              have Hnx := Lib.hid hnx
              have Htd := Lib.hid htd
              have Hge := Lib.hid hge
              have Hlt := Lib.hid hlt'
              clear ht hnx htd hge hlen he hlt'
              go_wp2
              go_region
              go_wp2_with fail
              go_at_call 83
              refine HC.out.mono ?_
              rintro y w9 ⟨⟨q9, o9, c9, rfl, hq9, hc9, hx9⟩, h9, u9, gu, gv⟩
              have HA9 := Lib.hid (show WrAt B b (bs ++ (D ++ nameG (xk == 0) n)) w9 by rw [← List.append_assoc]; exact h9)
              have gu' : Wk B b wr u9 := (Wk.refl B b wr).drew.trans gu
              have HK9 := Lib.hid (((HK.out.trans gu').setNew hBw Hhg.out (p * 2 + 1) (.int .i64 ((xk : Int) + 1))).trans gv)
              have hr9 := HRr.out.wk HA.out gu'
              rw [← Hp.out] at hr9
              have hr10 := hr9.bump (xk + 1)
              rw [Hp.out] at hr10
              have HR9 := Lib.hid (hr10.wkn (fun k hk => by cases hk; exact hne) (by have := gv; rw [show ((xk : Int) + 1) = ((xk + 1 : Nat) : Int) by omega] at this; exact this))
              have HX9 := Lib.hid (show gdI e' = true ∧ q9 < W0.heap.size ∧ CellsAt W0 q9 o9 c9 ∧ ExAt W0 e' c9 from ⟨Hge.out, hq9, hc9, hx9⟩)
              clear h9 gu gv gu' hr9 hr10 hq9 hc9 hx9
              go_wp2
              go_roundg (e'.size + todoG ((xal, xk + 1) :: stP ini) + 1)
              case measure => have := Htd.out; have := Hgk2.out; omega
              case rel =>
                refine ⟨e', q9, o9, c9, ini ++ [⟨xal, xA, xc, xk + 1⟩], D ++ nameG (xk == 0) n, some ⟨g, 0, none⟩, cap, rfl, (by rw [List.length_append, Hp.out]; rfl), HX9, Lib.hid ?_, Lib.hid ?_, HA9, HK9, Lib.hid ?_, Lib.hid ?_, Lib.hid ?_⟩
                · rw [List.length_append, Hp.out]; exact HR9.out
                · intro y hy
                  rcases List.mem_append.1 hy with hy | hy
                  · exact HOI.out y hy
                  · rw [List.mem_singleton] at hy
                    subst hy
                    exact ⟨Hox.out, Hog.out, Hlt.out, Hoz.out⟩
                · have := HTT.out
                  rw [Hnx.out] at this
                  rw [stP_snoc, List.append_assoc]; exact this
                · rw [stP_snoc]; exact Nat.lt_succ_self _
                · rw [stP_snoc, List.length_append, Hp.out]
                  exact Nat.le_trans (Nat.add_le_add_left Htd.out (p + 1)) Hsz3.out
    · have hn5 : k = 5 := by rw [beq_iff_eq] at h5; exact h5
      
      have hop2 : opensE e = true := by rw [Hop.out]; rfl
      have hlen1 : (bs ++ D ++ hd).length + 1 ≤ 140737488355328 := by
        have h1 := HT.out
        rw [HHG.out, hop2, if_pos rfl] at h1
        have h2 := congrArg List.length h1
        have := HN.out
        simp at h2 ⊢
        omega
      have HW := Lib.hid (write1 ⟨#[40]⟩ w1 HA1.out hlen1)
      have Hop2 := Lib.hid hop2
      clear hop2 hlen1
      go_wp2_with fail
      go_at_call 20
      refine HW.out.mono ?_
      rintro x w2 ⟨rfl, h2, g2⟩
      obtain ⟨⟨k0, k1, k2, k3, k4, k5, k6⟩, hlt⟩ := ((HS.out.step HK1.out).step g2).at_ hq HC7.out
      dsimp only at k0 k1 k2 k3 k4 k5 k6
      have HA2 := Lib.hid (show WrAt B b (bs ++ (D ++ (hd ++ [40]))) w2 by have := h2; simpa using this)
      have HK2 := Lib.hid (HK1.out.trans g2)
      have HR2 := Lib.hid (HR1.out.wk HA1.out g2)
      have hown1 := HR2.out.below ((Below.refl _ w2).alloc (Nat.le_refl _) (.cells #[.slice A1 al.length c1, .int .i64 0] 127))
      unfold StkR at hown1
      have hsl0 : (st.length : Int) ≤ 4000000 := by have := Hsz.out; omega
      have hsl1 : st.length ≤ 4000000 := by omega
      have hw2 := HK2.out.size
      clear h2 g2 HA1 HK1 HR1
      go_wp2_with (at_builtin; refine wpList_append_where _ rfl _ _ 125 rfl w.heap.size 127 i0 (.agg #[.slice none 0 0, .int .i64 0]) 2 32 Tryd.underlying125 hi0 hzz0 hzz1 hzz2 rfl (by decide) _ _ _ rfl hown1 ⟨w2.heap.size, 0, none⟩ 1 1 [.slice A1 al.length c1, .int .i64 0] rfl rfl ?c1 ?c2 ?c3 ?c4 ?c5 ?c6 ?_)
      case c1 =>
        intro j u hj
        match j, hj with
        | 0, hj => simp at hj; subst hj; simp [Addr.add]
        | 1, hj => simp at hj; subst hj; simp [Addr.add]
      case c2 => intro u hu; simp at hu; rcases hu with rfl | rfl <;> rfl
      case c3 => unfold maxLen; omega
      case c4 => omega
      case c5 => simp; omega
      case c6 => decide
      intro v' w8 hown' hgrow hwh
      have hr8 : StkR w.heap.size w8 v' (st ++ [⟨al, A1, c1, 0⟩]) := by
        unfold StkR
        rw [stkC_snoc, List.length_append]
        exact hown'
      have hr8' := hr8
      obtain ⟨A8, cap8, hv8⟩ := hr8'.shape
      obtain ⟨n8, hn8⟩ : ∃ n, (st ++ [(⟨al, A1, c1, 0⟩ : FR)]).length = n := ⟨_, rfl⟩
      rw [hn8] at hv8
      subst hv8
      have Hn8 := Lib.hid hn8
      have HR8 := Lib.hid (show StkR w.heap.size w8 (.slice A8 (st ++ [(⟨al, A1, c1, 0⟩ : FR)]).length cap8) (st ++ [⟨al, A1, c1, 0⟩]) by rw [hn8]; exact hr8)
      have HA8 := Lib.hid ((HA2.out.alloc (.cells #[.slice A1 al.length c1, .int .i64 0] 127)).kept hgrow (fun k hk => ((show StkR w.heap.size _ (.slice A st.length cap) st from hown1).block hk).2))
      have HK8 := Lib.hid ((HK2.out.alloc HA2.out.le (.cells #[.slice A1 al.length c1, .int .i64 0] 127)).grown hBw hgrow (fun k hk => ((show StkR w.heap.size _ (.slice A st.length cap) st from hown1).block hk).1))
      have HO8 : Hid (StOk W0 (st ++ [⟨al, A1, c1, 0⟩])) := fun y hy => by
        rcases List.mem_append.1 hy with hy | hy
        · exact HO.out y hy
        · rw [List.mem_singleton] at hy
          subst hy
          exact ⟨HV.out, Hgs.out, Nat.zero_le _, by have := Har.out; have := Hse.out; show sizeAs al ≤ _; omega⟩
      have HT8 := Lib.hid (show D ++ (hd ++ [40]) ++ restG m (stP (st ++ [⟨al, A1, c1, 0⟩])) = T by
        have h1 := HT.out
        rw [HHG.out, Hop2.out, if_pos rfl, Hal.out] at h1
        rw [stP_snoc]
        simpa using h1)
      have Hg8 := Lib.hid (show todoG (stP (st ++ [⟨al, A1, c1, 0⟩])) + 1 < gk by
        rw [stP_snoc]
        unfold todoG
        have := Hgk.out; have := Har.out; have := asz_drop al
        dsimp only
        omega)
      have Hs8 := Lib.hid (show (st ++ [(⟨al, A1, c1, 0⟩ : FR)]).length + todoG (stP (st ++ [⟨al, A1, c1, 0⟩])) ≤ e0.size by
        rw [stP_snoc, List.length_append, List.length_singleton]
        unfold todoG
        have := Hsz.out; have := Har.out; have := asz_drop al
        dsimp only
        omega)
      have hsl : (n8 : Int) ≤ 4000000 := by have := Hs8.out; rw [Hn8.out] at this; omega
      clear HA2 HK2 HR2 hown' hgrow hwh hown1 hr8 hr8' hn8 HO HT Hgk Hsz HHG Hop Hal Har HV HC7 Hgs Hse HW
      
      go_wp2
      go_loopw [6, 7] (fun t6 t7 wr => ∃ (st : List FR) (D : List UInt8) (A : Option Addr) (cap : Nat), t6 = .slice A st.length cap ∧ t7 = .int .i64 ((st.length : Int) - 1) ∧ Hid (StkR w.heap.size wr (.slice A st.length cap) st) ∧ Hid (StOk W0 st) ∧ Hid (WrAt B b (bs ++ D) wr) ∧ Hid (Wk B b w wr) ∧ Hid (D ++ restG m (stP st) = T) ∧ Hid (todoG (stP st) + 1 < gk) ∧ Hid (st.length + todoG (stP st) ≤ e0.size)) (fun _ t7 _ => (intOf t7 + 1).toNat)
      case atStart => exact ⟨_, _, _, _, (by first | rfl | (rw [Hn8.out]; done) | (simp; done)), (by first | rfl | (rw [Hn8.out]; done) | (congr 1; simp; done) | (congr 1; simp; omega) | (congr 1; omega)), HR8, HO8, HA8, HK8, HT8, Hg8, Hs8⟩
      case round =>
        clear HR8 HO8 HA8 HK8 HT8 Hg8 Hs8
        obtain ⟨st, D, A, cap, rfl, rfl, HR, HO, HA, HK, HT, Hgk, Hsz⟩ := hrel
        rcases List.eq_nil_or_concat st with rfl | ⟨ini, x, hst⟩
        · have z0 : decide ((0 : Int) ≤ -1) = false := rfl
          have HT2 := Lib.hid (show D = T by have := HT.out; simpa [stP, restG] using this)
          rw [show (([] : List FR).length : Int) - 1 = -1 from rfl]
          go_wp2
          go_region
          go_wp2
          (try simp only [Exit.inBlock, Exit.then])
          refine bodyPost_ret (results_none rfl _ _ _) rfl ?_
          have hA2 := HA.out.drew
          rw [HT2.out] at hA2
          first | exact ⟨rfl, hA2, HK.out.drew⟩ | exact ⟨hA2, HK.out.drew⟩ | exact ⟨trivial, hA2, HK.out.drew⟩
        · rw [List.concat_eq_append] at hst
          subst hst
          obtain ⟨p, hp⟩ : ∃ p, ini.length = p := ⟨_, rfl⟩
          have hl1 : (ini ++ [x]).length = p + 1 := by rw [List.length_append, hp]; rfl
          have hr := HR.out
          rw [hl1] at hr
          obtain ⟨g, cap', cur, hv, hg0, hbx, hcp, hcm, hc0, hc1⟩ := hr.top
          rw [hp] at hv hcp hc0 hc1
          obtain ⟨rfl, rfl⟩ : A = some ⟨g, 0, none⟩ ∧ cap = cap' := by simpa using hv
          have hsz := Hsz.out
          rw [hl1] at hsz
          have hp0 : (p : Int) ≤ 4000000 := by omega
          have hp1 : (0 : Int) ≤ (p : Int) := by omega
          have hp2 : decide ((0 : Int) ≤ (p : Int)) = true := decide_eq_true hp1
          have hp3 : (p : Int) < (p : Int) + 1 := by omega
          have hp4 : (p : Int) + 1 - 1 = (p : Int) := by omega
          have hp5 : ¬ (p : Int) < 0 := by omega
          have hp6 : decide ((p : Int) < 0) = false := decide_eq_false hp5
          have hp7 : (p : Int) ≤ (cap : Int) := by omega
          have hp8 : (p : Int) ≤ (p : Int) + 1 := by omega
          obtain ⟨hox, hog, hok, hoz⟩ := HO.out x (by simp)
          have hxl := sizeAs_length x.al
          have hx0 : (x.al.length : Int) ≤ 4000000 := by omega
          have hxk0 : (x.k : Int) ≤ 4000000 := by omega
          have d0 := (hbx.cell (p * 2)).trans hc0
          have d1 := (hbx.cell (p * 2 + 1)).trans hc1
          have hgl := hbx.lt
          have e1 : (((ini ++ [x]).length : Nat) : Int) - 1 = (p : Int) := by rw [hl1]; omega
          rw [e1, hl1]
          have HRr := Lib.hid hr
          have HBx := Lib.hid hbx
          have HC0 := Lib.hid hc0
          have HC1 := Lib.hid hc1
          have Hp := Lib.hid hp
          have Hl1 := Lib.hid hl1
          have HOI : Hid (StOk W0 ini) := fun y hy => HO.out y (by simp [hy])
          have Hox := Lib.hid hox
          have Hog := Lib.hid hog
          have Hsz2 := Lib.hid hsz
          have Hok := Lib.hid hok
          have Hxl := Lib.hid hxl
          have Hoz := Lib.hid hoz
          have Hhg := Lib.hid hg0
          have hne := HA.out.box_ne hbx (by decide)
          have HTT := Lib.hid (show D ++ restG m ((x.al, x.k) :: stP ini) = T by rw [← stP_snoc]; exact HT.out)
          have Hgk2 := Lib.hid (show todoG ((x.al, x.k) :: stP ini) + 1 < gk by rw [← stP_snoc]; exact Hgk.out)
          have Hsz3 := Lib.hid (show p + 1 + todoG ((x.al, x.k) :: stP ini) ≤ e0.size by rw [← stP_snoc]; exact hsz)
          obtain ⟨xal, xA, xc, xk⟩ := x
          dsimp only at *
          clear hp hl1 hr hv hbx hcp hcm hc0 hc1 hsz hox hog hxl hoz e1 HR hg0 HT Hgk Hsz HO Hsz2
          by_cases ht : xk = xal.length
          · have t1 : ((xk : Int) == (xal.length : Int)) = true := by rw [beq_iff_eq]; omega
            have t2 : (xk == xal.length) = true := by rw [beq_iff_eq]; omega
            have hpop : restG m ((xal, xk) :: stP ini) = 41 :: restG m (stP ini) := by rw [ht]; exact restG_pop m xal (stP ini)
            have Hpop := Lib.hid hpop
            have hlen : (bs ++ D).length + 1 ≤ 140737488355328 := by
              have h1 := congrArg List.length HTT.out
              rw [hpop, List.length_append, List.length_cons] at h1
              have := HN.out
              rw [List.length_append]; omega
            have HW := Lib.hid (write1 ⟨#[41]⟩ wr.drew HA.out.drew hlen)
            have Hht := Lib.hid ht
            clear hpop hlen ht
            go_wp2
            go_region
            go_wp2_with fail
            go_at_call 20
            refine HW.out.mono ?_
            rintro e w9 ⟨rfl, h9, g9⟩
            have HA9 := Lib.hid (show WrAt B b (bs ++ (D ++ [41])) w9 by rw [← List.append_assoc]; exact h9)
            have HK9 := Lib.hid (HK.out.trans ((Wk.refl B b wr).drew.trans g9))
            have HR9 := Lib.hid (HRr.out.wk HA.out ((Wk.refl B b wr).drew.trans g9))
            clear h9 g9
            go_wp2
            go_roundw
            case rel =>
              refine ⟨ini, D ++ [41], some ⟨g, 0, none⟩, cap, by rw [Hp.out], (by rw [Hp.out]), Lib.hid ?_, HOI, HA9, HK9, Lib.hid ?_, Lib.hid ?_, Lib.hid ?_⟩
              · have := HR9.out
                rw [← Hp.out] at this
                exact this.pop
              · have := HTT.out
                rw [Hpop.out] at this
                rw [List.append_assoc]; exact this
              · have := Hgk2.out; unfold todoG at this; omega
              · have := Hsz3.out; unfold todoG at this; rw [Hp.out]; omega
            case measure => simp [intOf] <;> omega
          · have t1 : ((xk : Int) == (xal.length : Int)) = false := by rw [beq_eq_false_iff_ne]; omega
            have t2 : (xk == xal.length) = false := by rw [beq_eq_false_iff_ne]; omega
            have hlt' : xk < xal.length := by have := Hok.out; omega
            obtain ⟨n, e', he⟩ : ∃ n e', xal[xk]? = some (.mk n e') := by
              cases h : xal[xk] with
              | mk n e' => exact ⟨n, e', by rw [List.getElem?_eq_getElem hlt', h]⟩
            have hnx := restG_next m xal xk n e' (stP ini) he
            have htd := todo_next xal xk n e' (stP ini) he
            have hge := gdAs_get xal xk n e' Hog.out he
            have hlen : (bs ++ D).length + (nameG (xk == 0) n).length ≤ 140737488355328 := by
              have h1 := congrArg List.length HTT.out
              rw [hnx, List.length_append, List.length_append] at h1
              have := HN.out
              rw [List.length_append]; omega
            have HC := Lib.hid (next_any (bs := bs ++ D) xal (.slice xA xal.length xc) Hox.out (by have := Hxl.out; omega) xk n e' he g (p * 2) cur wr.drew (HS.out.step HK.out.drew) HA.out.drew HBx.out (Nat.le_trans HS.out.hB (Nat.le_trans hBw Hhg.out)) HC0.out HC1.out hlen)
            have Hnx := Lib.hid hnx
            have Htd := Lib.hid htd
            have Hge := Lib.hid hge
            have Hlt := Lib.hid hlt'
            clear ht hnx htd hge hlen he hlt'
            go_wp2
            go_region
            go_wp2_with fail
            go_at_call 83
            refine HC.out.mono ?_
            rintro y w9 ⟨⟨q9, o9, c9, rfl, hq9, hc9, hx9⟩, h9, u9, gu, gv⟩
            have HA9 := Lib.hid (show WrAt B b (bs ++ (D ++ nameG (xk == 0) n)) w9 by rw [← List.append_assoc]; exact h9)
            have gu' : Wk B b wr u9 := (Wk.refl B b wr).drew.trans gu
            have HK9 := Lib.hid (((HK.out.trans gu').setNew hBw Hhg.out (p * 2 + 1) (.int .i64 ((xk : Int) + 1))).trans gv)
            have hr9 := HRr.out.wk HA.out gu'
            rw [← Hp.out] at hr9
            have hr10 := hr9.bump (xk + 1)
            rw [Hp.out] at hr10
            have HR9 := Lib.hid (hr10.wkn (fun k hk => by cases hk; exact hne) (by have := gv; rw [show ((xk : Int) + 1) = ((xk + 1 : Nat) : Int) by omega] at this; exact this))
            have HX9 := Lib.hid (show gdI e' = true ∧ q9 < W0.heap.size ∧ CellsAt W0 q9 o9 c9 ∧ ExAt W0 e' c9 from ⟨Hge.out, hq9, hc9, hx9⟩)
            clear h9 gu gv gu' hr9 hr10 hq9 hc9 hx9
            go_wp2
            go_roundg (e'.size + todoG ((xal, xk + 1) :: stP ini) + 1)
            case measure => have := Htd.out; have := Hgk2.out; omega
            case rel =>
              refine ⟨e', q9, o9, c9, ini ++ [⟨xal, xA, xc, xk + 1⟩], D ++ nameG (xk == 0) n, some ⟨g, 0, none⟩, cap, rfl, (by rw [List.length_append, Hp.out]; rfl), HX9, Lib.hid ?_, Lib.hid ?_, HA9, HK9, Lib.hid ?_, Lib.hid ?_, Lib.hid ?_⟩
              · rw [List.length_append, Hp.out]; exact HR9.out
              · intro y hy
                rcases List.mem_append.1 hy with hy | hy
                · exact HOI.out y hy
                · rw [List.mem_singleton] at hy
                  subst hy
                  exact ⟨Hox.out, Hog.out, Hlt.out, Hoz.out⟩
              · have := HTT.out
                rw [Hnx.out] at this
                rw [stP_snoc, List.append_assoc]; exact this
              · rw [stP_snoc]; exact Nat.lt_succ_self _
              · rw [stP_snoc, List.length_append, Hp.out]
                exact Nat.le_trans (Nat.add_le_add_left Htd.out (p + 1)) Hsz3.out
end Go.Proofs.YtminidoiaplhjaaDoor
