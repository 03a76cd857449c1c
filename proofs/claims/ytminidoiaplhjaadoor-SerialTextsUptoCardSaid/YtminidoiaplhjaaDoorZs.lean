/-
  Package serial: named patterns; messages.
-/
import Derived.Test.YtminidoiaplhjaaDoorZq
namespace Go.Proofs.YtminidoiaplhjaaDoor
open Go.RowKit
set_option linter.unusedVariables false
set_option linter.unusedSimpArgs false

theorem pat_writes {W0 : World} (hM : MxW W0) {B b : Nat} (m : Nat) (l : List EL) (hg : gdEs l = true) (hz : m + 2 * sizeEs l ≤ 4000000) : WaTo W0 B b m l :=
  wpat_any hM l (by omega) fun j t e he => (knotW hM e.size e (Nat.le_refl _) m (by have := szEs_place l j t e he; omega)).2 (gdEs_get l j t e hg he)
/-- A name, an equals sign, and a pattern if it isn't empty. -/
def namT (m : Nat) (n : ByteArray) (l : List EL) : List UInt8 := n.data.toList ++ (32 :: 61 :: (if l.isEmpty then [] else paT m l))
set_option maxHeartbeats 2000000 in
set_option maxRecDepth 100000 in
theorem wnamed_any {W0 : World} (hM : MxW W0) {B b : Nat} {bs : List UInt8} (m : Nat) (n : ByteArray) (l : List EL) (v : Value) (hv : PatAt W0 l v) (hg : gdEs l = true) (hz : m + 2 * sizeEs l ≤ 4000000) (w : World) (hS : Sw W0 B b w) (h : WrAt B b bs w) (hn : bs.length + (namT m n l).length ≤ 140737488355328) :
    Calls Tryd.prog 40 #[.pointer (some ⟨b, 0, none⟩), .string n, v, .string (mgB m)] w fun e w' => e = .returned (.tuple #[]) ∧ WrAt B b (bs ++ namT m n l) w' ∧ Wk B b w w' := by
  have hW := pat_writes hM (B := B) (b := b) m l hg hz
  have HW := Lib.hid (write2 n ⟨#[32, 61]⟩ w h (by unfold namT at hn; simp at hn; show _ + (_ + 2) ≤ _; omega))
  have HWa := Lib.hid hW
  have HS := Lib.hid hS
  have HN := Lib.hid hn
  have HV := Lib.hid hv
  have hll := sizeEs_length l
  have hl0 : (l.length : Int) ≤ 4000000 := by omega
  obtain ⟨A, c, rfl, _⟩ := hv
  obtain ⟨bl, hbl⟩ : ∃ x, decide (0 < l.length) = x := ⟨_, rfl⟩
  have hem : l.isEmpty = !bl := by rw [← hbl]; cases l <;> simp
  unfold namT at HN ⊢
  rw [hem] at HN ⊢
  clear hW hS hn h hz hll hem
  cases bl
  case false =>
    have hnl : ¬ 0 < l.length := of_decide_eq_false hbl
    rw [if_pos (show (!false) = true from rfl)] at HN ⊢
    go_enter Tryd.func40, Tryd.ntmps40
    go_wp2_with fail
    go_at_call 20
    refine HW.out.mono ?_
    rintro e w1 ⟨rfl, h1, g1⟩
    have HA := Lib.hid h1
    have HK := Lib.hid g1
    clear h1 g1
    go_wp2
    go_end0
    exact ⟨rfl, HA.out, HK.out⟩
  case true =>
    have hnl : 0 < l.length := of_decide_eq_true hbl
    rw [if_neg (show ¬ (!true) = true by simp)] at HN ⊢
    obtain ⟨T, hT⟩ : ∃ T, paT m l = T := ⟨_, rfl⟩
    have hwa := HWa.out (.slice A l.length c) (bs ++ (n.data.toList ++ [32, 61]))
    rw [hT] at HN hwa ⊢
    have HWb := Lib.hid hwa
    clear hT hwa HWa
    go_enter Tryd.func40, Tryd.ntmps40
    go_wp2_with fail
    go_at_call 20
    refine HW.out.mono ?_
    rintro e w1 ⟨rfl, h1, g1⟩
    have HC := Lib.hid (HWb.out w1 (HS.out.step g1) HV.out h1 (by have := HN.out; simp at this ⊢; omega))
    have HK := Lib.hid g1
    clear h1 g1
    go_wp2_with fail
    go_at_call 49
    refine HC.out.mono ?_
    rintro e w2 ⟨rfl, h2, g2⟩
    have HA2 := Lib.hid h2
    have HK2 := Lib.hid (HK.out.trans g2)
    clear h2 g2
    go_wp2
    go_end0
    exact ⟨rfl, by simpa using HA2.out, HK2.out⟩
/-- An attribute. -/
def atT : AT → List UInt8
  | .mk n v => 10 :: 32 :: 32 :: 32 :: 32 :: 46 :: namT 8 n v
def atsN (l : List AT) : List UInt8 := l.flatMap atT
theorem atsN_take (l : List AT) (j : Nat) (x : AT) (h : l[j]? = some x) : atsN (l.take (j + 1)) = atsN (l.take j) ++ atT x := by
  rw [take_snoc l j x h]; simp [atsN]
theorem atsN_take_le (l : List AT) (j : Nat) : (atsN (l.take j)).length ≤ (atsN l).length := by
  have e : atsN l = atsN (l.take j) ++ atsN (l.drop j) := by
    unfold atsN
    rw [← List.flatMap_append, List.take_append_drop]
  rw [e, List.length_append]; omega
def gdTs (l : List AT) : Prop := ∀ n v, AT.mk n v ∈ l → v ≠ [] ∧ gdEs v = true
theorem atsN_eq : ∀ l : List AT, gdTs l → atsN l = atsT l
  | [], _ => by rw [atsT]; rfl
  | .mk n v :: r, h => by
    obtain ⟨h1, _⟩ := h n v (List.mem_cons_self ..)
    have ih := atsN_eq r (fun n v hm => h n v (List.mem_cons_of_mem _ hm))
    rw [atsT, ← ih]
    have e : v.isEmpty = false := by cases v with
      | nil => exact absurd rfl h1
      | cons x r => rfl
    have : atsN (AT.mk n v :: r) = atT (.mk n v) ++ atsN r := rfl
    rw [this]
    unfold atT namT
    dsimp only
    rw [e]
    simp
theorem szTs_get : ∀ (l : List AT) (j : Nat) (n : ByteArray) (v : List EL), l[j]? = some (.mk n v) → sizeEs v ≤ sizeTs l
  | [], j, n, v, h => by simp at h
  | .mk n' v' :: r, 0, n, v, h => by
    simp at h
    obtain ⟨rfl, rfl⟩ := h
    rw [sizeTs]; omega
  | .mk n' v' :: r, j + 1, n, v, h => by
    have := szTs_get r j n v (by simpa using h)
    rw [sizeTs]; omega
theorem at_at {W0 : World} {l : List AT} {v : Value} (hv : LieAt (TsAt W0 l) v l.length) {j : Nat} (hj : j < l.length) : ∃ b o c, v = .slice (some ⟨b, o, none⟩) l.length c ∧ b < W0.heap.size ∧ ∃ t p u, l[j]? = some (.mk t p) ∧ W0.cell? ⟨b, o + j * 2, none⟩ = some (.string t) ∧ W0.cell? ⟨b, o + j * 2 + 1, none⟩ = some u ∧ PatAt W0 p u := by
  obtain ⟨b, o, c, hv, hb, hcs⟩ := ats_get hv hj
  obtain ⟨t, p, he⟩ : ∃ t p, l[j]? = some (.mk t p) := by
    cases e : l[j] with
    | mk t p => exact ⟨t, p, by rw [List.getElem?_eq_getElem hj, e]⟩
  obtain ⟨h1, u, h2, h3⟩ := hcs j t p he
  exact ⟨b, o, c, hv, hb, t, p, u, he, h1, h2, h3⟩
/-- A message, or a term behind its hyphen. -/
def mesT (name : ByteArray) (val : List EL) (ats : List AT) : List UInt8 := namT 4 name val ++ (atsN ats ++ [10])
set_option maxHeartbeats 4000000 in
set_option maxRecDepth 100000 in
theorem wmes_any {W0 : World} (hM : MxW W0) {B b : Nat} {bs : List UInt8} (ty lv : Int) (tx nm : ByteArray) (val : List EL) (ats : List AT) (v u : Value) (fr tu : Int) (hv : PatAt W0 val v) (hu : LieAt (TsAt W0 ats) u ats.length) (hg : gdEs val = true) (hgt : gdTs ats) (hz : 8 + 2 * (sizeEs val + sizeTs ats) ≤ 4000000)
    (w : World) (hS : Sw W0 B b w) (h : WrAt B b bs w) (hn : bs.length + (mesT nm val ats).length ≤ 140737488355328) :
    Calls Tryd.prog 31 #[.pointer (some ⟨b, 0, none⟩), entV ty lv tx nm v u fr tu] w fun e w' => e = .returned (.tuple #[]) ∧ WrAt B b (bs ++ mesT nm val ats) w' ∧ Wk B b w w' := by
  have hat := sizeTs_length ats
  have hat0 : (ats.length : Int) ≤ 4000000 := by omega
  have HU := Lib.hid hu
  have HGt := Lib.hid hgt
  have HZ := Lib.hid hz
  have HS := Lib.hid hS
  have HN := Lib.hid hn
  have HH := Lib.hid h
  have HM := Lib.hid hM
  have hwn := fun W (h1 : Sw W0 B b W) (h2 : WrAt B b bs W) h3 => wnamed_any hM 4 nm val v hv hg (by omega) W h1 h2 h3
  obtain ⟨A, c, rfl, _⟩ := hv
  obtain ⟨A2, c2, rfl, _⟩ := hu
  unfold entV mesT at *
  obtain ⟨N, hNN⟩ : ∃ N, namT 4 nm val = N := ⟨_, rfl⟩
  rw [hNN] at HN ⊢
  simp only [hNN] at hwn
  have HWn := Lib.hid hwn
  have C0 := Lib.hid ((BoxAt.new w #[.int .i64 ty, .int .i64 lv, .string tx, .string nm, .slice A val.length c, .slice A2 ats.length c2, .int .i64 fr, .int .i64 tu] 29).alloc (.cells #[.string ⟨#[10]⟩] 9))
  have B0 := Lib.hid (BoxAt.new' (w.alloc (.cells #[.int .i64 ty, .int .i64 lv, .string tx, .string nm, .slice A val.length c, .slice A2 ats.length c2, .int .i64 fr, .int .i64 tu] 29)) (w.heap.size + 1) #[.string ⟨#[10]⟩] 9 (by simp))
  have HA0 := Lib.hid ((h.alloc (.cells #[.int .i64 ty, .int .i64 lv, .string tx, .string nm, .slice A val.length c, .slice A2 ats.length c2, .int .i64 fr, .int .i64 tu] 29)).alloc (.cells #[.string ⟨#[10]⟩] 9))
  have HK0 := Lib.hid (((Wk.refl B b w).alloc h.le (.cells #[.int .i64 ty, .int .i64 lv, .string tx, .string nm, .slice A val.length c, .slice A2 ats.length c2, .int .i64 fr, .int .i64 tu] 29)).alloc (h.alloc _).le (.cells #[.string ⟨#[10]⟩] 9))
  have HC := Lib.hid (HWn.out _ (HS.out.step HK0.out) HA0.out (by have := HN.out; simp at this ⊢; omega))
  clear hS hn h hM hNN hwn hgt hz hat HWn
  go_enter_defers Tryd.func31, Tryd.ntmps31
  go_wp2_with fail
  go_at_call 40
  refine HC.out.mono ?_
  rintro e w1 ⟨rfl, h1, g1⟩
  have hb0 : w.heap.size ≠ b := HA0.out.box_ne C0.out (by decide)
  have hb1 : w.heap.size + 1 ≠ b := HA0.out.box_ne B0.out (by decide)
  have C1 := Lib.hid (C0.out.wk g1 hb0 (by decide))
  have B1 := Lib.hid (B0.out.wk g1 hb1 (by decide))
  have HK1 := Lib.hid (HK0.out.trans g1)
  have d5 : w1.cell? ⟨w.heap.size, 5, none⟩ = some (.slice A2 ats.length c2) := C1.out.cell 5
  have hlt := C1.out.lt
  obtain ⟨X, hX⟩ : ∃ X, bs ++ N = X := ⟨_, rfl⟩
  have HXY := Lib.hid (show bs ++ (N ++ (atsN ats ++ [10])) = X ++ (atsN ats ++ [10]) by rw [← hX]; simp)
  have HA1 := Lib.hid (show WrAt B b (X ++ atsN (ats.take 0)) w1 by rw [← hX]; simpa [atsN] using h1)
  have HN1 := Lib.hid (show X.length + ((atsN ats).length + 1) ≤ 140737488355328 by have h2 := HN.out; rw [← List.length_append, HXY.out] at h2; simpa using h2)
  obtain ⟨Y, hY⟩ : ∃ Y, atsN ats = Y := ⟨_, rfl⟩
  clear h1 g1 hX HC HA0 HK0 B0 C0 HN
  go_wp2
  go_loopw [17] (fun t17 wr => ∃ j : Nat, t17 = .int .i64 j ∧ j ≤ ats.length ∧ Hid (WrAt B b (X ++ atsN (ats.take j)) wr) ∧ Hid (Wk B b w wr) ∧ Hid (BoxAt wr (w.heap.size + 1) #[.string ⟨#[10]⟩] 9)) (fun t17 _ => ats.length - (intOf t17).toNat)
  case atStart => exact ⟨0, rfl, Nat.zero_le _, HA1, HK1, B1⟩
  case round =>
    clear HA1 HK1 B1 d5 hlt C1
    obtain ⟨j, rfl, hj, HA, HK, HB⟩ := hrel
    have hj0 : (j : Int) ≤ 4000000 := by omega
    have hSr := HS.out.step HK.out
    by_cases hlt : j < ats.length
    · have d1 : decide ((j : Int) < (ats.length : Int)) = true := decide_eq_true (by omega)
      have d2 : (j : Int) < (ats.length : Int) := by omega
      obtain ⟨eb, eo, c', e, hb, t, p, u, hel, c0, c1, hpt⟩ := at_at HU.out hlt
      cases e
      have hpt' := hpt
      obtain ⟨A3, c3, rfl, _⟩ := hpt'
      rw [← hSr.hW.cell (p := ⟨eb, eo + j * 2, none⟩) hb] at c0
      rw [← hSr.hW.cell (p := ⟨eb, eo + j * 2 + 1, none⟩) hb] at c1
      have hbw : eb < wr.heap.size := Nat.lt_of_lt_of_le hb hSr.hW.size
      have hlen : (X ++ atsN (ats.take j)).length + (atT (.mk t p)).length ≤ 140737488355328 := by
        have h1 := atsN_take_le ats (j + 1)
        rw [atsN_take ats j _ hel, List.length_append] at h1
        have h2 := HN1.out
        rw [List.length_append]; omega
      obtain ⟨hpe, hpg⟩ := HGt.out t p (List.mem_of_getElem? hel)
      have hpz := szTs_get ats j t p hel
      have hzz := HZ.out
      have HT := Lib.hid (atsN_take ats j _ hel)
      have C3 := Lib.hid (BoxAt.new wr #[.string t, .slice A3 p.length c3] 52)
      have hw3 := write3 (bs := X ++ atsN (ats.take j)) ⟨#[10]⟩ ⟨#[32, 32, 32, 32]⟩ ⟨#[46]⟩ (wr.alloc (.cells #[.string t, .slice A3 p.length c3] 52)) (HA.out.alloc _) (by unfold atT at hlen; simp at hlen ⊢; show _ + (1 + (4 + 1)) ≤ _; omega)
      simp only [World.size_alloc] at hw3
      have HW3 := Lib.hid hw3
      have hwn := fun W (h1 : Sw W0 B b W) (h2 : WrAt B b (X ++ atsN (ats.take j) ++ ([10] ++ ([32, 32, 32, 32] ++ [46]))) W) h3 => wnamed_any HM.out 8 t p (.slice A3 p.length c3) hpt hpg (by omega) W h1 h2 h3
      have HL := Lib.hid hlen
      have hatT : atT (.mk t p) = ([10] ++ ([32, 32, 32, 32] ++ [46])) ++ namT 8 t p := rfl
      obtain ⟨N8, hN8⟩ : ∃ N, namT 8 t p = N := ⟨_, rfl⟩
      rw [hN8] at hatT
      simp only [hN8] at hwn
      have HatT := Lib.hid hatT
      have HWn := Lib.hid hwn
      have hb3 : wr.heap.size ≠ b := (HA.out.alloc (.cells #[.string t, .slice A3 p.length c3] 52)).box_ne C3.out (by decide)
      have HKa := Lib.hid (HK.out.alloc HA.out.le (.cells #[.string t, .slice A3 p.length c3] 52))
      have HBa := Lib.hid (HB.out.alloc (.cells #[.string t, .slice A3 p.length c3] 52))
      clear hel hpt hlen hSr hpe hpg hpz hzz hw3 hwn hatT hN8
      go_wp2_with fail
      go_at_call 20
      refine HW3.out.mono ?_
      rintro e w3 ⟨rfl, h3, g3⟩
      have C4 := Lib.hid (C3.out.wk g3 hb3 (by decide))
      have HK3 := Lib.hid (HKa.out.trans g3)
      have HB3 := Lib.hid (HBa.out.wk g3 hb1 (by decide))
      have e0 : w3.cell? ⟨wr.heap.size, 0, none⟩ = some (.string t) := C4.out.cell 0
      have e1 : w3.cell? ⟨wr.heap.size, 1, none⟩ = some (.slice A3 p.length c3) := C4.out.cell 1
      have hl3 := C4.out.lt
      have HC := Lib.hid (HWn.out w3 (HS.out.step HK3.out) h3 (by have := HL.out; rw [HatT.out] at this; simp at this ⊢; omega))
      clear h3 g3
      go_wp2_with fail
      go_at_call 40
      refine HC.out.mono ?_
      rintro e w4 ⟨rfl, h4, g4⟩
      have HA4 := Lib.hid h4
      have HK4 := Lib.hid (HK3.out.trans g4)
      have HB4 := Lib.hid (HB3.out.wk g4 hb1 (by decide))
      clear h4 g4
      go_wp2
      go_roundw
      case rel => exact ⟨j + 1, by go_num, hlt, Lib.hid (by rw [HT.out, HatT.out]; have := HA4.out; simpa using this), HK4, HB4⟩
      case measure => simp [intOf]; omega
    · obtain rfl : j = ats.length := by omega
      have d1 : decide ((ats.length : Int) < (ats.length : Int)) = false := decide_eq_false (by omega)
      have hA := HA.out
      rw [List.take_of_length_le (Nat.le_refl _)] at hA
      have HA2 := Lib.hid hA
      clear hA hSr
      go_wp2
      refine leaves_cons (f := 20) (args := #[.pointer (some ⟨b, 0, none⟩), .slice (some ⟨w.heap.size + 1, 0, none⟩) 1 1]) (by simp) (by simp [go_sem]) ?_
      refine (writeD ⟨#[10]⟩ (w.heap.size + 1) 1 .returning wr HA2.out HB.out (by have := HN1.out; rw [List.length_append]; show _ + 1 ≤ _; omega)).mono ?_
      rintro e u' w6 ⟨rfl, rfl, h6, g6⟩
      simp [Leaves, settle, results, Tryd.results31]
      refine ⟨?_, HK.out.trans g6⟩
      have h7 := HXY.out
      have h8 := h6
      rw [List.append_assoc] at h8
      have h9 : WrAt B b (bs ++ (N ++ (atsN ats ++ [10]))) w6 := by rw [h7]; exact h8
      simpa using h9
end Go.Proofs.YtminidoiaplhjaaDoor
