/-
  Package serial: variants; write, put off.
-/
import Derived.Test.YtminidoiaplhjaaDoorZm
import Derived.Defers
namespace Go.Proofs.YtminidoiaplhjaaDoor
open Go.RowKit
set_option linter.unusedVariables false
set_option linter.unusedSimpArgs false

set_option maxHeartbeats 2000000 in
set_option maxRecDepth 100000 in
/-- A piece is written by a call that was put off. -/
theorem writeD {B b : Nat} {bs : List UInt8} (p : ByteArray) (a n : Nat) (u : FrameMode) (w : World) (h : WrAt B b bs w) (hbx : BoxAt w a #[.string p] 9) (hn : bs.length + p.size ≤ 140737488355328) :
    CallsD Tryd.prog 20 #[.pointer (some ⟨b, 0, none⟩), .slice (some ⟨a, 0, none⟩) 1 n] u w fun e u' w' => u' = u ∧ (e = .returned (.tuple #[]) ∧ WrAt B b (bs ++ p.data.toList) w' ∧ Wk B b w w') := by
  have HW := Lib.hid (fun (cs : List UInt8) (s : ByteArray) (W : World) (g : WrAt B b cs W) (hz : cs.length + s.size ≤ 140737488355328) => writeS_any s W g hz)
  have H := Lib.hid h
  have HX := Lib.hid hbx
  have HN := Lib.hid hn
  have hne := h.box_ne hbx (by decide)
  clear h hbx hn
  go_enter_d Tryd.func20, Tryd.ntmps20
  go_wp2
  go_loopw [8] (fun t8 wr => ∃ j : Nat, t8 = .int .i64 j ∧ ((j = 0 ∧ wr = w) ∨ (j = 1 ∧ Hid (WrAt B b (bs ++ p.data.toList) wr) ∧ Hid (Wk B b w wr)))) (fun t8 _ => 1 - (intOf t8).toNat)
  case atStart => exact ⟨0, rfl, .inl ⟨rfl, rfl⟩⟩
  case round =>
    obtain ⟨j, rfl, ⟨rfl, rfl⟩ | ⟨rfl, HA, HK⟩⟩ := hrel
    · have c0 : wr.cell? ⟨a, 0, none⟩ = some (.string p) := by rw [HX.out.cell]; rfl
      have hal := HX.out.lt
      have hbl := H.out.lt
      go_wp2_with fail
      go_at_call 29
      refine (HW.out _ _ _ H.out HN.out).mono ?_
      rintro e w1 ⟨rfl, h1, h2⟩
      have HA1 := Lib.hid h1
      have HK1 := Lib.hid h2
      clear h1 h2
      go_wp2
      go_roundw
      case rel => exact ⟨1, by go_num, .inr ⟨rfl, HA1, HK1⟩⟩
      case measure => simp [intOf]
    · go_wp2
      go_end0
      first | exact ⟨rfl, rfl, HA.out, HK.out⟩ | exact ⟨rfl, HA.out, HK.out⟩
theorem variT (m : Nat) (k : ByteArray) (d : Bool) (v : List EL) (r : List VA) : vsT m (.mk k d v :: r) = (10 :: (sps (m + 3) ++ ((if d then 42 else 32) :: 91 :: (k.data.toList ++ (93 :: paT (m + 8) v))))) ++ vsT m r := by
  rw [vsT, paT]
def vaT (m : Nat) : VA → List UInt8
  | .mk k d v => 10 :: (sps (m + 3) ++ ((if d then 42 else 32) :: 91 :: (k.data.toList ++ (93 :: paT (m + 8) v))))
theorem vsT_app (m : Nat) : ∀ a b : List VA, vsT m (a ++ b) = vsT m a ++ vsT m b
  | [], b => by rw [List.nil_append, vsT, List.nil_append]
  | .mk k d v :: r, b => by rw [List.cons_append, variT, variT, vsT_app m r b, List.append_assoc]
theorem vsT_take (m : Nat) (l : List VA) (j : Nat) (x : VA) (h : l[j]? = some x) : vsT m (l.take (j + 1)) = vsT m (l.take j) ++ vaT m x := by
  rw [take_snoc l j x h, vsT_app]
  congr 1
  obtain ⟨k, d, v⟩ := x
  rw [variT, vsT, List.append_nil]
  rfl
theorem vsT_take_le (m : Nat) (l : List VA) (j : Nat) : (vsT m (l.take j)).length ≤ (vsT m l).length := by
  have := congrArg List.length (vsT_app m (l.take j) (l.drop j))
  rw [List.take_append_drop, List.length_append] at this
  omega
theorem sps_add (m n : Nat) : sps (m + n) = sps m ++ sps n := by simp [sps]
set_option maxHeartbeats 1000000 in
set_option maxRecDepth 100000 in
theorem wvar_any {W0 : World} {B b m : Nat} {bs : List UInt8} (hm : m ≤ 4000000) (k : ByteArray) (d : Bool) (l : List EL) (v : Value) (hv : PatAt W0 l v) (hP : WaTo W0 B b (m + 8) l) (w : World) (hS : Sw W0 B b w) (h : WrAt B b bs w) (hn : bs.length + (vaT m (.mk k d l)).length ≤ 140737488355328) :
    Calls Tryd.prog 72 #[.pointer (some ⟨b, 0, none⟩), .agg #[.string k, .bool d, v], .string (mgB m)] w fun e w' => e = .returned (.tuple #[]) ∧ WrAt B b (bs ++ vaT m (.mk k d l)) w' ∧ Wk B b w w' := by
  have hx : ∃ X : List UInt8, X = [10] ++ (sps m ++ ([32, 32, 32] ++ ((if d then [42] else [32]) ++ ([91] ++ (k.data.toList ++ [93]))))) ∧ vaT m (.mk k d l) = X ++ paT (m + 8) l := by
    refine ⟨_, rfl, ?_⟩
    unfold vaT
    dsimp only
    rw [sps_add]
    cases d <;> simp [sps]
  obtain ⟨X, hX, hT⟩ := hx
  rw [hT] at hn ⊢
  have hmg : mgB m ++ ⟨#[32, 32, 32, 32, 32, 32, 32, 32]⟩ = mgB (m + 8) := mgB_add m 8
  have hmz : (mgB m).size = m := mgB_size m
  have hz : ¬ 9223372036854775807 < (mgB m).size + 8 := by omega
  have hlen : bs.length + X.length ≤ 140737488355328 := by rw [List.length_append] at hn; omega
  have hXl : X.length = 1 + (m + (3 + (1 + (1 + (k.size + 1))))) := by
    rw [hX]
    cases d <;> simp [sps] <;> omega
  have HN := Lib.hid hn
  have HS := Lib.hid hS
  have HP := Lib.hid hP
  have HV := Lib.hid hv
  have HH := Lib.hid h
  have HMG := Lib.hid hmg
  have HXe := Lib.hid hX
  obtain ⟨A, c, rfl, _⟩ := hv
  have C0 := Lib.hid (BoxAt.new w #[.string k, .bool d, .slice A l.length c] 73)
  have hlt0 := h.lt
  have hwr := fun x (hx : (x : ByteArray).size = 1) => write7 ⟨#[10]⟩ (mgB m) ⟨#[32, 32, 32]⟩ x ⟨#[91]⟩ k ⟨#[93]⟩ (w.alloc (.cells #[.string k, .bool d, .slice A l.length c] 73)) (h.alloc _) (by rw [hmz, hx]; show _ + (1 + (_ + (3 + (_ + (1 + (_ + 1)))))) ≤ _; omega)
  simp only [World.size_alloc] at hwr
  clear hT hn hS hP h hmg hlen hXl hX hmz
  cases d
  case false =>
    have HW := Lib.hid (hwr ⟨#[32]⟩ rfl)
    clear hwr
    go_enter Tryd.func72, Tryd.ntmps72
    go_wp2_with fail
    go_at_call 20
    refine HW.out.mono ?_
    rintro e w1 ⟨rfl, h1, g1⟩
    have h1' : WrAt B b (bs ++ X) w1 := by have := h1; rw [HXe.out]; simpa [mgB_data] using this
    have HA1 := Lib.hid h1'
    have HK1 := Lib.hid (((Wk.refl B b w).alloc HH.out.le (.cells #[.string k, .bool false, .slice A l.length c] 73)).trans g1)
    have C1 := Lib.hid (C0.out.wk g1 ((HH.out.alloc _).box_ne C0.out (by decide)) (by decide))
    have hw1 : w.heap.size < w1.heap.size := C1.out.lt
    have e2 : w1.cell? ⟨w.heap.size, 2, none⟩ = some (.slice A l.length c) := C1.out.cell 2
    clear h1 g1 h1'
    have HC := Lib.hid (HP.out (.slice A l.length c) (bs ++ X) w1 (HS.out.step HK1.out) HV.out HA1.out (by have := HN.out; rw [List.length_append] at this ⊢; omega))
    go_wp2_with fail
    rw [HMG.out]
    go_at_call 49
    refine HC.out.mono ?_
    rintro e w2 ⟨rfl, h2, g2⟩
    have HA2 := Lib.hid h2
    have HK2 := Lib.hid (HK1.out.trans g2)
    clear h2 g2
    go_wp2
    go_end0
    exact ⟨rfl, by rw [← List.append_assoc]; exact HA2.out, HK2.out⟩
  case true =>
    have HW := Lib.hid (hwr ⟨#[42]⟩ rfl)
    clear hwr
    go_enter Tryd.func72, Tryd.ntmps72
    go_wp2_with fail
    go_at_call 20
    refine HW.out.mono ?_
    rintro e w1 ⟨rfl, h1, g1⟩
    have h1' : WrAt B b (bs ++ X) w1 := by have := h1; rw [HXe.out]; simpa [mgB_data] using this
    have HA1 := Lib.hid h1'
    have HK1 := Lib.hid (((Wk.refl B b w).alloc HH.out.le (.cells #[.string k, .bool true, .slice A l.length c] 73)).trans g1)
    have C1 := Lib.hid (C0.out.wk g1 ((HH.out.alloc _).box_ne C0.out (by decide)) (by decide))
    have hw1 : w.heap.size < w1.heap.size := C1.out.lt
    have e2 : w1.cell? ⟨w.heap.size, 2, none⟩ = some (.slice A l.length c) := C1.out.cell 2
    clear h1 g1 h1'
    have HC := Lib.hid (HP.out (.slice A l.length c) (bs ++ X) w1 (HS.out.step HK1.out) HV.out HA1.out (by have := HN.out; rw [List.length_append] at this ⊢; omega))
    go_wp2_with fail
    rw [HMG.out]
    go_at_call 49
    refine HC.out.mono ?_
    rintro e w2 ⟨rfl, h2, g2⟩
    have HA2 := Lib.hid h2
    have HK2 := Lib.hid (HK1.out.trans g2)
    clear h2 g2
    go_wp2
    go_end0
    exact ⟨rfl, by rw [← List.append_assoc]; exact HA2.out, HK2.out⟩
end Go.Proofs.YtminidoiaplhjaaDoor
