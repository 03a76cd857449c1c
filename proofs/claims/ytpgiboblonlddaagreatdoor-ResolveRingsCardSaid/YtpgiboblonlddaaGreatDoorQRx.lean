/-
  ResolveRings' walk (written by bin/gen_rx.py).
-/
import Derived.Test.YtpgiboblonlddaaGreatDoorQRu
import Derived.Test.YtpgiboblonlddaaGreatDoorQ45
import Derived.Lib.ConvBytes
namespace Go.Proofs.YtpgiboblonlddaaGreatDoor
open Go.RowKit Go.ChangeMaps
set_option linter.unusedVariables false
set_option linter.unusedSimpArgs false

theorem held_weaken {P : Program} {md : Region.Mode} {ops : Array Oper} {Q : Exit → Act → World → Prop} {S S2 : World → Prop} (hS : ∀ w, S2 w → S w) : ∀ (fuel : Nat) (l : Array Bool) (a : Act) (w : World), wpAnyH P md ops Q S2 fuel l a w → wpAnyH P md ops Q S fuel l a w
  | 0, _, _, _, h => h
  | fuel + 1, l, a, w, h => ⟨h.1, fun i hi => wpOp_mono (fun a' w' h' => ⟨hS _ h'.1, held_weaken hS fuel _ a' w' h'.2⟩) (h.2 i hi)⟩
theorem one_byte (W : World) (A : Nat) (z : Int) (b : UInt8) (hz : z = (b.toNat : Int)) (h : BoxAt W A #[.int .u8 z] 5) : (convert 24 9 (.slice (some ⟨A, 0, none⟩) 1 1)).run Tryz.prog W = .ok (.string ⟨#[b]⟩) W := by
  refine conv_bytes ⟨#[b]⟩ A 1 W (fun i hi => ?_)
  have hi1 : i < 1 := hi
  obtain rfl : i = 0 := by omega
  have := h.cell 0
  rw [Nat.zero_add, this, hz]
  rfl
theorem and15 (x : Int) : ∃ j : Nat, j ≤ 15 ∧ bits BinOp.and IntKind.i64 x 15 = (j : Int) := by
  refine ⟨(BitVec.ofInt 64 x).toNat &&& 15, Nat.and_le_right, ?_⟩
  have h : (BitVec.ofInt 64 x).toNat &&& 15 ≤ 15 := Nat.and_le_right
  simp only [bits, BitVec.toNat_and]
  show IntKind.i64.wrap (((BitVec.ofInt 64 x).toNat &&& (BitVec.ofInt 64 15).toNat : Nat) : Int) = _
  rw [show (BitVec.ofInt 64 15).toNat = 15 by decide]
  generalize (BitVec.ofInt 64 x).toNat &&& 15 = y at *
  exact IntWalk.i64_in _ (by omega)
theorem byte_of (k : Nat) (hk : k < 256) : ((k : Nat) : Int) = ((UInt8.ofNat k).toNat : Int) := by
  simp only [UInt8.toNat_ofNat']
  rw [Nat.mod_eq_of_lt hk]
theorem first_ring (N i : Nat) (hN : N ≤ 16) (hi : i < N) : ∀ k a, a + k ≤ N → (a ≤ i → i < a + k → firstT 1 (nmR i) ((List.range' a k).map (enR N)) = some (enR N i))
  | 0, a, _, h1, h2 => by omega
  | k + 1, a, ha, h1, h2 => by
    rw [List.range'_succ, List.map_cons]
    by_cases e : a = i
    · subst e
      rw [firstT, if_pos ⟨rfl, rfl⟩]
    · rw [firstT, if_neg (fun h => e (nmR_inj (by omega) (by omega) h.2))]
      exact first_ring N i hN hi k (a + 1) (by omega) (by omega) (by omega)
theorem ring_ent {N : Nat} {vs : List VE} (hN : N ≤ 16) (hv : vs.map (·.x) = ensR N) (T : List VE) (i : Nat) (hi : i < N) : ∃ x, entB (putS 1 false vs []) T false (nmR i) = some x ∧ x.pat E0 = (true, patR N i) := by
  have h := look_kept 1 (nmR i) vs []
  rw [hv] at h
  unfold ensR at h
  rw [List.range_eq_range', first_ring N i hN hi N 0 (by omega) (by omega) (by omega)] at h
  have h2 : (lookL (nmR i) (putS 1 false vs [])).map (·.x) = some (enR N i) := h
  obtain ⟨e, he, hx⟩ := Option.map_eq_some_iff.1 h2
  refine ⟨entE e, ?_, ?_⟩
  · unfold entB
    rw [if_neg (by decide), he]
    rfl
  · show attrF e.x.val e.x.ats E0 = _
    rw [hx]
    rfl
theorem ring_size {N : Nat} {vs : List VE} (hv : vs.map (·.x) = ensR N) (ty : Int) : ∀ e ∈ putS ty false vs [], sizeEs e.x.val + sizeTs e.x.ats ≤ 4000000 :=
  putS_all ty false (fun e => sizeEs e.x.val + sizeTs e.x.ats ≤ 4000000) vs [] (fun e he => by
    have h : e.x ∈ vs.map (·.x) := List.mem_map_of_mem he
    rw [hv] at h
    obtain ⟨i, _, hi⟩ := List.mem_map.1 h
    rw [← hi]
    exact of_decide_eq_true (by kernel_rfl)) (fun e he => by cases he)
theorem ring_all (R : RL) (hS : R.str = strT) (n f : Nat) (hn : n ≤ 16) (hf : f < n) (hE : ∀ i, i < n → ∃ x, R.ent false (nmR i) = some x ∧ x.pat E0 = (true, patR n i)) :
    namedG (placeG R n) (nmR f) (patR n f) [] [] ⟨0, [], 0⟩ = some (⟨(wantL f n n).toArray⟩ ++ ⟨#[123]⟩ ++ nmR f ++ ⟨#[125]⟩, ⟨n, [(7, nmR f)], 0⟩) := by
  have hw := want_ring f n n 0
  rw [Nat.zero_add] at hw
  obtain ⟨k, rfl⟩ : ∃ k, n = k + 1 := ⟨n - 1, by omega⟩
  have h := ring_spec R hS (k + 1) f hn hf hE k 0 (by omega)
  rw [show (f + 0) % (k + 1) = f from Nat.mod_eq_of_lt hf] at h
  refine h.trans ?_
  have hb : (⟨(ringT f (k + 1) (k + 1) 0).toArray⟩ : ByteArray) = ⟨(wantL f (k + 1) (k + 1)).toArray⟩ ++ ⟨#[123]⟩ ++ nmR f ++ ⟨#[125]⟩ := by
    apply bytes_eq
    simp only [app_data]
    rw [show ringT f (k + 1) (k + 1) 0 = wantL f (k + 1) (k + 1) ++ ringT f (k + 1) 0 (k + 1) from hw]
    simp [ringT]
  rw [hb]
theorem err_lit2 (c : Int) (s : ByteArray) (w : World) : ErAt (w.alloc (.cells #[.int .i64 c, .string s] 59)) (some ⟨w.heap.size, 0, none⟩) [(c, s)] := fun _ => by
  have hb : BoxAt (w.alloc (.cells #[.int .i64 c, .string s] 59)) w.heap.size #[.int .i64 c, .string s] 59 := BoxAt.new _ _ _
  refine ⟨_, rfl, hb.lt, fun j u hj => ?_⟩
  match j, hj with
  | 0, hj => simp [erC] at hj; subst hj; exact hb.cell 0
  | 1, hj => simp [erC] at hj; subst hj; exact hb.cell 1
theorem bytes_world (w : World) (s : ByteArray) : Lib.Bytes (Lib.bytesWorld w 5 s) w.heap.size 0 s := fun i hi => by
  rw [Nat.zero_add, Lib.bytesWorld_cell w _ s i hi]
  congr 2
  simp [List.getD, hi]
  rfl
theorem below_bytes (w : World) (s : ByteArray) : Below w.heap.size w (Lib.bytesWorld w 5 s) :=
  ⟨rfl, rfl, rfl, by rw [Lib.bytesWorld_size]; omega, fun k hk => Lib.bytesWorld_at_old w _ s k hk⟩
theorem res_lit2 (w w0 : World) (s : ByteArray) (n c : Nat) (h : Lib.Bytes w0 n 0 s) (hn : n < w0.heap.size) : ResAt w0 (some ⟨n, 0, none⟩) s c := fun W hW => conv_bytes s n c W (bytes_same h (hW.block n hn))
set_option maxHeartbeats 16000000 in
set_option maxRecDepth 100000 in
theorem rings_any (n fr : Int) (w : World) : Calls Tryz.prog 3 #[.int .i64 n, .int .i64 fr] w fun e w' => e = .returned (.bool true) ∧ Below w.heap.size w w' := by
  obtain ⟨jj, hj15, hj⟩ := and15 n
  have hji : (jj : Int) ≤ 15 := by omega
  have hj0 : (0 : Int) ≤ (jj : Int) := by omega
  go_enter Tryz.func3, Tryz.ntmps3
  go_wp2_with fail
  go_at_call 8
  refine (head16_any _).mono ?_
  rintro e w1 ⟨rfl, hb1⟩
  have B1 := Lib.hid hb1
  clear hb1
  go_wp2
  obtain ⟨N, hN⟩ : ∃ N : Nat, N = 1 + jj := ⟨_, rfl⟩
  have hNN : (1 : Int) + (jj : Int) = (N : Int) := by omega
  have hN1 : 1 ≤ N := by omega
  have hN16 : N ≤ 16 := by omega
  obtain ⟨f, hf, hfe⟩ : ∃ f : Nat, f < N ∧ wrap64 ((IntKind.u64.wrap fr).tmod (1 + (jj : Int))) = (f : Int) := by
    rw [hNN]
    have h0 := wrap_u64_nonneg fr
    have h1 : 0 ≤ (IntKind.u64.wrap fr).tmod (N : Int) := Int.tmod_nonneg _ h0
    have h2 : (IntKind.u64.wrap fr).tmod (N : Int) < (N : Int) := Int.tmod_lt_of_pos _ (by omega)
    refine ⟨((IntKind.u64.wrap fr).tmod (N : Int)).toNat, by omega, ?_⟩
    rw [Int.toNat_of_nonneg h1, IntWalk.wrap64_in _ (by omega)]
  rw [hfe, hNN]
  have hNi : (N : Int) ≤ 16 := by omega
  have hNp : (1 : Int) ≤ (N : Int) := by omega
  generalize (IntKind.u64.wrap fr).tmod (1 + (jj : Int)) = zz
  clear hj hNN hN hj15 hji hj0 hfe
  go_loopw [5, 6] (fun t5 t6 wr => ∃ (i : Nat), t6 = .int .i64 i ∧ t5 = .string (ringB N i) ∧ i ≤ N ∧ Hid (Below w.heap.size w wr)) (fun _ t6 _ => N - (intOf t6).toNat)
  case atStart => exact ⟨0, rfl, rfl, Nat.zero_le _, B1⟩
  case round =>
    obtain ⟨i, rfl, rfl, hi, HB⟩ := hrel
    have hi0 : (i : Int) ≤ 16 := by omega
    by_cases hlt : i < N
    · have f1 : decide ((i : Int) < (N : Int)) = true := decide_eq_true (by omega)
      have hsz : (ringB N i).size = 13 * i := ringB_size N i
      have HNx := Lib.hid (show ringB N i ++ ⟨(lineR N i).toArray⟩ = ringB N (i + 1) from by
        apply bytes_eq
        rw [app_data]
        rfl)
      obtain ⟨m, hm⟩ : ∃ m, m = (i + 1) % N := ⟨_, rfl⟩
      have hmN : m < N := by rw [hm]; exact Nat.mod_lt _ (by omega)
      have htm : ((i : Int) + 1).tmod (N : Int) = (m : Int) := by
        rw [hm]
        rw [Int.tmod_eq_emod_of_nonneg (by omega)]
        rfl
      have hmi : (m : Int) ≤ 15 := by omega
      have hi15 : (i : Int) ≤ 15 := by omega
      have HS0 := Lib.hid (show (ringB N i).size ≤ 300 by omega)
      have hln : (lineR N i) = [109, UInt8.ofNat (97 + i), 32, 61, 32, UInt8.ofNat (65 + i), 123, 32, 109, UInt8.ofNat (97 + m), 32, 125, 10] := by unfold lineR ltR; rw [← hm]
      rw [hln] at HNx
      generalize ringB N i = s at *
      have e1 : (97 : Int) + (i : Int) = ((UInt8.ofNat (97 + i)).toNat : Int) := by have := byte_of (97 + i) (by omega); omega
      have e2 : (65 : Int) + (i : Int) = ((UInt8.ofNat (65 + i)).toNat : Int) := by have := byte_of (65 + i) (by omega); omega
      have e3 : (97 : Int) + (m : Int) = ((UInt8.ofNat (97 + m)).toNat : Int) := by have := byte_of (97 + m) (by omega); omega
      generalize UInt8.ofNat (97 + i) = b1 at *
      generalize UInt8.ofNat (65 + i) = b2 at *
      generalize UInt8.ofNat (97 + m) = b3 at *
      have HNx := Lib.hid (show s ++ ⟨#[109]⟩ ++ ⟨#[b1]⟩ ++ ⟨#[32, 61, 32]⟩ ++ ⟨#[b2]⟩ ++ ⟨#[123, 32, 109]⟩ ++ ⟨#[b3]⟩ ++ ⟨#[32, 125, 10]⟩ = ringB N (i + 1) from by
        rw [← HNx.out]
        apply bytes_eq
        simp only [app_data]
        simp)
      have E1 := Lib.hid e1
      have E2 := Lib.hid e2
      have E3 := Lib.hid e3
      clear hln e1 e2 e3
      have hc1 : ¬ 9223372036854775807 < s.size + 1 := by have := HS0.out; omega
      have hc2 : ¬ 9223372036854775807 < s.size + 1 + 1 := by have := HS0.out; omega
      have hc3 : ¬ 9223372036854775807 < s.size + 1 + 1 + 3 := by have := HS0.out; omega
      have hc4 : ¬ 9223372036854775807 < s.size + 1 + 1 + 3 + 1 := by have := HS0.out; omega
      have hc5 : ¬ 9223372036854775807 < s.size + 1 + 1 + 3 + 1 + 3 := by have := HS0.out; omega
      have hc6 : ¬ 9223372036854775807 < s.size + 1 + 1 + 3 + 1 + 3 + 1 := by have := HS0.out; omega
      have hc7 : ¬ 9223372036854775807 < s.size + 1 + 1 + 3 + 1 + 3 + 1 + 3 := by have := HS0.out; omega
      have hN0 : ¬ N = 0 := by omega
      clear hsz hm
      go_wp2_with fail
      refine wp_region_held_drew (S := (fun _ => True)) (by kernel_rfl) trivial (fun hHeld => ?_)
      refine wpAnyH_take (i := 0) (v := ?_) rfl (by kernel_rfl) (by kernel_rfl) (by kernel_rfl) (fun _ _ _ h => h) (Or.inl ⟨by kernel_rfl, ?_⟩) (by assumption) ?_
      rotate_left
      · intro w0 hSw; (try dsimp only at hSw); (go_simp <;> with_reducible rfl)
      try simp only [Act.put, List.setIfInBounds_toArray, List.set_cons_zero, List.set_cons_succ]
      refine wpAnyH_take (i := 1) (v := .string (s ++ ⟨#[109]⟩)) rfl (by kernel_rfl) (by kernel_rfl) (by kernel_rfl) (fun _ _ _ h => h) (Or.inl ⟨by kernel_rfl, ?_⟩) (by assumption) ?_
      · intro w0 hSw; go_simp <;> first | (with_reducible rfl) | (rw [if_neg hc1])
      try simp only [Act.put, List.setIfInBounds_toArray, List.set_cons_zero, List.set_cons_succ]
      refine wpAnyH_take (i := 2) (v := ?_) rfl (by kernel_rfl) (by kernel_rfl) (by kernel_rfl) (fun _ _ _ h => h) (Or.inl ⟨by kernel_rfl, ?_⟩) (by assumption) ?_
      rotate_left
      · intro w0 hSw; (try dsimp only at hSw); (go_simp <;> with_reducible rfl)
      try simp only [Act.put, List.setIfInBounds_toArray, List.set_cons_zero, List.set_cons_succ]
      refine wpAnyH_take (i := 3) (v := .int .i64 (97 + (i : Int))) rfl (by kernel_rfl) (by kernel_rfl) (by kernel_rfl) (fun _ _ _ h => h) (Or.inl ⟨by kernel_rfl, ?_⟩) (by assumption) ?_
      · intro w0 hSw; go_simp <;> first | (with_reducible rfl) | (rw [IntWalk.i64_in _ (by omega)])
      try simp only [Act.put, List.setIfInBounds_toArray, List.set_cons_zero, List.set_cons_succ]
      refine wpAnyH_take (i := 4) (v := .int .u8 (97 + (i : Int))) rfl (by kernel_rfl) (by kernel_rfl) (by kernel_rfl) (fun _ _ _ h => h) (Or.inl ⟨by kernel_rfl, ?_⟩) (by assumption) ?_
      · intro w0 hSw; go_simp <;> first | (with_reducible rfl) | (rw [IntWalk.u8_in _ (by omega)])
      try simp only [Act.put, List.setIfInBounds_toArray, List.set_cons_zero, List.set_cons_succ]
      refine wpAnyH_take (i := 9) (v := ?_) rfl (by kernel_rfl) (by kernel_rfl) (by kernel_rfl) (fun _ _ _ h => h) (Or.inl ⟨by kernel_rfl, ?_⟩) (by assumption) ?_
      rotate_left
      · intro w0 hSw; (try dsimp only at hSw); (go_simp <;> with_reducible rfl)
      try simp only [Act.put, List.setIfInBounds_toArray, List.set_cons_zero, List.set_cons_succ]
      refine wpAnyH_take (i := 10) (v := .int .i64 (65 + (i : Int))) rfl (by kernel_rfl) (by kernel_rfl) (by kernel_rfl) (fun _ _ _ h => h) (Or.inl ⟨by kernel_rfl, ?_⟩) (by assumption) ?_
      · intro w0 hSw; go_simp <;> first | (with_reducible rfl) | (rw [IntWalk.i64_in _ (by omega)])
      try simp only [Act.put, List.setIfInBounds_toArray, List.set_cons_zero, List.set_cons_succ]
      refine wpAnyH_take (i := 11) (v := .int .u8 (65 + (i : Int))) rfl (by kernel_rfl) (by kernel_rfl) (by kernel_rfl) (fun _ _ _ h => h) (Or.inl ⟨by kernel_rfl, ?_⟩) (by assumption) ?_
      · intro w0 hSw; go_simp <;> first | (with_reducible rfl) | (rw [IntWalk.u8_in _ (by omega)])
      try simp only [Act.put, List.setIfInBounds_toArray, List.set_cons_zero, List.set_cons_succ]
      refine wpAnyH_take (i := 16) (v := ?_) rfl (by kernel_rfl) (by kernel_rfl) (by kernel_rfl) (fun _ _ _ h => h) (Or.inl ⟨by kernel_rfl, ?_⟩) (by assumption) ?_
      rotate_left
      · intro w0 hSw; (try dsimp only at hSw); (go_simp <;> with_reducible rfl)
      try simp only [Act.put, List.setIfInBounds_toArray, List.set_cons_zero, List.set_cons_succ]
      refine wpAnyH_take (i := 17) (v := .int .i64 ((i : Int) + 1)) rfl (by kernel_rfl) (by kernel_rfl) (by kernel_rfl) (fun _ _ _ h => h) (Or.inl ⟨by kernel_rfl, ?_⟩) (by assumption) ?_
      · intro w0 hSw; go_simp <;> first | (with_reducible rfl) | (rw [IntWalk.i64_in _ (by omega)])
      try simp only [Act.put, List.setIfInBounds_toArray, List.set_cons_zero, List.set_cons_succ]
      refine wpAnyH_take (i := 18) (v := ?_) rfl (by kernel_rfl) (by kernel_rfl) (by kernel_rfl) (fun _ _ _ h => h) (Or.inl ⟨by kernel_rfl, ?_⟩) (by assumption) ?_
      rotate_left
      · intro w0 hSw; (try dsimp only at hSw); (go_simp <;> with_reducible rfl)
      try simp only [Act.put, List.setIfInBounds_toArray, List.set_cons_zero, List.set_cons_succ]
      refine wpAnyH_take (i := 19) (v := .int .i64 (m : Int)) rfl (by kernel_rfl) (by kernel_rfl) (by kernel_rfl) (fun _ _ _ h => h) (Or.inl ⟨by kernel_rfl, ?_⟩) (by assumption) ?_
      · intro w0 hSw; go_simp <;> first | (with_reducible rfl) | (rw [if_neg hN0, htm])
      try simp only [Act.put, List.setIfInBounds_toArray, List.set_cons_zero, List.set_cons_succ]
      refine wpAnyH_take (i := 20) (v := .int .i64 (97 + (m : Int))) rfl (by kernel_rfl) (by kernel_rfl) (by kernel_rfl) (fun _ _ _ h => h) (Or.inl ⟨by kernel_rfl, ?_⟩) (by assumption) ?_
      · intro w0 hSw; go_simp <;> first | (with_reducible rfl) | (rw [IntWalk.i64_in _ (by omega)])
      try simp only [Act.put, List.setIfInBounds_toArray, List.set_cons_zero, List.set_cons_succ]
      refine wpAnyH_take (i := 21) (v := .int .u8 (97 + (m : Int))) rfl (by kernel_rfl) (by kernel_rfl) (by kernel_rfl) (fun _ _ _ h => h) (Or.inl ⟨by kernel_rfl, ?_⟩) (by assumption) ?_
      · intro w0 hSw; go_simp <;> first | (with_reducible rfl) | (rw [IntWalk.u8_in _ (by omega)])
      try simp only [Act.put, List.setIfInBounds_toArray, List.set_cons_zero, List.set_cons_succ]
      refine wpAnyH_ready (rs := [5, 12, 22]) (by kernel_rfl) (by simp) ?_
      refine AllReadyH.cons rfl (fun K hK => ?_) (AllReadyH.cons rfl (fun K hK => ?_) (AllReadyH.cons rfl (fun K hK => ?_) AllReadyH.nil))
      · go_simp
        have hb0 : BoxAt (wr.alloc (.cells #[.int .u8 (97 + (i : Int))] 5)).drew wr.heap.size #[.int .u8 (97 + (i : Int))] 5 := (show BoxAt (wr.alloc (.cells #[.int .u8 (97 + (i : Int))] 5)) wr.heap.size #[.int .u8 (97 + (i : Int))] 5 from BoxAt.new' _ _ _ _ (by simp))
        refine hK.out _ _ trivial (fun _ => ?_)
        clear hK K
        try simp only [Act.put, List.setIfInBounds_toArray, List.set_cons_zero, List.set_cons_succ]
        refine held_weaken (S2 := fun w' => BoxAt w' wr.heap.size #[.int .u8 (97 + (i : Int))] 5) (fun _ _ => trivial) _ _ _ _ ?_
        have hS0 : (fun w' : World => BoxAt w' wr.heap.size #[.int .u8 (97 + (i : Int))] 5) (wr.alloc (.cells #[.int .u8 (97 + (i : Int))] 5)).drew := hb0
        refine wpAnyH_take (i := 6) (v := .string ⟨#[b1]⟩) rfl (by kernel_rfl) (by kernel_rfl) (by kernel_rfl) (fun _ _ _ h => h) (Or.inl ⟨by kernel_rfl, ?_⟩) hS0 ?_
        · intro w0 hSw; have hcv := one_byte w0 wr.heap.size (97 + (i : Int)) b1 E1.out hSw; clear hSw; go_simp <;> with_reducible rfl
        try simp only [Act.put, List.setIfInBounds_toArray, List.set_cons_zero, List.set_cons_succ]
        refine wpAnyH_take (i := 7) (v := .string (s ++ ⟨#[109]⟩ ++ ⟨#[b1]⟩)) rfl (by kernel_rfl) (by kernel_rfl) (by kernel_rfl) (fun _ _ _ h => h) (Or.inl ⟨by kernel_rfl, ?_⟩) hS0 ?_
        · intro w0 hSw; go_simp <;> first | (with_reducible rfl) | (rw [if_neg hc2])
        try simp only [Act.put, List.setIfInBounds_toArray, List.set_cons_zero, List.set_cons_succ]
        refine wpAnyH_take (i := 8) (v := .string (s ++ ⟨#[109]⟩ ++ ⟨#[b1]⟩ ++ ⟨#[32, 61, 32]⟩)) rfl (by kernel_rfl) (by kernel_rfl) (by kernel_rfl) (fun _ _ _ h => h) (Or.inl ⟨by kernel_rfl, ?_⟩) hS0 ?_
        · intro w0 hSw; go_simp <;> first | (with_reducible rfl) | (rw [if_neg hc3])
        try simp only [Act.put, List.setIfInBounds_toArray, List.set_cons_zero, List.set_cons_succ]
        refine wpAnyH_ready (rs := [12, 22]) (by kernel_rfl) (by simp) ?_
        refine AllReadyH.cons rfl (fun K hK => ?_) (AllReadyH.cons rfl (fun K hK => ?_) AllReadyH.nil)
        · go_simp
          have hb0 : BoxAt ((wr.alloc (.cells #[.int .u8 (97 + (i : Int))] 5)).alloc (.cells #[.int .u8 (65 + (i : Int))] 5)).drew wr.heap.size #[.int .u8 (97 + (i : Int))] 5 := (BoxAt.alloc (show BoxAt (wr.alloc (.cells #[.int .u8 (97 + (i : Int))] 5)) wr.heap.size #[.int .u8 (97 + (i : Int))] 5 from hb0) (.cells #[.int .u8 (65 + (i : Int))] 5))
          have hb1 : BoxAt ((wr.alloc (.cells #[.int .u8 (97 + (i : Int))] 5)).alloc (.cells #[.int .u8 (65 + (i : Int))] 5)).drew (wr.heap.size + 1) #[.int .u8 (65 + (i : Int))] 5 := (show BoxAt ((wr.alloc (.cells #[.int .u8 (97 + (i : Int))] 5)).alloc (.cells #[.int .u8 (65 + (i : Int))] 5)) (wr.heap.size + 1) #[.int .u8 (65 + (i : Int))] 5 from BoxAt.new' _ _ _ _ (by simp))
          refine hK.out _ _ hb0 (fun _ => ?_)
          clear hK K
          try simp only [Act.put, List.setIfInBounds_toArray, List.set_cons_zero, List.set_cons_succ]
          refine held_weaken (S2 := fun w' => BoxAt w' wr.heap.size #[.int .u8 (97 + (i : Int))] 5 ∧ BoxAt w' (wr.heap.size + 1) #[.int .u8 (65 + (i : Int))] 5) (fun _ h => h.1) _ _ _ _ ?_
          have hS1 : (fun w' : World => BoxAt w' wr.heap.size #[.int .u8 (97 + (i : Int))] 5 ∧ BoxAt w' (wr.heap.size + 1) #[.int .u8 (65 + (i : Int))] 5) ((wr.alloc (.cells #[.int .u8 (97 + (i : Int))] 5)).alloc (.cells #[.int .u8 (65 + (i : Int))] 5)).drew := ⟨hb0, hb1⟩
          refine wpAnyH_take (i := 13) (v := .string ⟨#[b2]⟩) rfl (by kernel_rfl) (by kernel_rfl) (by kernel_rfl) (fun _ _ _ h => h) (Or.inl ⟨by kernel_rfl, ?_⟩) hS1 ?_
          · intro w0 hSw; have hcv := one_byte w0 (wr.heap.size + 1) (65 + (i : Int)) b2 E2.out hSw.2; clear hSw; go_simp <;> with_reducible rfl
          try simp only [Act.put, List.setIfInBounds_toArray, List.set_cons_zero, List.set_cons_succ]
          refine wpAnyH_take (i := 14) (v := .string (s ++ ⟨#[109]⟩ ++ ⟨#[b1]⟩ ++ ⟨#[32, 61, 32]⟩ ++ ⟨#[b2]⟩)) rfl (by kernel_rfl) (by kernel_rfl) (by kernel_rfl) (fun _ _ _ h => h) (Or.inl ⟨by kernel_rfl, ?_⟩) hS1 ?_
          · intro w0 hSw; go_simp <;> first | (with_reducible rfl) | (rw [if_neg hc4])
          try simp only [Act.put, List.setIfInBounds_toArray, List.set_cons_zero, List.set_cons_succ]
          refine wpAnyH_take (i := 15) (v := .string (s ++ ⟨#[109]⟩ ++ ⟨#[b1]⟩ ++ ⟨#[32, 61, 32]⟩ ++ ⟨#[b2]⟩ ++ ⟨#[123, 32, 109]⟩)) rfl (by kernel_rfl) (by kernel_rfl) (by kernel_rfl) (fun _ _ _ h => h) (Or.inl ⟨by kernel_rfl, ?_⟩) hS1 ?_
          · intro w0 hSw; go_simp <;> first | (with_reducible rfl) | (rw [if_neg hc5])
          try simp only [Act.put, List.setIfInBounds_toArray, List.set_cons_zero, List.set_cons_succ]
          refine wpAnyH_ready (rs := [22]) (by kernel_rfl) (by simp) ?_
          refine AllReadyH.cons rfl (fun K hK => ?_) AllReadyH.nil
          · go_simp
            have hb0 : BoxAt (((wr.alloc (.cells #[.int .u8 (97 + (i : Int))] 5)).alloc (.cells #[.int .u8 (65 + (i : Int))] 5)).alloc (.cells #[.int .u8 (97 + (m : Int))] 5)).drew wr.heap.size #[.int .u8 (97 + (i : Int))] 5 := (BoxAt.alloc (show BoxAt ((wr.alloc (.cells #[.int .u8 (97 + (i : Int))] 5)).alloc (.cells #[.int .u8 (65 + (i : Int))] 5)) wr.heap.size #[.int .u8 (97 + (i : Int))] 5 from hb0) (.cells #[.int .u8 (97 + (m : Int))] 5))
            have hb1 : BoxAt (((wr.alloc (.cells #[.int .u8 (97 + (i : Int))] 5)).alloc (.cells #[.int .u8 (65 + (i : Int))] 5)).alloc (.cells #[.int .u8 (97 + (m : Int))] 5)).drew (wr.heap.size + 1) #[.int .u8 (65 + (i : Int))] 5 := (BoxAt.alloc (show BoxAt ((wr.alloc (.cells #[.int .u8 (97 + (i : Int))] 5)).alloc (.cells #[.int .u8 (65 + (i : Int))] 5)) (wr.heap.size + 1) #[.int .u8 (65 + (i : Int))] 5 from hb1) (.cells #[.int .u8 (97 + (m : Int))] 5))
            have hb2 : BoxAt (((wr.alloc (.cells #[.int .u8 (97 + (i : Int))] 5)).alloc (.cells #[.int .u8 (65 + (i : Int))] 5)).alloc (.cells #[.int .u8 (97 + (m : Int))] 5)).drew (wr.heap.size + 2) #[.int .u8 (97 + (m : Int))] 5 := (show BoxAt (((wr.alloc (.cells #[.int .u8 (97 + (i : Int))] 5)).alloc (.cells #[.int .u8 (65 + (i : Int))] 5)).alloc (.cells #[.int .u8 (97 + (m : Int))] 5)) (wr.heap.size + 2) #[.int .u8 (97 + (m : Int))] 5 from BoxAt.new' _ _ _ _ (by simp))
            refine hK.out _ _ ⟨hb0, hb1⟩ (fun _ => ?_)
            clear hK K
            try simp only [Act.put, List.setIfInBounds_toArray, List.set_cons_zero, List.set_cons_succ]
            refine held_weaken (S2 := fun w' => BoxAt w' wr.heap.size #[.int .u8 (97 + (i : Int))] 5 ∧ BoxAt w' (wr.heap.size + 1) #[.int .u8 (65 + (i : Int))] 5 ∧ BoxAt w' (wr.heap.size + 2) #[.int .u8 (97 + (m : Int))] 5) (fun _ h => ⟨h.1, h.2.1⟩) _ _ _ _ ?_
            have hS2 : (fun w' : World => BoxAt w' wr.heap.size #[.int .u8 (97 + (i : Int))] 5 ∧ BoxAt w' (wr.heap.size + 1) #[.int .u8 (65 + (i : Int))] 5 ∧ BoxAt w' (wr.heap.size + 2) #[.int .u8 (97 + (m : Int))] 5) (((wr.alloc (.cells #[.int .u8 (97 + (i : Int))] 5)).alloc (.cells #[.int .u8 (65 + (i : Int))] 5)).alloc (.cells #[.int .u8 (97 + (m : Int))] 5)).drew := ⟨hb0, hb1, hb2⟩
            refine wpAnyH_take (i := 23) (v := .string ⟨#[b3]⟩) rfl (by kernel_rfl) (by kernel_rfl) (by kernel_rfl) (fun _ _ _ h => h) (Or.inl ⟨by kernel_rfl, ?_⟩) hS2 ?_
            · intro w0 hSw; have hcv := one_byte w0 (wr.heap.size + 2) (97 + (m : Int)) b3 E3.out hSw.2.2; clear hSw; go_simp <;> with_reducible rfl
            try simp only [Act.put, List.setIfInBounds_toArray, List.set_cons_zero, List.set_cons_succ]
            refine wpAnyH_take (i := 24) (v := .string (s ++ ⟨#[109]⟩ ++ ⟨#[b1]⟩ ++ ⟨#[32, 61, 32]⟩ ++ ⟨#[b2]⟩ ++ ⟨#[123, 32, 109]⟩ ++ ⟨#[b3]⟩)) rfl (by kernel_rfl) (by kernel_rfl) (by kernel_rfl) (fun _ _ _ h => h) (Or.inl ⟨by kernel_rfl, ?_⟩) hS2 ?_
            · intro w0 hSw; go_simp <;> first | (with_reducible rfl) | (rw [if_neg hc6])
            try simp only [Act.put, List.setIfInBounds_toArray, List.set_cons_zero, List.set_cons_succ]
            refine wpAnyH_take (i := 25) (v := .string (s ++ ⟨#[109]⟩ ++ ⟨#[b1]⟩ ++ ⟨#[32, 61, 32]⟩ ++ ⟨#[b2]⟩ ++ ⟨#[123, 32, 109]⟩ ++ ⟨#[b3]⟩ ++ ⟨#[32, 125, 10]⟩)) rfl (by kernel_rfl) (by kernel_rfl) (by kernel_rfl) (fun _ _ _ h => h) (Or.inl ⟨by kernel_rfl, ?_⟩) hS2 ?_
            · intro w0 hSw; go_simp <;> first | (with_reducible rfl) | (rw [if_neg hc7])
            try simp only [Act.put, List.setIfInBounds_toArray, List.set_cons_zero, List.set_cons_succ]
            refine wpAnyH_take (i := 26) (v := ?_) rfl (by kernel_rfl) (by kernel_rfl) (by kernel_rfl) (fun _ _ _ h => h) (Or.inl ⟨by kernel_rfl, ?_⟩) hS2 ?_
            rotate_left
            · intro w0 hSw; (try dsimp only at hSw); (go_simp <;> with_reducible rfl)
            try simp only [Act.put, List.setIfInBounds_toArray, List.set_cons_zero, List.set_cons_succ]
            refine wpAnyH_done (by kernel_rfl) ?_ _
            have hB3 := (((HB.out.alloc HB.out.size (.cells #[.int .u8 (97 + (i : Int))] 5)).alloc (by have := HB.out.size; simp; omega) (.cells #[.int .u8 (65 + (i : Int))] 5)).alloc (by have := HB.out.size; simp; omega) (.cells #[.int .u8 (97 + (m : Int))] 5))
            have HB2 := Lib.hid (show Below w.heap.size w (((wr.alloc (.cells #[.int .u8 (97 + (i : Int))] 5)).alloc (.cells #[.int .u8 (65 + (i : Int))] 5)).alloc (.cells #[.int .u8 (97 + (m : Int))] 5)).drew from ⟨hB3.os, hB3.tape, hB3.output, hB3.size, hB3.block⟩)
            clear hS0 hS1 hS2 hb0 hb1 hb2
            clear hB3
            generalize (((wr.alloc (.cells #[.int .u8 (97 + (i : Int))] 5)).alloc (.cells #[.int .u8 (65 + (i : Int))] 5)).alloc (.cells #[.int .u8 (97 + (m : Int))] 5)).drew = wz at *
            rw [HNx.out]
            go_wp2
            exact ⟨⟨i + 1, by go_num, rfl, hlt, HB2⟩, by simp [intOf]; omega⟩
        · go_simp
          have hb0 : BoxAt ((wr.alloc (.cells #[.int .u8 (97 + (i : Int))] 5)).alloc (.cells #[.int .u8 (97 + (m : Int))] 5)).drew wr.heap.size #[.int .u8 (97 + (i : Int))] 5 := (BoxAt.alloc (show BoxAt (wr.alloc (.cells #[.int .u8 (97 + (i : Int))] 5)) wr.heap.size #[.int .u8 (97 + (i : Int))] 5 from hb0) (.cells #[.int .u8 (97 + (m : Int))] 5))
          have hb1 : BoxAt ((wr.alloc (.cells #[.int .u8 (97 + (i : Int))] 5)).alloc (.cells #[.int .u8 (97 + (m : Int))] 5)).drew (wr.heap.size + 1) #[.int .u8 (97 + (m : Int))] 5 := (show BoxAt ((wr.alloc (.cells #[.int .u8 (97 + (i : Int))] 5)).alloc (.cells #[.int .u8 (97 + (m : Int))] 5)) (wr.heap.size + 1) #[.int .u8 (97 + (m : Int))] 5 from BoxAt.new' _ _ _ _ (by simp))
          refine hK.out _ _ hb0 (fun _ => ?_)
          clear hK K
          try simp only [Act.put, List.setIfInBounds_toArray, List.set_cons_zero, List.set_cons_succ]
          refine held_weaken (S2 := fun w' => BoxAt w' wr.heap.size #[.int .u8 (97 + (i : Int))] 5 ∧ BoxAt w' (wr.heap.size + 1) #[.int .u8 (97 + (m : Int))] 5) (fun _ h => h.1) _ _ _ _ ?_
          have hS1 : (fun w' : World => BoxAt w' wr.heap.size #[.int .u8 (97 + (i : Int))] 5 ∧ BoxAt w' (wr.heap.size + 1) #[.int .u8 (97 + (m : Int))] 5) ((wr.alloc (.cells #[.int .u8 (97 + (i : Int))] 5)).alloc (.cells #[.int .u8 (97 + (m : Int))] 5)).drew := ⟨hb0, hb1⟩
          refine wpAnyH_take (i := 23) (v := .string ⟨#[b3]⟩) rfl (by kernel_rfl) (by kernel_rfl) (by kernel_rfl) (fun _ _ _ h => h) (Or.inl ⟨by kernel_rfl, ?_⟩) hS1 ?_
          · intro w0 hSw; have hcv := one_byte w0 (wr.heap.size + 1) (97 + (m : Int)) b3 E3.out hSw.2; clear hSw; go_simp <;> with_reducible rfl
          try simp only [Act.put, List.setIfInBounds_toArray, List.set_cons_zero, List.set_cons_succ]
          refine wpAnyH_ready (rs := [12]) (by kernel_rfl) (by simp) ?_
          refine AllReadyH.cons rfl (fun K hK => ?_) AllReadyH.nil
          · go_simp
            have hb0 : BoxAt (((wr.alloc (.cells #[.int .u8 (97 + (i : Int))] 5)).alloc (.cells #[.int .u8 (97 + (m : Int))] 5)).alloc (.cells #[.int .u8 (65 + (i : Int))] 5)).drew wr.heap.size #[.int .u8 (97 + (i : Int))] 5 := (BoxAt.alloc (show BoxAt ((wr.alloc (.cells #[.int .u8 (97 + (i : Int))] 5)).alloc (.cells #[.int .u8 (97 + (m : Int))] 5)) wr.heap.size #[.int .u8 (97 + (i : Int))] 5 from hb0) (.cells #[.int .u8 (65 + (i : Int))] 5))
            have hb1 : BoxAt (((wr.alloc (.cells #[.int .u8 (97 + (i : Int))] 5)).alloc (.cells #[.int .u8 (97 + (m : Int))] 5)).alloc (.cells #[.int .u8 (65 + (i : Int))] 5)).drew (wr.heap.size + 1) #[.int .u8 (97 + (m : Int))] 5 := (BoxAt.alloc (show BoxAt ((wr.alloc (.cells #[.int .u8 (97 + (i : Int))] 5)).alloc (.cells #[.int .u8 (97 + (m : Int))] 5)) (wr.heap.size + 1) #[.int .u8 (97 + (m : Int))] 5 from hb1) (.cells #[.int .u8 (65 + (i : Int))] 5))
            have hb2 : BoxAt (((wr.alloc (.cells #[.int .u8 (97 + (i : Int))] 5)).alloc (.cells #[.int .u8 (97 + (m : Int))] 5)).alloc (.cells #[.int .u8 (65 + (i : Int))] 5)).drew (wr.heap.size + 2) #[.int .u8 (65 + (i : Int))] 5 := (show BoxAt (((wr.alloc (.cells #[.int .u8 (97 + (i : Int))] 5)).alloc (.cells #[.int .u8 (97 + (m : Int))] 5)).alloc (.cells #[.int .u8 (65 + (i : Int))] 5)) (wr.heap.size + 2) #[.int .u8 (65 + (i : Int))] 5 from BoxAt.new' _ _ _ _ (by simp))
            refine hK.out _ _ ⟨hb0, hb1⟩ (fun _ => ?_)
            clear hK K
            try simp only [Act.put, List.setIfInBounds_toArray, List.set_cons_zero, List.set_cons_succ]
            refine held_weaken (S2 := fun w' => BoxAt w' wr.heap.size #[.int .u8 (97 + (i : Int))] 5 ∧ BoxAt w' (wr.heap.size + 1) #[.int .u8 (97 + (m : Int))] 5 ∧ BoxAt w' (wr.heap.size + 2) #[.int .u8 (65 + (i : Int))] 5) (fun _ h => ⟨h.1, h.2.1⟩) _ _ _ _ ?_
            have hS2 : (fun w' : World => BoxAt w' wr.heap.size #[.int .u8 (97 + (i : Int))] 5 ∧ BoxAt w' (wr.heap.size + 1) #[.int .u8 (97 + (m : Int))] 5 ∧ BoxAt w' (wr.heap.size + 2) #[.int .u8 (65 + (i : Int))] 5) (((wr.alloc (.cells #[.int .u8 (97 + (i : Int))] 5)).alloc (.cells #[.int .u8 (97 + (m : Int))] 5)).alloc (.cells #[.int .u8 (65 + (i : Int))] 5)).drew := ⟨hb0, hb1, hb2⟩
            refine wpAnyH_take (i := 13) (v := .string ⟨#[b2]⟩) rfl (by kernel_rfl) (by kernel_rfl) (by kernel_rfl) (fun _ _ _ h => h) (Or.inl ⟨by kernel_rfl, ?_⟩) hS2 ?_
            · intro w0 hSw; have hcv := one_byte w0 (wr.heap.size + 2) (65 + (i : Int)) b2 E2.out hSw.2.2; clear hSw; go_simp <;> with_reducible rfl
            try simp only [Act.put, List.setIfInBounds_toArray, List.set_cons_zero, List.set_cons_succ]
            refine wpAnyH_take (i := 14) (v := .string (s ++ ⟨#[109]⟩ ++ ⟨#[b1]⟩ ++ ⟨#[32, 61, 32]⟩ ++ ⟨#[b2]⟩)) rfl (by kernel_rfl) (by kernel_rfl) (by kernel_rfl) (fun _ _ _ h => h) (Or.inl ⟨by kernel_rfl, ?_⟩) hS2 ?_
            · intro w0 hSw; go_simp <;> first | (with_reducible rfl) | (rw [if_neg hc4])
            try simp only [Act.put, List.setIfInBounds_toArray, List.set_cons_zero, List.set_cons_succ]
            refine wpAnyH_take (i := 15) (v := .string (s ++ ⟨#[109]⟩ ++ ⟨#[b1]⟩ ++ ⟨#[32, 61, 32]⟩ ++ ⟨#[b2]⟩ ++ ⟨#[123, 32, 109]⟩)) rfl (by kernel_rfl) (by kernel_rfl) (by kernel_rfl) (fun _ _ _ h => h) (Or.inl ⟨by kernel_rfl, ?_⟩) hS2 ?_
            · intro w0 hSw; go_simp <;> first | (with_reducible rfl) | (rw [if_neg hc5])
            try simp only [Act.put, List.setIfInBounds_toArray, List.set_cons_zero, List.set_cons_succ]
            refine wpAnyH_take (i := 24) (v := .string (s ++ ⟨#[109]⟩ ++ ⟨#[b1]⟩ ++ ⟨#[32, 61, 32]⟩ ++ ⟨#[b2]⟩ ++ ⟨#[123, 32, 109]⟩ ++ ⟨#[b3]⟩)) rfl (by kernel_rfl) (by kernel_rfl) (by kernel_rfl) (fun _ _ _ h => h) (Or.inl ⟨by kernel_rfl, ?_⟩) hS2 ?_
            · intro w0 hSw; go_simp <;> first | (with_reducible rfl) | (rw [if_neg hc6])
            try simp only [Act.put, List.setIfInBounds_toArray, List.set_cons_zero, List.set_cons_succ]
            refine wpAnyH_take (i := 25) (v := .string (s ++ ⟨#[109]⟩ ++ ⟨#[b1]⟩ ++ ⟨#[32, 61, 32]⟩ ++ ⟨#[b2]⟩ ++ ⟨#[123, 32, 109]⟩ ++ ⟨#[b3]⟩ ++ ⟨#[32, 125, 10]⟩)) rfl (by kernel_rfl) (by kernel_rfl) (by kernel_rfl) (fun _ _ _ h => h) (Or.inl ⟨by kernel_rfl, ?_⟩) hS2 ?_
            · intro w0 hSw; go_simp <;> first | (with_reducible rfl) | (rw [if_neg hc7])
            try simp only [Act.put, List.setIfInBounds_toArray, List.set_cons_zero, List.set_cons_succ]
            refine wpAnyH_take (i := 26) (v := ?_) rfl (by kernel_rfl) (by kernel_rfl) (by kernel_rfl) (fun _ _ _ h => h) (Or.inl ⟨by kernel_rfl, ?_⟩) hS2 ?_
            rotate_left
            · intro w0 hSw; (try dsimp only at hSw); (go_simp <;> with_reducible rfl)
            try simp only [Act.put, List.setIfInBounds_toArray, List.set_cons_zero, List.set_cons_succ]
            refine wpAnyH_done (by kernel_rfl) ?_ _
            have hB3 := (((HB.out.alloc HB.out.size (.cells #[.int .u8 (97 + (i : Int))] 5)).alloc (by have := HB.out.size; simp; omega) (.cells #[.int .u8 (97 + (m : Int))] 5)).alloc (by have := HB.out.size; simp; omega) (.cells #[.int .u8 (65 + (i : Int))] 5))
            have HB2 := Lib.hid (show Below w.heap.size w (((wr.alloc (.cells #[.int .u8 (97 + (i : Int))] 5)).alloc (.cells #[.int .u8 (97 + (m : Int))] 5)).alloc (.cells #[.int .u8 (65 + (i : Int))] 5)).drew from ⟨hB3.os, hB3.tape, hB3.output, hB3.size, hB3.block⟩)
            clear hS0 hS1 hS2 hb0 hb1 hb2
            clear hB3
            generalize (((wr.alloc (.cells #[.int .u8 (97 + (i : Int))] 5)).alloc (.cells #[.int .u8 (97 + (m : Int))] 5)).alloc (.cells #[.int .u8 (65 + (i : Int))] 5)).drew = wz at *
            rw [HNx.out]
            go_wp2
            exact ⟨⟨i + 1, by go_num, rfl, hlt, HB2⟩, by simp [intOf]; omega⟩
      · go_simp
        have hb0 : BoxAt (wr.alloc (.cells #[.int .u8 (65 + (i : Int))] 5)).drew wr.heap.size #[.int .u8 (65 + (i : Int))] 5 := (show BoxAt (wr.alloc (.cells #[.int .u8 (65 + (i : Int))] 5)) wr.heap.size #[.int .u8 (65 + (i : Int))] 5 from BoxAt.new' _ _ _ _ (by simp))
        refine hK.out _ _ trivial (fun _ => ?_)
        clear hK K
        try simp only [Act.put, List.setIfInBounds_toArray, List.set_cons_zero, List.set_cons_succ]
        refine held_weaken (S2 := fun w' => BoxAt w' wr.heap.size #[.int .u8 (65 + (i : Int))] 5) (fun _ _ => trivial) _ _ _ _ ?_
        have hS0 : (fun w' : World => BoxAt w' wr.heap.size #[.int .u8 (65 + (i : Int))] 5) (wr.alloc (.cells #[.int .u8 (65 + (i : Int))] 5)).drew := hb0
        refine wpAnyH_take (i := 13) (v := .string ⟨#[b2]⟩) rfl (by kernel_rfl) (by kernel_rfl) (by kernel_rfl) (fun _ _ _ h => h) (Or.inl ⟨by kernel_rfl, ?_⟩) hS0 ?_
        · intro w0 hSw; have hcv := one_byte w0 wr.heap.size (65 + (i : Int)) b2 E2.out hSw; clear hSw; go_simp <;> with_reducible rfl
        try simp only [Act.put, List.setIfInBounds_toArray, List.set_cons_zero, List.set_cons_succ]
        refine wpAnyH_ready (rs := [5, 22]) (by kernel_rfl) (by simp) ?_
        refine AllReadyH.cons rfl (fun K hK => ?_) (AllReadyH.cons rfl (fun K hK => ?_) AllReadyH.nil)
        · go_simp
          have hb0 : BoxAt ((wr.alloc (.cells #[.int .u8 (65 + (i : Int))] 5)).alloc (.cells #[.int .u8 (97 + (i : Int))] 5)).drew wr.heap.size #[.int .u8 (65 + (i : Int))] 5 := (BoxAt.alloc (show BoxAt (wr.alloc (.cells #[.int .u8 (65 + (i : Int))] 5)) wr.heap.size #[.int .u8 (65 + (i : Int))] 5 from hb0) (.cells #[.int .u8 (97 + (i : Int))] 5))
          have hb1 : BoxAt ((wr.alloc (.cells #[.int .u8 (65 + (i : Int))] 5)).alloc (.cells #[.int .u8 (97 + (i : Int))] 5)).drew (wr.heap.size + 1) #[.int .u8 (97 + (i : Int))] 5 := (show BoxAt ((wr.alloc (.cells #[.int .u8 (65 + (i : Int))] 5)).alloc (.cells #[.int .u8 (97 + (i : Int))] 5)) (wr.heap.size + 1) #[.int .u8 (97 + (i : Int))] 5 from BoxAt.new' _ _ _ _ (by simp))
          refine hK.out _ _ hb0 (fun _ => ?_)
          clear hK K
          try simp only [Act.put, List.setIfInBounds_toArray, List.set_cons_zero, List.set_cons_succ]
          refine held_weaken (S2 := fun w' => BoxAt w' wr.heap.size #[.int .u8 (65 + (i : Int))] 5 ∧ BoxAt w' (wr.heap.size + 1) #[.int .u8 (97 + (i : Int))] 5) (fun _ h => h.1) _ _ _ _ ?_
          have hS1 : (fun w' : World => BoxAt w' wr.heap.size #[.int .u8 (65 + (i : Int))] 5 ∧ BoxAt w' (wr.heap.size + 1) #[.int .u8 (97 + (i : Int))] 5) ((wr.alloc (.cells #[.int .u8 (65 + (i : Int))] 5)).alloc (.cells #[.int .u8 (97 + (i : Int))] 5)).drew := ⟨hb0, hb1⟩
          refine wpAnyH_take (i := 6) (v := .string ⟨#[b1]⟩) rfl (by kernel_rfl) (by kernel_rfl) (by kernel_rfl) (fun _ _ _ h => h) (Or.inl ⟨by kernel_rfl, ?_⟩) hS1 ?_
          · intro w0 hSw; have hcv := one_byte w0 (wr.heap.size + 1) (97 + (i : Int)) b1 E1.out hSw.2; clear hSw; go_simp <;> with_reducible rfl
          try simp only [Act.put, List.setIfInBounds_toArray, List.set_cons_zero, List.set_cons_succ]
          refine wpAnyH_take (i := 7) (v := .string (s ++ ⟨#[109]⟩ ++ ⟨#[b1]⟩)) rfl (by kernel_rfl) (by kernel_rfl) (by kernel_rfl) (fun _ _ _ h => h) (Or.inl ⟨by kernel_rfl, ?_⟩) hS1 ?_
          · intro w0 hSw; go_simp <;> first | (with_reducible rfl) | (rw [if_neg hc2])
          try simp only [Act.put, List.setIfInBounds_toArray, List.set_cons_zero, List.set_cons_succ]
          refine wpAnyH_take (i := 8) (v := .string (s ++ ⟨#[109]⟩ ++ ⟨#[b1]⟩ ++ ⟨#[32, 61, 32]⟩)) rfl (by kernel_rfl) (by kernel_rfl) (by kernel_rfl) (fun _ _ _ h => h) (Or.inl ⟨by kernel_rfl, ?_⟩) hS1 ?_
          · intro w0 hSw; go_simp <;> first | (with_reducible rfl) | (rw [if_neg hc3])
          try simp only [Act.put, List.setIfInBounds_toArray, List.set_cons_zero, List.set_cons_succ]
          refine wpAnyH_take (i := 14) (v := .string (s ++ ⟨#[109]⟩ ++ ⟨#[b1]⟩ ++ ⟨#[32, 61, 32]⟩ ++ ⟨#[b2]⟩)) rfl (by kernel_rfl) (by kernel_rfl) (by kernel_rfl) (fun _ _ _ h => h) (Or.inl ⟨by kernel_rfl, ?_⟩) hS1 ?_
          · intro w0 hSw; go_simp <;> first | (with_reducible rfl) | (rw [if_neg hc4])
          try simp only [Act.put, List.setIfInBounds_toArray, List.set_cons_zero, List.set_cons_succ]
          refine wpAnyH_take (i := 15) (v := .string (s ++ ⟨#[109]⟩ ++ ⟨#[b1]⟩ ++ ⟨#[32, 61, 32]⟩ ++ ⟨#[b2]⟩ ++ ⟨#[123, 32, 109]⟩)) rfl (by kernel_rfl) (by kernel_rfl) (by kernel_rfl) (fun _ _ _ h => h) (Or.inl ⟨by kernel_rfl, ?_⟩) hS1 ?_
          · intro w0 hSw; go_simp <;> first | (with_reducible rfl) | (rw [if_neg hc5])
          try simp only [Act.put, List.setIfInBounds_toArray, List.set_cons_zero, List.set_cons_succ]
          refine wpAnyH_ready (rs := [22]) (by kernel_rfl) (by simp) ?_
          refine AllReadyH.cons rfl (fun K hK => ?_) AllReadyH.nil
          · go_simp
            have hb0 : BoxAt (((wr.alloc (.cells #[.int .u8 (65 + (i : Int))] 5)).alloc (.cells #[.int .u8 (97 + (i : Int))] 5)).alloc (.cells #[.int .u8 (97 + (m : Int))] 5)).drew wr.heap.size #[.int .u8 (65 + (i : Int))] 5 := (BoxAt.alloc (show BoxAt ((wr.alloc (.cells #[.int .u8 (65 + (i : Int))] 5)).alloc (.cells #[.int .u8 (97 + (i : Int))] 5)) wr.heap.size #[.int .u8 (65 + (i : Int))] 5 from hb0) (.cells #[.int .u8 (97 + (m : Int))] 5))
            have hb1 : BoxAt (((wr.alloc (.cells #[.int .u8 (65 + (i : Int))] 5)).alloc (.cells #[.int .u8 (97 + (i : Int))] 5)).alloc (.cells #[.int .u8 (97 + (m : Int))] 5)).drew (wr.heap.size + 1) #[.int .u8 (97 + (i : Int))] 5 := (BoxAt.alloc (show BoxAt ((wr.alloc (.cells #[.int .u8 (65 + (i : Int))] 5)).alloc (.cells #[.int .u8 (97 + (i : Int))] 5)) (wr.heap.size + 1) #[.int .u8 (97 + (i : Int))] 5 from hb1) (.cells #[.int .u8 (97 + (m : Int))] 5))
            have hb2 : BoxAt (((wr.alloc (.cells #[.int .u8 (65 + (i : Int))] 5)).alloc (.cells #[.int .u8 (97 + (i : Int))] 5)).alloc (.cells #[.int .u8 (97 + (m : Int))] 5)).drew (wr.heap.size + 2) #[.int .u8 (97 + (m : Int))] 5 := (show BoxAt (((wr.alloc (.cells #[.int .u8 (65 + (i : Int))] 5)).alloc (.cells #[.int .u8 (97 + (i : Int))] 5)).alloc (.cells #[.int .u8 (97 + (m : Int))] 5)) (wr.heap.size + 2) #[.int .u8 (97 + (m : Int))] 5 from BoxAt.new' _ _ _ _ (by simp))
            refine hK.out _ _ ⟨hb0, hb1⟩ (fun _ => ?_)
            clear hK K
            try simp only [Act.put, List.setIfInBounds_toArray, List.set_cons_zero, List.set_cons_succ]
            refine held_weaken (S2 := fun w' => BoxAt w' wr.heap.size #[.int .u8 (65 + (i : Int))] 5 ∧ BoxAt w' (wr.heap.size + 1) #[.int .u8 (97 + (i : Int))] 5 ∧ BoxAt w' (wr.heap.size + 2) #[.int .u8 (97 + (m : Int))] 5) (fun _ h => ⟨h.1, h.2.1⟩) _ _ _ _ ?_
            have hS2 : (fun w' : World => BoxAt w' wr.heap.size #[.int .u8 (65 + (i : Int))] 5 ∧ BoxAt w' (wr.heap.size + 1) #[.int .u8 (97 + (i : Int))] 5 ∧ BoxAt w' (wr.heap.size + 2) #[.int .u8 (97 + (m : Int))] 5) (((wr.alloc (.cells #[.int .u8 (65 + (i : Int))] 5)).alloc (.cells #[.int .u8 (97 + (i : Int))] 5)).alloc (.cells #[.int .u8 (97 + (m : Int))] 5)).drew := ⟨hb0, hb1, hb2⟩
            refine wpAnyH_take (i := 23) (v := .string ⟨#[b3]⟩) rfl (by kernel_rfl) (by kernel_rfl) (by kernel_rfl) (fun _ _ _ h => h) (Or.inl ⟨by kernel_rfl, ?_⟩) hS2 ?_
            · intro w0 hSw; have hcv := one_byte w0 (wr.heap.size + 2) (97 + (m : Int)) b3 E3.out hSw.2.2; clear hSw; go_simp <;> with_reducible rfl
            try simp only [Act.put, List.setIfInBounds_toArray, List.set_cons_zero, List.set_cons_succ]
            refine wpAnyH_take (i := 24) (v := .string (s ++ ⟨#[109]⟩ ++ ⟨#[b1]⟩ ++ ⟨#[32, 61, 32]⟩ ++ ⟨#[b2]⟩ ++ ⟨#[123, 32, 109]⟩ ++ ⟨#[b3]⟩)) rfl (by kernel_rfl) (by kernel_rfl) (by kernel_rfl) (fun _ _ _ h => h) (Or.inl ⟨by kernel_rfl, ?_⟩) hS2 ?_
            · intro w0 hSw; go_simp <;> first | (with_reducible rfl) | (rw [if_neg hc6])
            try simp only [Act.put, List.setIfInBounds_toArray, List.set_cons_zero, List.set_cons_succ]
            refine wpAnyH_take (i := 25) (v := .string (s ++ ⟨#[109]⟩ ++ ⟨#[b1]⟩ ++ ⟨#[32, 61, 32]⟩ ++ ⟨#[b2]⟩ ++ ⟨#[123, 32, 109]⟩ ++ ⟨#[b3]⟩ ++ ⟨#[32, 125, 10]⟩)) rfl (by kernel_rfl) (by kernel_rfl) (by kernel_rfl) (fun _ _ _ h => h) (Or.inl ⟨by kernel_rfl, ?_⟩) hS2 ?_
            · intro w0 hSw; go_simp <;> first | (with_reducible rfl) | (rw [if_neg hc7])
            try simp only [Act.put, List.setIfInBounds_toArray, List.set_cons_zero, List.set_cons_succ]
            refine wpAnyH_take (i := 26) (v := ?_) rfl (by kernel_rfl) (by kernel_rfl) (by kernel_rfl) (fun _ _ _ h => h) (Or.inl ⟨by kernel_rfl, ?_⟩) hS2 ?_
            rotate_left
            · intro w0 hSw; (try dsimp only at hSw); (go_simp <;> with_reducible rfl)
            try simp only [Act.put, List.setIfInBounds_toArray, List.set_cons_zero, List.set_cons_succ]
            refine wpAnyH_done (by kernel_rfl) ?_ _
            have hB3 := (((HB.out.alloc HB.out.size (.cells #[.int .u8 (65 + (i : Int))] 5)).alloc (by have := HB.out.size; simp; omega) (.cells #[.int .u8 (97 + (i : Int))] 5)).alloc (by have := HB.out.size; simp; omega) (.cells #[.int .u8 (97 + (m : Int))] 5))
            have HB2 := Lib.hid (show Below w.heap.size w (((wr.alloc (.cells #[.int .u8 (65 + (i : Int))] 5)).alloc (.cells #[.int .u8 (97 + (i : Int))] 5)).alloc (.cells #[.int .u8 (97 + (m : Int))] 5)).drew from ⟨hB3.os, hB3.tape, hB3.output, hB3.size, hB3.block⟩)
            clear hS0 hS1 hS2 hb0 hb1 hb2
            clear hB3
            generalize (((wr.alloc (.cells #[.int .u8 (65 + (i : Int))] 5)).alloc (.cells #[.int .u8 (97 + (i : Int))] 5)).alloc (.cells #[.int .u8 (97 + (m : Int))] 5)).drew = wz at *
            rw [HNx.out]
            go_wp2
            exact ⟨⟨i + 1, by go_num, rfl, hlt, HB2⟩, by simp [intOf]; omega⟩
        · go_simp
          have hb0 : BoxAt ((wr.alloc (.cells #[.int .u8 (65 + (i : Int))] 5)).alloc (.cells #[.int .u8 (97 + (m : Int))] 5)).drew wr.heap.size #[.int .u8 (65 + (i : Int))] 5 := (BoxAt.alloc (show BoxAt (wr.alloc (.cells #[.int .u8 (65 + (i : Int))] 5)) wr.heap.size #[.int .u8 (65 + (i : Int))] 5 from hb0) (.cells #[.int .u8 (97 + (m : Int))] 5))
          have hb1 : BoxAt ((wr.alloc (.cells #[.int .u8 (65 + (i : Int))] 5)).alloc (.cells #[.int .u8 (97 + (m : Int))] 5)).drew (wr.heap.size + 1) #[.int .u8 (97 + (m : Int))] 5 := (show BoxAt ((wr.alloc (.cells #[.int .u8 (65 + (i : Int))] 5)).alloc (.cells #[.int .u8 (97 + (m : Int))] 5)) (wr.heap.size + 1) #[.int .u8 (97 + (m : Int))] 5 from BoxAt.new' _ _ _ _ (by simp))
          refine hK.out _ _ hb0 (fun _ => ?_)
          clear hK K
          try simp only [Act.put, List.setIfInBounds_toArray, List.set_cons_zero, List.set_cons_succ]
          refine held_weaken (S2 := fun w' => BoxAt w' wr.heap.size #[.int .u8 (65 + (i : Int))] 5 ∧ BoxAt w' (wr.heap.size + 1) #[.int .u8 (97 + (m : Int))] 5) (fun _ h => h.1) _ _ _ _ ?_
          have hS1 : (fun w' : World => BoxAt w' wr.heap.size #[.int .u8 (65 + (i : Int))] 5 ∧ BoxAt w' (wr.heap.size + 1) #[.int .u8 (97 + (m : Int))] 5) ((wr.alloc (.cells #[.int .u8 (65 + (i : Int))] 5)).alloc (.cells #[.int .u8 (97 + (m : Int))] 5)).drew := ⟨hb0, hb1⟩
          refine wpAnyH_take (i := 23) (v := .string ⟨#[b3]⟩) rfl (by kernel_rfl) (by kernel_rfl) (by kernel_rfl) (fun _ _ _ h => h) (Or.inl ⟨by kernel_rfl, ?_⟩) hS1 ?_
          · intro w0 hSw; have hcv := one_byte w0 (wr.heap.size + 1) (97 + (m : Int)) b3 E3.out hSw.2; clear hSw; go_simp <;> with_reducible rfl
          try simp only [Act.put, List.setIfInBounds_toArray, List.set_cons_zero, List.set_cons_succ]
          refine wpAnyH_ready (rs := [5]) (by kernel_rfl) (by simp) ?_
          refine AllReadyH.cons rfl (fun K hK => ?_) AllReadyH.nil
          · go_simp
            have hb0 : BoxAt (((wr.alloc (.cells #[.int .u8 (65 + (i : Int))] 5)).alloc (.cells #[.int .u8 (97 + (m : Int))] 5)).alloc (.cells #[.int .u8 (97 + (i : Int))] 5)).drew wr.heap.size #[.int .u8 (65 + (i : Int))] 5 := (BoxAt.alloc (show BoxAt ((wr.alloc (.cells #[.int .u8 (65 + (i : Int))] 5)).alloc (.cells #[.int .u8 (97 + (m : Int))] 5)) wr.heap.size #[.int .u8 (65 + (i : Int))] 5 from hb0) (.cells #[.int .u8 (97 + (i : Int))] 5))
            have hb1 : BoxAt (((wr.alloc (.cells #[.int .u8 (65 + (i : Int))] 5)).alloc (.cells #[.int .u8 (97 + (m : Int))] 5)).alloc (.cells #[.int .u8 (97 + (i : Int))] 5)).drew (wr.heap.size + 1) #[.int .u8 (97 + (m : Int))] 5 := (BoxAt.alloc (show BoxAt ((wr.alloc (.cells #[.int .u8 (65 + (i : Int))] 5)).alloc (.cells #[.int .u8 (97 + (m : Int))] 5)) (wr.heap.size + 1) #[.int .u8 (97 + (m : Int))] 5 from hb1) (.cells #[.int .u8 (97 + (i : Int))] 5))
            have hb2 : BoxAt (((wr.alloc (.cells #[.int .u8 (65 + (i : Int))] 5)).alloc (.cells #[.int .u8 (97 + (m : Int))] 5)).alloc (.cells #[.int .u8 (97 + (i : Int))] 5)).drew (wr.heap.size + 2) #[.int .u8 (97 + (i : Int))] 5 := (show BoxAt (((wr.alloc (.cells #[.int .u8 (65 + (i : Int))] 5)).alloc (.cells #[.int .u8 (97 + (m : Int))] 5)).alloc (.cells #[.int .u8 (97 + (i : Int))] 5)) (wr.heap.size + 2) #[.int .u8 (97 + (i : Int))] 5 from BoxAt.new' _ _ _ _ (by simp))
            refine hK.out _ _ ⟨hb0, hb1⟩ (fun _ => ?_)
            clear hK K
            try simp only [Act.put, List.setIfInBounds_toArray, List.set_cons_zero, List.set_cons_succ]
            refine held_weaken (S2 := fun w' => BoxAt w' wr.heap.size #[.int .u8 (65 + (i : Int))] 5 ∧ BoxAt w' (wr.heap.size + 1) #[.int .u8 (97 + (m : Int))] 5 ∧ BoxAt w' (wr.heap.size + 2) #[.int .u8 (97 + (i : Int))] 5) (fun _ h => ⟨h.1, h.2.1⟩) _ _ _ _ ?_
            have hS2 : (fun w' : World => BoxAt w' wr.heap.size #[.int .u8 (65 + (i : Int))] 5 ∧ BoxAt w' (wr.heap.size + 1) #[.int .u8 (97 + (m : Int))] 5 ∧ BoxAt w' (wr.heap.size + 2) #[.int .u8 (97 + (i : Int))] 5) (((wr.alloc (.cells #[.int .u8 (65 + (i : Int))] 5)).alloc (.cells #[.int .u8 (97 + (m : Int))] 5)).alloc (.cells #[.int .u8 (97 + (i : Int))] 5)).drew := ⟨hb0, hb1, hb2⟩
            refine wpAnyH_take (i := 6) (v := .string ⟨#[b1]⟩) rfl (by kernel_rfl) (by kernel_rfl) (by kernel_rfl) (fun _ _ _ h => h) (Or.inl ⟨by kernel_rfl, ?_⟩) hS2 ?_
            · intro w0 hSw; have hcv := one_byte w0 (wr.heap.size + 2) (97 + (i : Int)) b1 E1.out hSw.2.2; clear hSw; go_simp <;> with_reducible rfl
            try simp only [Act.put, List.setIfInBounds_toArray, List.set_cons_zero, List.set_cons_succ]
            refine wpAnyH_take (i := 7) (v := .string (s ++ ⟨#[109]⟩ ++ ⟨#[b1]⟩)) rfl (by kernel_rfl) (by kernel_rfl) (by kernel_rfl) (fun _ _ _ h => h) (Or.inl ⟨by kernel_rfl, ?_⟩) hS2 ?_
            · intro w0 hSw; go_simp <;> first | (with_reducible rfl) | (rw [if_neg hc2])
            try simp only [Act.put, List.setIfInBounds_toArray, List.set_cons_zero, List.set_cons_succ]
            refine wpAnyH_take (i := 8) (v := .string (s ++ ⟨#[109]⟩ ++ ⟨#[b1]⟩ ++ ⟨#[32, 61, 32]⟩)) rfl (by kernel_rfl) (by kernel_rfl) (by kernel_rfl) (fun _ _ _ h => h) (Or.inl ⟨by kernel_rfl, ?_⟩) hS2 ?_
            · intro w0 hSw; go_simp <;> first | (with_reducible rfl) | (rw [if_neg hc3])
            try simp only [Act.put, List.setIfInBounds_toArray, List.set_cons_zero, List.set_cons_succ]
            refine wpAnyH_take (i := 14) (v := .string (s ++ ⟨#[109]⟩ ++ ⟨#[b1]⟩ ++ ⟨#[32, 61, 32]⟩ ++ ⟨#[b2]⟩)) rfl (by kernel_rfl) (by kernel_rfl) (by kernel_rfl) (fun _ _ _ h => h) (Or.inl ⟨by kernel_rfl, ?_⟩) hS2 ?_
            · intro w0 hSw; go_simp <;> first | (with_reducible rfl) | (rw [if_neg hc4])
            try simp only [Act.put, List.setIfInBounds_toArray, List.set_cons_zero, List.set_cons_succ]
            refine wpAnyH_take (i := 15) (v := .string (s ++ ⟨#[109]⟩ ++ ⟨#[b1]⟩ ++ ⟨#[32, 61, 32]⟩ ++ ⟨#[b2]⟩ ++ ⟨#[123, 32, 109]⟩)) rfl (by kernel_rfl) (by kernel_rfl) (by kernel_rfl) (fun _ _ _ h => h) (Or.inl ⟨by kernel_rfl, ?_⟩) hS2 ?_
            · intro w0 hSw; go_simp <;> first | (with_reducible rfl) | (rw [if_neg hc5])
            try simp only [Act.put, List.setIfInBounds_toArray, List.set_cons_zero, List.set_cons_succ]
            refine wpAnyH_take (i := 24) (v := .string (s ++ ⟨#[109]⟩ ++ ⟨#[b1]⟩ ++ ⟨#[32, 61, 32]⟩ ++ ⟨#[b2]⟩ ++ ⟨#[123, 32, 109]⟩ ++ ⟨#[b3]⟩)) rfl (by kernel_rfl) (by kernel_rfl) (by kernel_rfl) (fun _ _ _ h => h) (Or.inl ⟨by kernel_rfl, ?_⟩) hS2 ?_
            · intro w0 hSw; go_simp <;> first | (with_reducible rfl) | (rw [if_neg hc6])
            try simp only [Act.put, List.setIfInBounds_toArray, List.set_cons_zero, List.set_cons_succ]
            refine wpAnyH_take (i := 25) (v := .string (s ++ ⟨#[109]⟩ ++ ⟨#[b1]⟩ ++ ⟨#[32, 61, 32]⟩ ++ ⟨#[b2]⟩ ++ ⟨#[123, 32, 109]⟩ ++ ⟨#[b3]⟩ ++ ⟨#[32, 125, 10]⟩)) rfl (by kernel_rfl) (by kernel_rfl) (by kernel_rfl) (fun _ _ _ h => h) (Or.inl ⟨by kernel_rfl, ?_⟩) hS2 ?_
            · intro w0 hSw; go_simp <;> first | (with_reducible rfl) | (rw [if_neg hc7])
            try simp only [Act.put, List.setIfInBounds_toArray, List.set_cons_zero, List.set_cons_succ]
            refine wpAnyH_take (i := 26) (v := ?_) rfl (by kernel_rfl) (by kernel_rfl) (by kernel_rfl) (fun _ _ _ h => h) (Or.inl ⟨by kernel_rfl, ?_⟩) hS2 ?_
            rotate_left
            · intro w0 hSw; (try dsimp only at hSw); (go_simp <;> with_reducible rfl)
            try simp only [Act.put, List.setIfInBounds_toArray, List.set_cons_zero, List.set_cons_succ]
            refine wpAnyH_done (by kernel_rfl) ?_ _
            have hB3 := (((HB.out.alloc HB.out.size (.cells #[.int .u8 (65 + (i : Int))] 5)).alloc (by have := HB.out.size; simp; omega) (.cells #[.int .u8 (97 + (m : Int))] 5)).alloc (by have := HB.out.size; simp; omega) (.cells #[.int .u8 (97 + (i : Int))] 5))
            have HB2 := Lib.hid (show Below w.heap.size w (((wr.alloc (.cells #[.int .u8 (65 + (i : Int))] 5)).alloc (.cells #[.int .u8 (97 + (m : Int))] 5)).alloc (.cells #[.int .u8 (97 + (i : Int))] 5)).drew from ⟨hB3.os, hB3.tape, hB3.output, hB3.size, hB3.block⟩)
            clear hS0 hS1 hS2 hb0 hb1 hb2
            clear hB3
            generalize (((wr.alloc (.cells #[.int .u8 (65 + (i : Int))] 5)).alloc (.cells #[.int .u8 (97 + (m : Int))] 5)).alloc (.cells #[.int .u8 (97 + (i : Int))] 5)).drew = wz at *
            rw [HNx.out]
            go_wp2
            exact ⟨⟨i + 1, by go_num, rfl, hlt, HB2⟩, by simp [intOf]; omega⟩
      · go_simp
        have hb0 : BoxAt (wr.alloc (.cells #[.int .u8 (97 + (m : Int))] 5)).drew wr.heap.size #[.int .u8 (97 + (m : Int))] 5 := (show BoxAt (wr.alloc (.cells #[.int .u8 (97 + (m : Int))] 5)) wr.heap.size #[.int .u8 (97 + (m : Int))] 5 from BoxAt.new' _ _ _ _ (by simp))
        refine hK.out _ _ trivial (fun _ => ?_)
        clear hK K
        try simp only [Act.put, List.setIfInBounds_toArray, List.set_cons_zero, List.set_cons_succ]
        refine held_weaken (S2 := fun w' => BoxAt w' wr.heap.size #[.int .u8 (97 + (m : Int))] 5) (fun _ _ => trivial) _ _ _ _ ?_
        have hS0 : (fun w' : World => BoxAt w' wr.heap.size #[.int .u8 (97 + (m : Int))] 5) (wr.alloc (.cells #[.int .u8 (97 + (m : Int))] 5)).drew := hb0
        refine wpAnyH_take (i := 23) (v := .string ⟨#[b3]⟩) rfl (by kernel_rfl) (by kernel_rfl) (by kernel_rfl) (fun _ _ _ h => h) (Or.inl ⟨by kernel_rfl, ?_⟩) hS0 ?_
        · intro w0 hSw; have hcv := one_byte w0 wr.heap.size (97 + (m : Int)) b3 E3.out hSw; clear hSw; go_simp <;> with_reducible rfl
        try simp only [Act.put, List.setIfInBounds_toArray, List.set_cons_zero, List.set_cons_succ]
        refine wpAnyH_ready (rs := [5, 12]) (by kernel_rfl) (by simp) ?_
        refine AllReadyH.cons rfl (fun K hK => ?_) (AllReadyH.cons rfl (fun K hK => ?_) AllReadyH.nil)
        · go_simp
          have hb0 : BoxAt ((wr.alloc (.cells #[.int .u8 (97 + (m : Int))] 5)).alloc (.cells #[.int .u8 (97 + (i : Int))] 5)).drew wr.heap.size #[.int .u8 (97 + (m : Int))] 5 := (BoxAt.alloc (show BoxAt (wr.alloc (.cells #[.int .u8 (97 + (m : Int))] 5)) wr.heap.size #[.int .u8 (97 + (m : Int))] 5 from hb0) (.cells #[.int .u8 (97 + (i : Int))] 5))
          have hb1 : BoxAt ((wr.alloc (.cells #[.int .u8 (97 + (m : Int))] 5)).alloc (.cells #[.int .u8 (97 + (i : Int))] 5)).drew (wr.heap.size + 1) #[.int .u8 (97 + (i : Int))] 5 := (show BoxAt ((wr.alloc (.cells #[.int .u8 (97 + (m : Int))] 5)).alloc (.cells #[.int .u8 (97 + (i : Int))] 5)) (wr.heap.size + 1) #[.int .u8 (97 + (i : Int))] 5 from BoxAt.new' _ _ _ _ (by simp))
          refine hK.out _ _ hb0 (fun _ => ?_)
          clear hK K
          try simp only [Act.put, List.setIfInBounds_toArray, List.set_cons_zero, List.set_cons_succ]
          refine held_weaken (S2 := fun w' => BoxAt w' wr.heap.size #[.int .u8 (97 + (m : Int))] 5 ∧ BoxAt w' (wr.heap.size + 1) #[.int .u8 (97 + (i : Int))] 5) (fun _ h => h.1) _ _ _ _ ?_
          have hS1 : (fun w' : World => BoxAt w' wr.heap.size #[.int .u8 (97 + (m : Int))] 5 ∧ BoxAt w' (wr.heap.size + 1) #[.int .u8 (97 + (i : Int))] 5) ((wr.alloc (.cells #[.int .u8 (97 + (m : Int))] 5)).alloc (.cells #[.int .u8 (97 + (i : Int))] 5)).drew := ⟨hb0, hb1⟩
          refine wpAnyH_take (i := 6) (v := .string ⟨#[b1]⟩) rfl (by kernel_rfl) (by kernel_rfl) (by kernel_rfl) (fun _ _ _ h => h) (Or.inl ⟨by kernel_rfl, ?_⟩) hS1 ?_
          · intro w0 hSw; have hcv := one_byte w0 (wr.heap.size + 1) (97 + (i : Int)) b1 E1.out hSw.2; clear hSw; go_simp <;> with_reducible rfl
          try simp only [Act.put, List.setIfInBounds_toArray, List.set_cons_zero, List.set_cons_succ]
          refine wpAnyH_take (i := 7) (v := .string (s ++ ⟨#[109]⟩ ++ ⟨#[b1]⟩)) rfl (by kernel_rfl) (by kernel_rfl) (by kernel_rfl) (fun _ _ _ h => h) (Or.inl ⟨by kernel_rfl, ?_⟩) hS1 ?_
          · intro w0 hSw; go_simp <;> first | (with_reducible rfl) | (rw [if_neg hc2])
          try simp only [Act.put, List.setIfInBounds_toArray, List.set_cons_zero, List.set_cons_succ]
          refine wpAnyH_take (i := 8) (v := .string (s ++ ⟨#[109]⟩ ++ ⟨#[b1]⟩ ++ ⟨#[32, 61, 32]⟩)) rfl (by kernel_rfl) (by kernel_rfl) (by kernel_rfl) (fun _ _ _ h => h) (Or.inl ⟨by kernel_rfl, ?_⟩) hS1 ?_
          · intro w0 hSw; go_simp <;> first | (with_reducible rfl) | (rw [if_neg hc3])
          try simp only [Act.put, List.setIfInBounds_toArray, List.set_cons_zero, List.set_cons_succ]
          refine wpAnyH_ready (rs := [12]) (by kernel_rfl) (by simp) ?_
          refine AllReadyH.cons rfl (fun K hK => ?_) AllReadyH.nil
          · go_simp
            have hb0 : BoxAt (((wr.alloc (.cells #[.int .u8 (97 + (m : Int))] 5)).alloc (.cells #[.int .u8 (97 + (i : Int))] 5)).alloc (.cells #[.int .u8 (65 + (i : Int))] 5)).drew wr.heap.size #[.int .u8 (97 + (m : Int))] 5 := (BoxAt.alloc (show BoxAt ((wr.alloc (.cells #[.int .u8 (97 + (m : Int))] 5)).alloc (.cells #[.int .u8 (97 + (i : Int))] 5)) wr.heap.size #[.int .u8 (97 + (m : Int))] 5 from hb0) (.cells #[.int .u8 (65 + (i : Int))] 5))
            have hb1 : BoxAt (((wr.alloc (.cells #[.int .u8 (97 + (m : Int))] 5)).alloc (.cells #[.int .u8 (97 + (i : Int))] 5)).alloc (.cells #[.int .u8 (65 + (i : Int))] 5)).drew (wr.heap.size + 1) #[.int .u8 (97 + (i : Int))] 5 := (BoxAt.alloc (show BoxAt ((wr.alloc (.cells #[.int .u8 (97 + (m : Int))] 5)).alloc (.cells #[.int .u8 (97 + (i : Int))] 5)) (wr.heap.size + 1) #[.int .u8 (97 + (i : Int))] 5 from hb1) (.cells #[.int .u8 (65 + (i : Int))] 5))
            have hb2 : BoxAt (((wr.alloc (.cells #[.int .u8 (97 + (m : Int))] 5)).alloc (.cells #[.int .u8 (97 + (i : Int))] 5)).alloc (.cells #[.int .u8 (65 + (i : Int))] 5)).drew (wr.heap.size + 2) #[.int .u8 (65 + (i : Int))] 5 := (show BoxAt (((wr.alloc (.cells #[.int .u8 (97 + (m : Int))] 5)).alloc (.cells #[.int .u8 (97 + (i : Int))] 5)).alloc (.cells #[.int .u8 (65 + (i : Int))] 5)) (wr.heap.size + 2) #[.int .u8 (65 + (i : Int))] 5 from BoxAt.new' _ _ _ _ (by simp))
            refine hK.out _ _ ⟨hb0, hb1⟩ (fun _ => ?_)
            clear hK K
            try simp only [Act.put, List.setIfInBounds_toArray, List.set_cons_zero, List.set_cons_succ]
            refine held_weaken (S2 := fun w' => BoxAt w' wr.heap.size #[.int .u8 (97 + (m : Int))] 5 ∧ BoxAt w' (wr.heap.size + 1) #[.int .u8 (97 + (i : Int))] 5 ∧ BoxAt w' (wr.heap.size + 2) #[.int .u8 (65 + (i : Int))] 5) (fun _ h => ⟨h.1, h.2.1⟩) _ _ _ _ ?_
            have hS2 : (fun w' : World => BoxAt w' wr.heap.size #[.int .u8 (97 + (m : Int))] 5 ∧ BoxAt w' (wr.heap.size + 1) #[.int .u8 (97 + (i : Int))] 5 ∧ BoxAt w' (wr.heap.size + 2) #[.int .u8 (65 + (i : Int))] 5) (((wr.alloc (.cells #[.int .u8 (97 + (m : Int))] 5)).alloc (.cells #[.int .u8 (97 + (i : Int))] 5)).alloc (.cells #[.int .u8 (65 + (i : Int))] 5)).drew := ⟨hb0, hb1, hb2⟩
            refine wpAnyH_take (i := 13) (v := .string ⟨#[b2]⟩) rfl (by kernel_rfl) (by kernel_rfl) (by kernel_rfl) (fun _ _ _ h => h) (Or.inl ⟨by kernel_rfl, ?_⟩) hS2 ?_
            · intro w0 hSw; have hcv := one_byte w0 (wr.heap.size + 2) (65 + (i : Int)) b2 E2.out hSw.2.2; clear hSw; go_simp <;> with_reducible rfl
            try simp only [Act.put, List.setIfInBounds_toArray, List.set_cons_zero, List.set_cons_succ]
            refine wpAnyH_take (i := 14) (v := .string (s ++ ⟨#[109]⟩ ++ ⟨#[b1]⟩ ++ ⟨#[32, 61, 32]⟩ ++ ⟨#[b2]⟩)) rfl (by kernel_rfl) (by kernel_rfl) (by kernel_rfl) (fun _ _ _ h => h) (Or.inl ⟨by kernel_rfl, ?_⟩) hS2 ?_
            · intro w0 hSw; go_simp <;> first | (with_reducible rfl) | (rw [if_neg hc4])
            try simp only [Act.put, List.setIfInBounds_toArray, List.set_cons_zero, List.set_cons_succ]
            refine wpAnyH_take (i := 15) (v := .string (s ++ ⟨#[109]⟩ ++ ⟨#[b1]⟩ ++ ⟨#[32, 61, 32]⟩ ++ ⟨#[b2]⟩ ++ ⟨#[123, 32, 109]⟩)) rfl (by kernel_rfl) (by kernel_rfl) (by kernel_rfl) (fun _ _ _ h => h) (Or.inl ⟨by kernel_rfl, ?_⟩) hS2 ?_
            · intro w0 hSw; go_simp <;> first | (with_reducible rfl) | (rw [if_neg hc5])
            try simp only [Act.put, List.setIfInBounds_toArray, List.set_cons_zero, List.set_cons_succ]
            refine wpAnyH_take (i := 24) (v := .string (s ++ ⟨#[109]⟩ ++ ⟨#[b1]⟩ ++ ⟨#[32, 61, 32]⟩ ++ ⟨#[b2]⟩ ++ ⟨#[123, 32, 109]⟩ ++ ⟨#[b3]⟩)) rfl (by kernel_rfl) (by kernel_rfl) (by kernel_rfl) (fun _ _ _ h => h) (Or.inl ⟨by kernel_rfl, ?_⟩) hS2 ?_
            · intro w0 hSw; go_simp <;> first | (with_reducible rfl) | (rw [if_neg hc6])
            try simp only [Act.put, List.setIfInBounds_toArray, List.set_cons_zero, List.set_cons_succ]
            refine wpAnyH_take (i := 25) (v := .string (s ++ ⟨#[109]⟩ ++ ⟨#[b1]⟩ ++ ⟨#[32, 61, 32]⟩ ++ ⟨#[b2]⟩ ++ ⟨#[123, 32, 109]⟩ ++ ⟨#[b3]⟩ ++ ⟨#[32, 125, 10]⟩)) rfl (by kernel_rfl) (by kernel_rfl) (by kernel_rfl) (fun _ _ _ h => h) (Or.inl ⟨by kernel_rfl, ?_⟩) hS2 ?_
            · intro w0 hSw; go_simp <;> first | (with_reducible rfl) | (rw [if_neg hc7])
            try simp only [Act.put, List.setIfInBounds_toArray, List.set_cons_zero, List.set_cons_succ]
            refine wpAnyH_take (i := 26) (v := ?_) rfl (by kernel_rfl) (by kernel_rfl) (by kernel_rfl) (fun _ _ _ h => h) (Or.inl ⟨by kernel_rfl, ?_⟩) hS2 ?_
            rotate_left
            · intro w0 hSw; (try dsimp only at hSw); (go_simp <;> with_reducible rfl)
            try simp only [Act.put, List.setIfInBounds_toArray, List.set_cons_zero, List.set_cons_succ]
            refine wpAnyH_done (by kernel_rfl) ?_ _
            have hB3 := (((HB.out.alloc HB.out.size (.cells #[.int .u8 (97 + (m : Int))] 5)).alloc (by have := HB.out.size; simp; omega) (.cells #[.int .u8 (97 + (i : Int))] 5)).alloc (by have := HB.out.size; simp; omega) (.cells #[.int .u8 (65 + (i : Int))] 5))
            have HB2 := Lib.hid (show Below w.heap.size w (((wr.alloc (.cells #[.int .u8 (97 + (m : Int))] 5)).alloc (.cells #[.int .u8 (97 + (i : Int))] 5)).alloc (.cells #[.int .u8 (65 + (i : Int))] 5)).drew from ⟨hB3.os, hB3.tape, hB3.output, hB3.size, hB3.block⟩)
            clear hS0 hS1 hS2 hb0 hb1 hb2
            clear hB3
            generalize (((wr.alloc (.cells #[.int .u8 (97 + (m : Int))] 5)).alloc (.cells #[.int .u8 (97 + (i : Int))] 5)).alloc (.cells #[.int .u8 (65 + (i : Int))] 5)).drew = wz at *
            rw [HNx.out]
            go_wp2
            exact ⟨⟨i + 1, by go_num, rfl, hlt, HB2⟩, by simp [intOf]; omega⟩
        · go_simp
          have hb0 : BoxAt ((wr.alloc (.cells #[.int .u8 (97 + (m : Int))] 5)).alloc (.cells #[.int .u8 (65 + (i : Int))] 5)).drew wr.heap.size #[.int .u8 (97 + (m : Int))] 5 := (BoxAt.alloc (show BoxAt (wr.alloc (.cells #[.int .u8 (97 + (m : Int))] 5)) wr.heap.size #[.int .u8 (97 + (m : Int))] 5 from hb0) (.cells #[.int .u8 (65 + (i : Int))] 5))
          have hb1 : BoxAt ((wr.alloc (.cells #[.int .u8 (97 + (m : Int))] 5)).alloc (.cells #[.int .u8 (65 + (i : Int))] 5)).drew (wr.heap.size + 1) #[.int .u8 (65 + (i : Int))] 5 := (show BoxAt ((wr.alloc (.cells #[.int .u8 (97 + (m : Int))] 5)).alloc (.cells #[.int .u8 (65 + (i : Int))] 5)) (wr.heap.size + 1) #[.int .u8 (65 + (i : Int))] 5 from BoxAt.new' _ _ _ _ (by simp))
          refine hK.out _ _ hb0 (fun _ => ?_)
          clear hK K
          try simp only [Act.put, List.setIfInBounds_toArray, List.set_cons_zero, List.set_cons_succ]
          refine held_weaken (S2 := fun w' => BoxAt w' wr.heap.size #[.int .u8 (97 + (m : Int))] 5 ∧ BoxAt w' (wr.heap.size + 1) #[.int .u8 (65 + (i : Int))] 5) (fun _ h => h.1) _ _ _ _ ?_
          have hS1 : (fun w' : World => BoxAt w' wr.heap.size #[.int .u8 (97 + (m : Int))] 5 ∧ BoxAt w' (wr.heap.size + 1) #[.int .u8 (65 + (i : Int))] 5) ((wr.alloc (.cells #[.int .u8 (97 + (m : Int))] 5)).alloc (.cells #[.int .u8 (65 + (i : Int))] 5)).drew := ⟨hb0, hb1⟩
          refine wpAnyH_take (i := 13) (v := .string ⟨#[b2]⟩) rfl (by kernel_rfl) (by kernel_rfl) (by kernel_rfl) (fun _ _ _ h => h) (Or.inl ⟨by kernel_rfl, ?_⟩) hS1 ?_
          · intro w0 hSw; have hcv := one_byte w0 (wr.heap.size + 1) (65 + (i : Int)) b2 E2.out hSw.2; clear hSw; go_simp <;> with_reducible rfl
          try simp only [Act.put, List.setIfInBounds_toArray, List.set_cons_zero, List.set_cons_succ]
          refine wpAnyH_ready (rs := [5]) (by kernel_rfl) (by simp) ?_
          refine AllReadyH.cons rfl (fun K hK => ?_) AllReadyH.nil
          · go_simp
            have hb0 : BoxAt (((wr.alloc (.cells #[.int .u8 (97 + (m : Int))] 5)).alloc (.cells #[.int .u8 (65 + (i : Int))] 5)).alloc (.cells #[.int .u8 (97 + (i : Int))] 5)).drew wr.heap.size #[.int .u8 (97 + (m : Int))] 5 := (BoxAt.alloc (show BoxAt ((wr.alloc (.cells #[.int .u8 (97 + (m : Int))] 5)).alloc (.cells #[.int .u8 (65 + (i : Int))] 5)) wr.heap.size #[.int .u8 (97 + (m : Int))] 5 from hb0) (.cells #[.int .u8 (97 + (i : Int))] 5))
            have hb1 : BoxAt (((wr.alloc (.cells #[.int .u8 (97 + (m : Int))] 5)).alloc (.cells #[.int .u8 (65 + (i : Int))] 5)).alloc (.cells #[.int .u8 (97 + (i : Int))] 5)).drew (wr.heap.size + 1) #[.int .u8 (65 + (i : Int))] 5 := (BoxAt.alloc (show BoxAt ((wr.alloc (.cells #[.int .u8 (97 + (m : Int))] 5)).alloc (.cells #[.int .u8 (65 + (i : Int))] 5)) (wr.heap.size + 1) #[.int .u8 (65 + (i : Int))] 5 from hb1) (.cells #[.int .u8 (97 + (i : Int))] 5))
            have hb2 : BoxAt (((wr.alloc (.cells #[.int .u8 (97 + (m : Int))] 5)).alloc (.cells #[.int .u8 (65 + (i : Int))] 5)).alloc (.cells #[.int .u8 (97 + (i : Int))] 5)).drew (wr.heap.size + 2) #[.int .u8 (97 + (i : Int))] 5 := (show BoxAt (((wr.alloc (.cells #[.int .u8 (97 + (m : Int))] 5)).alloc (.cells #[.int .u8 (65 + (i : Int))] 5)).alloc (.cells #[.int .u8 (97 + (i : Int))] 5)) (wr.heap.size + 2) #[.int .u8 (97 + (i : Int))] 5 from BoxAt.new' _ _ _ _ (by simp))
            refine hK.out _ _ ⟨hb0, hb1⟩ (fun _ => ?_)
            clear hK K
            try simp only [Act.put, List.setIfInBounds_toArray, List.set_cons_zero, List.set_cons_succ]
            refine held_weaken (S2 := fun w' => BoxAt w' wr.heap.size #[.int .u8 (97 + (m : Int))] 5 ∧ BoxAt w' (wr.heap.size + 1) #[.int .u8 (65 + (i : Int))] 5 ∧ BoxAt w' (wr.heap.size + 2) #[.int .u8 (97 + (i : Int))] 5) (fun _ h => ⟨h.1, h.2.1⟩) _ _ _ _ ?_
            have hS2 : (fun w' : World => BoxAt w' wr.heap.size #[.int .u8 (97 + (m : Int))] 5 ∧ BoxAt w' (wr.heap.size + 1) #[.int .u8 (65 + (i : Int))] 5 ∧ BoxAt w' (wr.heap.size + 2) #[.int .u8 (97 + (i : Int))] 5) (((wr.alloc (.cells #[.int .u8 (97 + (m : Int))] 5)).alloc (.cells #[.int .u8 (65 + (i : Int))] 5)).alloc (.cells #[.int .u8 (97 + (i : Int))] 5)).drew := ⟨hb0, hb1, hb2⟩
            refine wpAnyH_take (i := 6) (v := .string ⟨#[b1]⟩) rfl (by kernel_rfl) (by kernel_rfl) (by kernel_rfl) (fun _ _ _ h => h) (Or.inl ⟨by kernel_rfl, ?_⟩) hS2 ?_
            · intro w0 hSw; have hcv := one_byte w0 (wr.heap.size + 2) (97 + (i : Int)) b1 E1.out hSw.2.2; clear hSw; go_simp <;> with_reducible rfl
            try simp only [Act.put, List.setIfInBounds_toArray, List.set_cons_zero, List.set_cons_succ]
            refine wpAnyH_take (i := 7) (v := .string (s ++ ⟨#[109]⟩ ++ ⟨#[b1]⟩)) rfl (by kernel_rfl) (by kernel_rfl) (by kernel_rfl) (fun _ _ _ h => h) (Or.inl ⟨by kernel_rfl, ?_⟩) hS2 ?_
            · intro w0 hSw; go_simp <;> first | (with_reducible rfl) | (rw [if_neg hc2])
            try simp only [Act.put, List.setIfInBounds_toArray, List.set_cons_zero, List.set_cons_succ]
            refine wpAnyH_take (i := 8) (v := .string (s ++ ⟨#[109]⟩ ++ ⟨#[b1]⟩ ++ ⟨#[32, 61, 32]⟩)) rfl (by kernel_rfl) (by kernel_rfl) (by kernel_rfl) (fun _ _ _ h => h) (Or.inl ⟨by kernel_rfl, ?_⟩) hS2 ?_
            · intro w0 hSw; go_simp <;> first | (with_reducible rfl) | (rw [if_neg hc3])
            try simp only [Act.put, List.setIfInBounds_toArray, List.set_cons_zero, List.set_cons_succ]
            refine wpAnyH_take (i := 14) (v := .string (s ++ ⟨#[109]⟩ ++ ⟨#[b1]⟩ ++ ⟨#[32, 61, 32]⟩ ++ ⟨#[b2]⟩)) rfl (by kernel_rfl) (by kernel_rfl) (by kernel_rfl) (fun _ _ _ h => h) (Or.inl ⟨by kernel_rfl, ?_⟩) hS2 ?_
            · intro w0 hSw; go_simp <;> first | (with_reducible rfl) | (rw [if_neg hc4])
            try simp only [Act.put, List.setIfInBounds_toArray, List.set_cons_zero, List.set_cons_succ]
            refine wpAnyH_take (i := 15) (v := .string (s ++ ⟨#[109]⟩ ++ ⟨#[b1]⟩ ++ ⟨#[32, 61, 32]⟩ ++ ⟨#[b2]⟩ ++ ⟨#[123, 32, 109]⟩)) rfl (by kernel_rfl) (by kernel_rfl) (by kernel_rfl) (fun _ _ _ h => h) (Or.inl ⟨by kernel_rfl, ?_⟩) hS2 ?_
            · intro w0 hSw; go_simp <;> first | (with_reducible rfl) | (rw [if_neg hc5])
            try simp only [Act.put, List.setIfInBounds_toArray, List.set_cons_zero, List.set_cons_succ]
            refine wpAnyH_take (i := 24) (v := .string (s ++ ⟨#[109]⟩ ++ ⟨#[b1]⟩ ++ ⟨#[32, 61, 32]⟩ ++ ⟨#[b2]⟩ ++ ⟨#[123, 32, 109]⟩ ++ ⟨#[b3]⟩)) rfl (by kernel_rfl) (by kernel_rfl) (by kernel_rfl) (fun _ _ _ h => h) (Or.inl ⟨by kernel_rfl, ?_⟩) hS2 ?_
            · intro w0 hSw; go_simp <;> first | (with_reducible rfl) | (rw [if_neg hc6])
            try simp only [Act.put, List.setIfInBounds_toArray, List.set_cons_zero, List.set_cons_succ]
            refine wpAnyH_take (i := 25) (v := .string (s ++ ⟨#[109]⟩ ++ ⟨#[b1]⟩ ++ ⟨#[32, 61, 32]⟩ ++ ⟨#[b2]⟩ ++ ⟨#[123, 32, 109]⟩ ++ ⟨#[b3]⟩ ++ ⟨#[32, 125, 10]⟩)) rfl (by kernel_rfl) (by kernel_rfl) (by kernel_rfl) (fun _ _ _ h => h) (Or.inl ⟨by kernel_rfl, ?_⟩) hS2 ?_
            · intro w0 hSw; go_simp <;> first | (with_reducible rfl) | (rw [if_neg hc7])
            try simp only [Act.put, List.setIfInBounds_toArray, List.set_cons_zero, List.set_cons_succ]
            refine wpAnyH_take (i := 26) (v := ?_) rfl (by kernel_rfl) (by kernel_rfl) (by kernel_rfl) (fun _ _ _ h => h) (Or.inl ⟨by kernel_rfl, ?_⟩) hS2 ?_
            rotate_left
            · intro w0 hSw; (try dsimp only at hSw); (go_simp <;> with_reducible rfl)
            try simp only [Act.put, List.setIfInBounds_toArray, List.set_cons_zero, List.set_cons_succ]
            refine wpAnyH_done (by kernel_rfl) ?_ _
            have hB3 := (((HB.out.alloc HB.out.size (.cells #[.int .u8 (97 + (m : Int))] 5)).alloc (by have := HB.out.size; simp; omega) (.cells #[.int .u8 (65 + (i : Int))] 5)).alloc (by have := HB.out.size; simp; omega) (.cells #[.int .u8 (97 + (i : Int))] 5))
            have HB2 := Lib.hid (show Below w.heap.size w (((wr.alloc (.cells #[.int .u8 (97 + (m : Int))] 5)).alloc (.cells #[.int .u8 (65 + (i : Int))] 5)).alloc (.cells #[.int .u8 (97 + (i : Int))] 5)).drew from ⟨hB3.os, hB3.tape, hB3.output, hB3.size, hB3.block⟩)
            clear hS0 hS1 hS2 hb0 hb1 hb2
            clear hB3
            generalize (((wr.alloc (.cells #[.int .u8 (97 + (m : Int))] 5)).alloc (.cells #[.int .u8 (65 + (i : Int))] 5)).alloc (.cells #[.int .u8 (97 + (i : Int))] 5)).drew = wz at *
            rw [HNx.out]
            go_wp2
            exact ⟨⟨i + 1, by go_num, rfl, hlt, HB2⟩, by simp [intOf]; omega⟩
    · obtain rfl : i = N := by omega
      have f1 : decide ((i : Int) < (i : Int)) = false := decide_eq_false (by omega)
      clear B1 hlt hi
      have B1 := HB
      clear HB
      have hsz : (ringB i i).size = 13 * i := ringB_size i i
      have HDoc := Lib.hid (ring_doc i hN1 hN16)
      generalize ringB i i = s at *
      have hst : s.size ≤ 208 := by omega
      clear hsz
      go_wp2_with fail
      go_at_call 10
      refine (english_any _).mono ?_
      rintro e w2 ⟨rfl, hb2⟩
      have B2 := Lib.hid (B1.out.trans (hb2.mono B1.out.size))
      have hcc := Lib.run_convert_string_bytes (P := Tryz.prog) w2 9 24 5 s Tryz.underlying9 Tryz.underlying24 Tryz.underlying5
      clear hb2 B1
      generalize grownCap w2 s.size 0 5 = cp at *
      go_wp2_with fail
      go_at_call 9
      have hby := Lib.hid (bytes_world w2 s)
      have HA1 := Lib.hid (B2.out.trans ((below_bytes w2 s).mono B2.out.size))
      have hVs : (Lib.bytesWorld w2 5 s).heap.size = w2.heap.size + 1 := Lib.bytesWorld_size _ _ _
      have hB2s := B2.out.size
      clear hcc
      generalize Lib.bytesWorld w2 5 s = V1 at *
      have HSr : SrcsAt (V1.alloc (.cells #[.slice (some ⟨w2.heap.size, 0, none⟩) s.size cp, .bool false] 32)) V1.heap.size [⟨some ⟨w2.heap.size, 0, none⟩, s, cp, false⟩] := srcs_one V1 _ s s.size cp false rfl
      refine (build_any (w0 := V1) V1.heap.size 1 [⟨some ⟨w2.heap.size, 0, none⟩, s, cp, false⟩] _ _ _ _ (by simp) HSr (by simp [totS]; omega) (by simp) (fun e he => by simp only [List.mem_singleton] at he; subst he; exact res_lit2 V1 V1 s w2.heap.size cp hby.out (by omega)) ((Below.refl _ _).alloc (Nat.le_refl _) _)).mono ?_
      rintro e w3 ⟨b, M, T, rfl, hb0, hbun, hfl, hbel⟩
      obtain ⟨mb, tb, hB⟩ := hbun (by simp)
      have B3 := Lib.hid (HA1.out.trans (((Below.refl _ V1).alloc (Nat.le_refl _) _ |>.trans (hbel.mono (by simp))).mono (by omega)))
      have hBs3 := B3.out.size
      obtain ⟨vs, hv, rfl, rfl⟩ := fills_one hfl
      rw [HDoc.out] at hv
      have HB := Lib.hid hB
      have HV := Lib.hid hv
      clear hB hbun hfl hbel HSr hby HA1 B2 hv HDoc hb0
      have hcv := Lib.hid (byte_of (97 + f) (by omega))
      have EF := Lib.hid (show (97 : Int) + (f : Int) = ((UInt8.ofNat (97 + f)).toNat : Int) from by have := hcv.out; omega)
      have HNm := Lib.hid (show (⟨#[109]⟩ : ByteArray) ++ ⟨#[UInt8.ofNat (97 + f)]⟩ = nmR f from by
        apply bytes_eq
        rw [app_data]
        rfl)
      clear hcv
      generalize UInt8.ofNat (97 + f) = bf at *
      have hcv := one_byte (w3.alloc (.cells #[.int .u8 (97 + (f : Int))] 5)) w3.heap.size (97 + (f : Int)) bf EF.out (BoxAt.new _ _ _)
      have hfi : (f : Int) ≤ 15 := by omega
      go_wp2
      rw [HNm.out]
      have HV4 := Lib.hid ((Below.refl w3.heap.size w3).alloc (Nat.le_refl _) (.cells #[.int .u8 (97 + (f : Int))] 5))
      clear hcv EF HNm
      generalize w3.alloc (.cells #[.int .u8 (97 + (f : Int))] 5) = V4 at *
      have hnm : (nmR f).size = 2 := rfl
      have HAll := Lib.hid (fun (R : RL) (hS : R.str = strT) (hE : ∀ j, j < i → ∃ x, R.ent false (nmR j) = some x ∧ x.pat E0 = (true, patR i j)) => ring_all R hS i f hN16 hf hE)
      have HEn := Lib.hid (fun j (hj : j < i) => ring_ent hN16 HV.out (putS 2 false vs []) j hj)
      obtain ⟨x, hx1, hx2⟩ := HEn.out f hf
      have HX1 := Lib.hid hx1
      have HX2 := Lib.hid (show x.pat ⟨#[]⟩ = (true, patR i f) from hx2)
      clear hx1 hx2
      generalize nmR f = nm at *
      go_loopw [9, 10] (fun t9 t10 wr => ∃ (q : Nat), t10 = .int .i64 q ∧ t9 = .string ⟨(wantL f i q).toArray⟩ ∧ q ≤ i ∧ Hid (Below w3.heap.size w3 wr)) (fun _ t10 _ => i - (intOf t10).toNat)
      case atStart => exact ⟨0, rfl, rfl, Nat.zero_le _, HV4⟩
      case round =>
        obtain ⟨q, rfl, rfl, hq, HBw⟩ := hrel
        have hq0 : (q : Int) ≤ 16 := by omega
        have hqz : (⟨(wantL f i q).toArray⟩ : ByteArray).size = q := by rw [size_mk, want_size]
        by_cases hql : q < i
        · have f2 : decide ((q : Int) < (i : Int)) = true := decide_eq_true (by omega)
          obtain ⟨m, hm⟩ : ∃ m, m = (f + q) % i := ⟨_, rfl⟩
          have hmN : m < i := by rw [hm]; exact Nat.mod_lt _ (by omega)
          have htm : ((f : Int) + (q : Int)).tmod (i : Int) = (m : Int) := by
            rw [hm]
            rw [Int.tmod_eq_emod_of_nonneg (by omega)]
            rfl
          have hmi : (m : Int) ≤ 15 := by omega
          have hcw := Lib.hid (byte_of (65 + m) (by omega))
          have EF := Lib.hid (show (65 : Int) + (m : Int) = ((UInt8.ofNat (65 + m)).toNat : Int) from by have := hcw.out; omega)
          have HNx := Lib.hid (show (⟨(wantL f i q).toArray⟩ : ByteArray) ++ ⟨#[UInt8.ofNat (65 + m)]⟩ = ⟨(wantL f i (q + 1)).toArray⟩ from by
            apply bytes_eq
            rw [app_data, wantL, ← hm]
            rfl)
          clear hcw hm
          generalize UInt8.ofNat (65 + m) = bf at *
          generalize (⟨(wantL f i q).toArray⟩ : ByteArray) = tt at *
          have hc1 : ¬ 9223372036854775807 < tt.size + 1 := by omega
          clear hqz
          have hcv := one_byte (wr.alloc (.cells #[.int .u8 (65 + (m : Int))] 5)) wr.heap.size (65 + (m : Int)) bf EF.out (BoxAt.new _ _ _)
          have hN0 : ¬ i = 0 := by omega
          have HB5 := Lib.hid (HBw.out.alloc HBw.out.size (.cells #[.int .u8 (65 + (m : Int))] 5))
          go_wp2
          rw [HNx.out]
          exact ⟨⟨q + 1, by go_num, rfl, hql, HB5⟩, by simp [intOf]; omega⟩
        · obtain rfl : q = i := by omega
          have f2 : decide ((q : Int) < (q : Int)) = false := decide_eq_false (by omega)
          clear hql hq HV4
          have hws := HBw.out.size
          have HOk := Lib.hid (fm_in (km := wr.heap.size) (HB.out.later HBw.out) (fun e he => he.elim (ring_size HV.out 1 e) (ring_size HV.out 2 e)) (Nat.le_refl _))
          generalize (⟨(wantL f q q).toArray⟩ : ByteArray) = tt at *
          have hc1 : ¬ 9223372036854775807 < tt.size + 1 := by omega
          have hc2 : ¬ 9223372036854775807 < tt.size + 1 + nm.size := by omega
          have hc3 : ¬ 9223372036854775807 < tt.size + 1 + nm.size + 1 := by omega
          have B4 := Lib.hid (B3.out.trans (HBw.out.mono hBs3))
          have hZ := Lib.hid ((Below.refl wr.heap.size wr).alloc (Nat.le_refl _) (.cells #[.int .u32 0, .int .i32 0, .int .u32 0, .map none, .int .i64 0] 55))
          go_wp2_with fail
          go_at_call 11
          refine (format_yes HOk.out nm ⟨#[]⟩ x HX1.out (by rw [HX2.out]) (by rw [hnm]; exact of_decide_eq_true (by kernel_rfl)) [] (.map none) 0 q false (tt ++ ⟨#[123]⟩ ++ nm ++ ⟨#[125]⟩) q 0 [(7, nm)] (fun wb ob => by
            rw [HX2.out]
            exact HAll.out _ rfl HEn.out) _ hZ.out (marks_new0 wr) (.inl ⟨rfl, rfl⟩)).mono ?_
          rintro e w6 ⟨Ae, ce, rfl, hrow, _, hbl, _⟩
          have B6 := Lib.hid (B4.out.trans ((hZ.out.trans hbl).mono B4.out.size))
          have HE1 := Lib.hid (ErAt.row hrow)
          clear hrow hbl hZ HOk B3 B4 HAll HEn HX1 HX2
          have he : ((tt ++ ⟨#[123]⟩ ++ nm ++ ⟨#[125]⟩ : ByteArray).toList == (tt ++ ⟨#[123]⟩ ++ nm ++ ⟨#[125]⟩ : ByteArray).toList) = true := beq_self_eq_true _
          dsimp only [List.length_cons, List.length_nil]
          go_wp2_with fail
          go_at_call 12
          refine (same16_any Ae (some ⟨w6.heap.size, 0, none⟩) ce 1 [(7, nm)] _ (HE1.out.later ((Below.refl _ _).alloc (Nat.le_refl _) _)) (err_lit2 7 nm w6) (by simp)).mono ?_
          rintro e w7 ⟨rfl, hb7⟩
          have B7 := Lib.hid (B6.out.trans (((Below.refl _ w6).alloc (Nat.le_refl _) _ |>.trans (hb7.mono (by simp))).mono B6.out.size))
          clear hb7 B6 HE1
          go_wp2
          go_ret
          exact ⟨rfl, B7.out⟩
end Go.Proofs.YtpgiboblonlddaaGreatDoor
