/-
  Several texts put together (part 49): what the law and the program call, walked; their contracts.
-/
import Derived.Test.YticjinmpanfhkaaGreatDoorQ48
import Derived.Test.YticjinmpanfhkaaGreatDoorQ26
import Derived.Test.YticjinmpanfhkaaGreatDoorQ35
import Derived.Lib.ValidLaws
import Derived.Lib.MapLaws
/-
  What is read may be: places, given the lines' rule of patterns.
-/
namespace Go.Proofs.YticjinmpanfhkaaGreatDoor
open Go.RowKit
set_option linter.unusedVariables false
set_option linter.unusedSimpArgs false

/-- Each place in it may be. -/
def PlsOk (d : Nat) (l : List EL) : Prop := ∀ t e, EL.mk t (some e) ∈ l → okE .brc e d = true
theorem okEs_of {d : Nat} : ∀ l : List EL, PlsOk d l → okEs l d = true
  | [], _ => by rw [okEs]
  | .mk t none :: r, h => by rw [okEs]; exact okEs_of r (fun t' e he => h t' e (List.mem_cons_of_mem _ he))
  | .mk t (some e) :: r, h => by
    rw [okEs, h t e (List.mem_cons_self ..), okEs_of r (fun t' e' he => h t' e' (List.mem_cons_of_mem _ he))]
    rfl
theorem PlsOk.append {d : Nat} {a b : List EL} (h : PlsOk d a) (g : PlsOk d b) : PlsOk d (a ++ b) := fun t e he => by
  rcases List.mem_append.1 he with he | he
  · exact h t e he
  · exact g t e he
theorem PlsOk.text {d : Nat} (t : ByteArray) : PlsOk d [.mk t none] := fun t' e he => by simp at he
theorem PlsOk.nil {d : Nat} : PlsOk d [] := fun t e he => by simp at he
theorem addT_ok {d : Nat} {s : ByteArray} {acc : List EL} (h : PlsOk d acc) (i j : Nat) : PlsOk d (addT s acc i j) := by
  unfold addT
  split
  · exact h.append (PlsOk.text _)
  · exact h
theorem parts_ok {s : ByteArray} {P : Nat → Res} {d : Nat} (hP : ∀ i e j, P i = some (e, j) → okE .brc e d = true) : ∀ (m : Nat) (acc : List EL) (i : Nat) (ps : List EL) (j : Nat), s.size - i ≤ m → PlsOk d acc → partsS P s acc i = some (ps, j) → PlsOk d ps
  | m, acc, i, ps, j, hm, ha, h => by
    rw [partsS] at h
    split at h
    · next hc =>
      split at h
      · cases h
      · next e j' hp =>
        split at h
        · next hl =>
          have ha2 := (addT_ok (s := s) ha i (tx s i)).append (show PlsOk d [.mk E0 (some e)] from fun t e' he => by
            simp at he
            rw [he.2]
            exact hP _ _ _ hp)
          cases m with
          | zero => omega
          | succ m => exact parts_ok hP m _ j' ps j (by omega) ha2 h
        · cases h
    · cases h
      exact addT_ok ha _ _
theorem lines_ok {s : ByteArray} {P : Nat → Res} {d : Nat} (hP : ∀ i e j, P i = some (e, j) → okE .brc e d = true) : ∀ (m : Nat) (acc : List LN) (f p i : Nat) (ls : List LN) (j : Nat), s.size - i ≤ m → (∀ x ∈ acc, PlsOk d x.parts) → linesS P s acc f p i = some (ls, j) → ∀ x ∈ ls, PlsOk d x.parts
  | m, acc, f, p, i, ls, j, hm, ha, h => by
    rw [linesS] at h
    split at h
    · cases h
    · next ps j' hp =>
      have hps := parts_ok hP s.size [] i ps j' (by omega) PlsOk.nil hp
      have ha2 : ∀ x ∈ acc ++ [(⟨f, p, ps⟩ : LN)], PlsOk d x.parts := fun x hx => by
        rcases List.mem_append.1 hx with hx | hx
        · exact ha x hx
        · simp at hx; rw [hx]; exact hps
      split at h
      · cases h
        exact ha2
      · split at h
        · next f' p' k hl =>
          cases m with
          | zero => omega
          | succ m => exact lines_ok hP m _ _ _ _ ls j (by omega) ha2 h
        · cases h
theorem endS_ok {d : Nat} {b : JS} (h : PlsOk d b.1) : PlsOk d (endS b) := by
  unfold endS
  split
  · exact h
  · exact h.append (PlsOk.text _)
theorem partJ_ok {d : Nat} {b : JS} (h : PlsOk d b.1) : ∀ x : EL, (∀ t e, x = .mk t (some e) → okE .brc e d = true) → PlsOk d (partJ b x).1
  | .mk t none, _ => h
  | .mk t (some e), hx => (endS_ok h).append (fun t' e' he => by
      simp at he
      rw [he.2]
      exact hx t e rfl)
theorem parts_fold {d : Nat} : ∀ (l : List EL) (b : JS), PlsOk d b.1 → PlsOk d l → PlsOk d (l.foldl partJ b).1
  | [], b, h, _ => h
  | x :: r, b, h, hl => parts_fold r _ (partJ_ok h x (fun t e e1 => hl t e (by rw [e1]; exact List.mem_cons_self ..))) (fun t e he => hl t e (List.mem_cons_of_mem _ he))
theorem lines_fold {d least : Nat} : ∀ (ls : List LN) (b : JS), PlsOk d b.1 → (∀ x ∈ ls, PlsOk d x.parts) → PlsOk d (ls.foldl (lineJ least) b).1
  | [], b, h, _ => h
  | x :: r, b, h, hl => by
    refine lines_fold r _ ?_ (fun y hy => hl y (List.mem_cons_of_mem _ hy))
    unfold lineJ
    refine parts_fold _ _ ?_ (hl x (List.mem_cons_self ..))
    unfold headJ
    split
    · exact h
    · exact h
theorem join_ok {d : Nat} {ls : List LN} (h : ∀ x ∈ ls, PlsOk d x.parts) : PlsOk d (joinS ls) := by
  unfold joinS
  exact endS_ok (lines_fold ls ([], []) PlsOk.nil h)
theorem pat_okEs {s : ByteArray} {P : Nat → Res} {d : Nat} (hP : ∀ i e j, P i = some (e, j) → okE .brc e d = true) {i : Nat} {l : List EL} {j : Nat} (h : patS P s i = some (l, j)) : okEs l d = true := by
  unfold patS at h
  split at h
  · cases h
  · next ls j' hl =>
    cases h
    exact okEs_of _ (join_ok (lines_ok hP s.size [] 0 0 _ ls _ (by omega) (fun x hx => by simp at hx) hl))
/-- The lines' rule of each pattern that is read. -/
def PatRule (s : ByteArray) : Prop := ∀ (r i : Nat) (l : List EL) (j : Nat) (c : UInt8), isAt s i c = true → c.toNat < 128 → patS (placeS s r) s (i + 1) = some (l, j) → patL l = true
theorem vari_ok {s : ByteArray} {r d : Nat} (hR : PatRule s) (hP : ∀ i e j, placeS s r i = some (e, j) → okE .brc e (d + 1) = true) {i : Nat} {v : VA} {j : Nat} (h : variS (placeS s r) s i = some (v, j)) :
    (isNameV (vaKey v) || isNum (vaKey v)) = true ∧ (vaVal v).isEmpty = false ∧ patL (vaVal v) = true ∧ okEs (vaVal v) (d + 1) = true := by
  unfold variS at h
  obtain ⟨q, hq⟩ : ∃ q, (if isAt s i 42 = true then i + 1 else i) = q := ⟨_, rfl⟩
  rw [hq] at h
  split at h
  · next hc =>
    have hqs := isAt_lt hc
    have hb := bl_ok s (q + 1) (by omega)
    split at h
    · cases h
    · next hk =>
      split at h
      · next h93 =>
        split at h
        · cases h
        · next l j' hp =>
          split at h
          · next hl =>
            cases h
            rw [Bool.and_eq_true, Bool.not_eq_true'] at hl
            refine ⟨?_, hl.2, hR r _ _ _ _ h93 (by decide) hp, pat_okEs hP hp⟩
            show (isNameV (s.extract (bl s (q + 1)) (keyE s (bl s (q + 1)))) || isNum (s.extract (bl s (q + 1)) (keyE s (bl s (q + 1))))) = true
            unfold keyE at hk ⊢
            by_cases hn : nm s (bl s (q + 1)) = bl s (q + 1)
            · rw [if_pos hn] at hk ⊢
              rw [num_ok hb.2 hk, Bool.or_true]
            · rw [if_neg hn]
              rw [name_ok hn]; rfl
          · cases h
      · cases h
  · cases h
theorem okVs_snoc {d : Nat} {v : VA} (hv : okEs (vaVal v) (d + 1) = true) : ∀ vs : List VA, okVs vs d = true → okVs (vs ++ [v]) d = true
  | [], _ => by
    obtain ⟨k, b, l⟩ := v
    rw [List.nil_append, okVs, okVs]
    have hv2 : okEs l (d + 1) = true := hv
    rw [hv2]; rfl
  | .mk k b l :: r, h => by
    rw [okVs, Bool.and_eq_true] at h
    rw [List.cons_append, okVs, h.1, okVs_snoc hv r h.2]
    rfl
theorem vars_ok {s : ByteArray} {r d : Nat} (hR : PatRule s) (hP : ∀ i e j, placeS s r i = some (e, j) → okE .brc e (d + 1) = true) : ∀ (m : Nat) (acc : List VA) (i : Nat) (vs : List VA) (j : Nat), s.size - i ≤ m → okVs acc d = true → (acc.all (fun v => (isNameV (vaKey v) || isNum (vaKey v)) && !(vaVal v).isEmpty && patL (vaVal v))) = true →
    varsS (placeS s r) s acc i = some (vs, j) → okVs vs d = true ∧ varsL vs = true
  | m, acc, i, vs, j, hm, ha, hb, h => by
    rw [varsS] at h
    split at h
    · split at h
      · next hc =>
        cases h
        refine ⟨ha, ?_⟩
        unfold varsL
        rw [hb, hc]
        rfl
      · cases h
    · split at h
      · cases h
      · next v j' hv =>
        split at h
        · next hl =>
          obtain ⟨g1, g2, g3, g4⟩ := vari_ok hR hP hv
          cases m with
          | zero => omega
          | succ m =>
            refine vars_ok hR hP m (acc ++ [v]) _ vs j (by omega) (okVs_snoc g4 acc ha) ?_ h
            rw [List.all_append, hb, List.all_cons, g1, g2, g3]
            rfl
        · cases h
theorem place_ok {s : ByteArray} (hStr : ∀ i t n, unqAll (s.extract i s.size) = some (t, n) → validB (mkB t) = true) (hR : PatRule s) : ∀ (r d : Nat), d + r = 21 → ∀ i e j, placeS s r i = some (e, j) → okE .brc e d = true
  | 0, d, _, i, e, j, h => by rw [placeS] at h; cases h
  | r + 1, d, hd, i, e, j, h => by
    have hP := place_ok hStr hR r (d + 1) (by omega)
    rw [placeS] at h
    split at h
    · next hc =>
      have hi := isAt_lt hc
      have hb := bl_ok s (i + 1) (by omega)
      split at h
      · cases h
      · next e0 j0 hin =>
        obtain ⟨g1, g2⟩ := inl_ok hStr hP hb.2 hin
        split at h
        · split at h
          · cases h
          · next ht =>
            cases h
            have hI := g1 (by simpa using ht)
            obtain ⟨k, t, n, a, al, ie, vs⟩ := e
            rw [okE] at hI
            rw [okE]
            have hk7 : k ≠ 7 := by
              rintro rfl
              unfold inlP at hI
              simp at hI
            rw [decide_eq_true (by omega), if_neg hk7, hI]
            rfl
        · split at h
          · next hm =>
            rw [Bool.and_eq_true, Bool.and_eq_true] at hm
            split at h
            · cases h
            · next vs m hv =>
              cases h
              unfold selS at hv
              split at hv
              · obtain ⟨v1, v2⟩ := vars_ok hR hP s.size [] _ vs _ (by omega) rfl rfl hv
                rw [okE, decide_eq_true (by omega), if_pos rfl, emp_E0, v1, v2, okO, g2 hm.2]
                rfl
              · cases hv
          · cases h
    · cases h
end Go.Proofs.YticjinmpanfhkaaGreatDoor

/-
  What is read may be: texts made of signs alone.
-/
namespace Go.Proofs.YticjinmpanfhkaaGreatDoor
open Go.RowKit
set_option linter.unusedVariables false
set_option linter.unusedSimpArgs false

def okRune (r : Nat) : Prop := r < 55296 ∨ (57343 < r ∧ r ≤ 1114111)
theorem decodeL_ok (l : List UInt8) : okRune (Lib.decodeL l).1 := by
  rw [Lib.decodeL_N]
  have k0 := (l.getD 0 0).toNat_lt
  have k1 := (l.getD 1 0).toNat_lt
  unfold okRune
  rcases Lib.decodeN_shape l.length (l.getD 0 0).toNat (l.getD 1 0).toNat (l.getD 2 0).toNat (l.getD 3 0).toNat with ⟨c, e⟩ | ⟨c1, c2, c3, cv, e⟩ | ⟨c1, c2, c3, c4, cv, cs, e⟩ | ⟨c1, c2, c3, c4, c5, cv, cw, e⟩ | e
  all_goals (rw [e]; dsimp only; omega)
theorem byte_z (z : Nat) (h : z < 256) : ((z : Int).toNat.toUInt8).toNat = z := by
  have : (z : Int).toNat = z := by omega
  rw [this]
  simp [UInt8.toNat_ofNat', Nat.toUInt8]
  omega
theorem enc1 (r : Nat) (h : r ≤ 127) : Lib.encodeRune (r : Int) = [(r : Int).toNat.toUInt8] := by
  unfold Lib.encodeRune
  rw [Lib.encodeRuneZ_one (by omega) (by omega)]
  rfl
theorem enc2 (r : Nat) (h0 : 128 ≤ r) (h1 : r ≤ 2047) : Lib.encodeRune (r : Int) = [((192 + r / 64 : Nat) : Int).toNat.toUInt8, ((128 + r % 64 : Nat) : Int).toNat.toUInt8] := by
  unfold Lib.encodeRune
  rw [Lib.encodeRuneZ_two (by omega) (by omega)]
  have e1 : 192 + (r : Int) / 64 = ((192 + r / 64 : Nat) : Int) := by omega
  have e2 : 128 + (r : Int) % 64 = ((128 + r % 64 : Nat) : Int) := by omega
  rw [e1, e2]
  rfl
theorem enc3 (r : Nat) (h0 : (2048 ≤ r ∧ r < 55296) ∨ (57343 < r ∧ r ≤ 65535)) : Lib.encodeRune (r : Int) = [((224 + r / 4096 : Nat) : Int).toNat.toUInt8, ((128 + r / 64 % 64 : Nat) : Int).toNat.toUInt8, ((128 + r % 64 : Nat) : Int).toNat.toUInt8] := by
  unfold Lib.encodeRune
  rw [Lib.encodeRuneZ_three (by omega)]
  have e1 : 224 + (r : Int) / 4096 = ((224 + r / 4096 : Nat) : Int) := by omega
  have e2 : 128 + (r : Int) / 64 % 64 = ((128 + r / 64 % 64 : Nat) : Int) := by omega
  have e3 : 128 + (r : Int) % 64 = ((128 + r % 64 : Nat) : Int) := by omega
  rw [e1, e2, e3]
  rfl
theorem enc4 (r : Nat) (h0 : 65536 ≤ r) (h1 : r ≤ 1114111) : Lib.encodeRune (r : Int) = [((240 + r / 262144 : Nat) : Int).toNat.toUInt8, ((128 + r / 4096 % 64 : Nat) : Int).toNat.toUInt8, ((128 + r / 64 % 64 : Nat) : Int).toNat.toUInt8, ((128 + r % 64 : Nat) : Int).toNat.toUInt8] := by
  unfold Lib.encodeRune
  rw [Lib.encodeRuneZ_four (by omega) (by omega)]
  have e1 : 240 + (r : Int) / 262144 = ((240 + r / 262144 : Nat) : Int) := by omega
  have e2 : 128 + (r : Int) / 4096 % 64 = ((128 + r / 4096 % 64 : Nat) : Int) := by omega
  have e3 : 128 + (r : Int) / 64 % 64 = ((128 + r / 64 % 64 : Nat) : Int) := by omega
  have e4 : 128 + (r : Int) % 64 = ((128 + r % 64 : Nat) : Int) := by omega
  rw [e1, e2, e3, e4]
  rfl
/-- A sign that was encoded is decoded again, whatever stands behind it. -/
theorem dec_enc (r : Nat) (h : okRune r) (m : List UInt8) : Lib.decodeL (Lib.encodeRune (r : Int) ++ m) = (r, (Lib.encodeRune (r : Int)).length) := by
  rw [Lib.decodeL_N]
  by_cases c1 : r ≤ 127
  · rw [enc1 r c1]
    simp only [List.cons_append, List.nil_append, List.getD_cons_zero, List.length_cons, List.length_nil]
    rw [byte_z r (by omega)]
    unfold Lib.decodeN
    rw [if_pos (by omega)]
  by_cases c2 : r ≤ 2047
  · rw [enc2 r (by omega) c2]
    simp only [List.cons_append, List.nil_append, List.getD_cons_zero, List.getD_cons_succ, List.length_cons, List.length_nil]
    rw [byte_z _ (by omega), byte_z _ (by omega)]
    unfold Lib.decodeN
    rw [if_neg (by omega), if_pos ⟨by omega, by omega, by omega⟩, if_pos (by omega)]
    congr 1
    omega
  by_cases c3 : r ≤ 65535
  · have h3 : (2048 ≤ r ∧ r < 55296) ∨ (57343 < r ∧ r ≤ 65535) := by
      unfold okRune at h; omega
    rw [enc3 r h3]
    simp only [List.cons_append, List.nil_append, List.getD_cons_zero, List.getD_cons_succ, List.length_cons, List.length_nil]
    rw [byte_z _ (by omega), byte_z _ (by omega), byte_z _ (by omega)]
    unfold Lib.decodeN
    have hv : (224 + r / 4096) % 16 * 4096 + (128 + r / 64 % 64) % 64 * 64 + (128 + r % 64) % 64 = r := by omega
    rw [if_neg (by omega), if_neg (by omega), if_pos ⟨by omega, ⟨by omega, by omega⟩, by omega, by omega⟩, hv, if_pos (by omega)]
  · have h4 : 65536 ≤ r ∧ r ≤ 1114111 := by
      unfold okRune at h; omega
    rw [enc4 r h4.1 h4.2]
    simp only [List.cons_append, List.nil_append, List.getD_cons_zero, List.getD_cons_succ, List.length_cons, List.length_nil]
    rw [byte_z _ (by omega), byte_z _ (by omega), byte_z _ (by omega), byte_z _ (by omega)]
    unfold Lib.decodeN
    have hv : (240 + r / 262144) % 8 * 262144 + (128 + r / 4096 % 64) % 64 * 4096 + (128 + r / 64 % 64) % 64 * 64 + (128 + r % 64) % 64 = r := by omega
    rw [if_neg (by omega), if_neg (by omega), if_neg (by omega), if_pos ⟨by omega, ⟨by omega, by omega⟩, ⟨by omega, by omega⟩, by omega, by omega⟩, hv, if_pos (by omega)]
theorem enc_len (r : Int) : 1 ≤ (Lib.encodeRune r).length := by
  have := (Lib.runeCells_le r).1
  rw [Lib.runeCells_length] at this
  exact this
theorem enc_ne (r : Int) (m : List UInt8) : Lib.encodeRune r ++ m ≠ [] := by
  intro e
  have h1 := enc_len r
  have h2 := congrArg List.length e
  rw [List.length_append, List.length_nil] at h2
  omega
theorem valid_enc (r : Nat) (h : okRune r) (m : List UInt8) : Lib.validD (Lib.encodeRune (r : Int) ++ m) = Lib.validD m := by
  rw [Lib.validD_step _ (enc_ne _ _), dec_enc r h m]
  have hl : ¬ (r = 65533 ∧ (Lib.encodeRune (r : Int)).length = 1) := by
    rintro ⟨rfl, h1⟩
    rw [enc3 65533 (by omega)] at h1
    simp at h1
  rw [if_neg hl]
  dsimp only
  rw [List.drop_left]
theorem valid_encZ (r : Int) (m : List UInt8) : Lib.validD (Lib.encodeRune r ++ m) = Lib.validD m := by
  by_cases h : r < 0 ∨ (55296 ≤ r ∧ r ≤ 57343) ∨ 1114111 < r
  · have e : Lib.encodeRune r = Lib.encodeRune ((65533 : Nat) : Int) := by
      rw [enc3 65533 (by omega)]
      unfold Lib.encodeRune
      rw [Lib.encodeRuneZ_bad h]
      rfl
    rw [e]
    exact valid_enc 65533 (Or.inr (by omega)) m
  · obtain ⟨n, rfl⟩ : ∃ n : Nat, r = n := ⟨r.toNat, by omega⟩
    exact valid_enc n (by unfold okRune; omega) m
theorem valid_one (r : Int) : Lib.validD (Lib.encodeRune r) = true := by
  have := valid_encZ r []
  rw [List.append_nil] at this
  rw [this]; rfl
theorem valid_app : ∀ (k : Nat) (a b : List UInt8), a.length ≤ k → Lib.validD a = true → Lib.validD (a ++ b) = Lib.validD b
  | _, [], b, _, _ => rfl
  | 0, c :: a, b, h, _ => by simp at h
  | k + 1, c :: a, b, h, hv => by
    rw [Lib.validD_step _ (by simp)] at hv
    split at hv
    · cases hv
    · next hn =>
      have hd := Lib.encode_decode (c :: a) (by simp) hn
      have hw := Lib.decodeL_width (c :: a)
      have hr := decodeL_ok (c :: a)
      have e : c :: a ++ b = Lib.encodeRune ((Lib.decodeL (c :: a)).1 : Int) ++ ((c :: a).drop (Lib.decodeL (c :: a)).2 ++ b) := by rw [hd, ← List.append_assoc, List.take_append_drop]
      rw [e, valid_enc _ hr]
      exact valid_app k _ b (by rw [List.length_drop]; simp only [List.length_cons] at h ⊢; omega) hv
theorem valid_two {a b : List UInt8} (ha : Lib.validD a = true) (hb : Lib.validD b = true) : Lib.validD (a ++ b) = true := by
  rw [valid_app a.length a b (Nat.le_refl _) ha]; exact hb
theorem enc_high (r : Nat) (h : okRune r) (h1 : 1 < (Lib.encodeRune (r : Int)).length) : ∀ c ∈ Lib.encodeRune (r : Int), 128 ≤ c.toNat := by
  intro c hc
  by_cases c1 : r ≤ 127
  · rw [enc1 r c1] at h1
    simp at h1
  by_cases c2 : r ≤ 2047
  · rw [enc2 r (by omega) c2] at hc
    simp only [List.mem_cons, List.not_mem_nil, or_false] at hc
    rcases hc with rfl | rfl <;> (rw [byte_z _ (by omega)]; omega)
  by_cases c3 : r ≤ 65535
  · have h3 : (2048 ≤ r ∧ r < 55296) ∨ (57343 < r ∧ r ≤ 65535) := by
      unfold okRune at h; omega
    rw [enc3 r h3] at hc
    simp only [List.mem_cons, List.not_mem_nil, or_false] at hc
    rcases hc with rfl | rfl | rfl <;> (rw [byte_z _ (by omega)]; omega)
  · have h4 : 65536 ≤ r ∧ r ≤ 1114111 := by
      unfold okRune at h; omega
    rw [enc4 r h4.1 h4.2] at hc
    simp only [List.mem_cons, List.not_mem_nil, or_false] at hc
    rcases hc with rfl | rfl | rfl | rfl <;> (rw [byte_z _ (by omega)]; omega)
/-- Cut at a byte below 128, both pieces are made of signs. -/
theorem valid_split : ∀ (k : Nat) (a : List UInt8) (c : UInt8) (b : List UInt8), a.length ≤ k → c.toNat < 128 → Lib.validD (a ++ c :: b) = true → Lib.validD a = true ∧ Lib.validD b = true
  | _, [], c, b, _, hc, hv => by
    rw [List.nil_append, Lib.validD_cons c b hc] at hv
    exact ⟨rfl, hv⟩
  | 0, x :: a, c, b, h, _, _ => by simp at h
  | k + 1, x :: a, c, b, h, hc, hv => by
    rw [Lib.validD_step _ (by simp)] at hv
    split at hv
    · cases hv
    · next hn =>
      have hd := Lib.encode_decode (x :: a ++ c :: b) (by simp) hn
      have hw := Lib.decodeL_width (x :: a ++ c :: b)
      have hr := decodeL_ok (x :: a ++ c :: b)
      obtain ⟨n, hnn⟩ : ∃ n, (Lib.decodeL (x :: a ++ c :: b)).2 = n := ⟨_, rfl⟩
      obtain ⟨r, hrr⟩ : ∃ r, (Lib.decodeL (x :: a ++ c :: b)).1 = r := ⟨_, rfl⟩
      rw [hnn] at hd hw hv
      rw [hrr] at hd hr
      have hle : n ≤ (x :: a).length := by
        refine Nat.le_of_not_lt fun hlt => ?_
        have hlen : (Lib.encodeRune (r : Int)).length = min n (x :: a ++ c :: b).length := by rw [hd, List.length_take]
        have h2 : 1 < (Lib.encodeRune (r : Int)).length := by
          rw [hlen, List.length_append]
          simp only [List.length_cons] at hlt ⊢
          omega
        have hm : c ∈ (x :: a ++ c :: b).take n := by
          have : (x :: a ++ c :: b).take n = x :: a ++ (c :: b).take (n - (x :: a).length) := by
            rw [List.take_append, List.take_of_length_le (by omega)]
          rw [this]
          obtain ⟨m, hm⟩ : ∃ m, n - (x :: a).length = m + 1 := ⟨n - (x :: a).length - 1, by omega⟩
          rw [hm, List.take_succ_cons]
          simp
        have := enc_high r hr h2 c (by rw [hd]; exact hm)
        omega
      rw [List.drop_append_of_le_length hle] at hv
      rw [List.take_append_of_le_length hle] at hd
      have ih := valid_split k _ c b (by rw [List.length_drop]; simp only [List.length_cons] at h ⊢; omega) hc hv
      refine ⟨?_, ih.2⟩
      have e : x :: a = Lib.encodeRune (r : Int) ++ (x :: a).drop n := by rw [hd, List.take_append_drop]
      rw [e, valid_enc r hr]
      exact ih.1
theorem unq_valid (s : ByteArray) : ∀ (f pos next : Nat) (acc t : List UInt8) (n : Nat), Lib.validD acc = true → unqFrom s f pos next acc = some (t, n) → Lib.validD t = true
  | 0, _, _, _, _, _, _, h => by rw [unqFrom] at h; cases h
  | f + 1, pos, next, acc, t, n, ha, h => by
    rw [unqFrom] at h
    split at h
    · split at h
      · exact unq_valid s f _ _ _ t n ha h
      · split at h
        · cases h; exact ha
        · split at h
          · cases h
          · split at h
            · split at h
              · cases h
              · exact unq_valid s f _ _ _ t n (valid_two ha (valid_one _)) h
            · exact unq_valid s f _ _ _ t n (valid_two ha (valid_one _)) h
    · cases h
theorem hStr_ok (s : ByteArray) : ∀ i t n, unqAll (s.extract i s.size) = some (t, n) → validB (mkB t) = true := by
  intro i t n h
  unfold unqAll at h
  split at h
  · exact unq_valid _ _ _ _ _ t n rfl h
  · cases h
/-- Made of signs alone, without carriage returns. -/
structure Sn (s : ByteArray) : Prop where
  ok : Lib.validD s.data.toList = true
  cr : ∀ c ∈ s.data.toList, c ≠ 13
theorem Sn.of {s : ByteArray} (h : textOk s = true) : Sn s := by
  unfold textOk at h
  rw [Bool.and_eq_true, Bool.and_eq_true, Bool.not_eq_true'] at h
  obtain ⟨⟨h1, h2⟩, _⟩ := h
  rw [← valid_sig] at h1
  refine ⟨h1, fun c hc e => ?_⟩
  rw [List.any_eq_false] at h2
  exact h2 c hc (by rw [e]; rfl)
/-- What stands from a place on is made of signs. -/
def Bd (s : ByteArray) (i : Nat) : Prop := Lib.validD (s.data.toList.drop i) = true
theorem drop_at {s : ByteArray} {i : Nat} (hi : i < s.size) : s.data.toList.drop i = at0 s.data.toList i :: s.data.toList.drop (i + 1) := by
  rw [List.drop_eq_getElem_cons (by rw [size_data]; exact hi), at0_get _ _ (by rw [size_data]; exact hi)]
theorem bd_next {s : ByteArray} (hs : Sn s) {i : Nat} (hi : i < s.size) (hc : (at0 s.data.toList i).toNat < 128) : Bd s (i + 1) := by
  have h := hs.ok
  rw [← List.take_append_drop i s.data.toList, drop_at hi] at h
  exact (valid_split _ _ _ _ (Nat.le_refl _) hc h).2
theorem bd_here {s : ByteArray} (hs : Sn s) {i : Nat} (hi : i < s.size) (hc : (at0 s.data.toList i).toNat < 128) : Bd s i := by
  unfold Bd
  rw [drop_at hi, Lib.validD_cons _ _ hc]
  exact bd_next hs hi hc
theorem isAt_eq {s : ByteArray} {i : Nat} {c : UInt8} (h : isAt s i c = true) : at0 s.data.toList i = c := by
  unfold isAt at h
  rw [Bool.and_eq_true, beq_iff_eq] at h
  exact h.2
theorem bd_behind {s : ByteArray} (hs : Sn s) {i : Nat} {c : UInt8} (h : isAt s i c = true) (hc : c.toNat < 128) : Bd s (i + 1) := bd_next hs (isAt_lt h) (by rw [isAt_eq h]; exact hc)
theorem bd_end (s : ByteArray) {i : Nat} (h : s.size ≤ i) : Bd s i := by
  unfold Bd
  rw [List.drop_eq_nil_of_le (by rw [size_data]; exact h)]
  rfl
theorem piece_valid {s : ByteArray} {i j : Nat} (hb : Bd s i) (hij : i ≤ j) (hj : s.size ≤ j ∨ (j < s.size ∧ (at0 s.data.toList j).toNat < 128)) : Lib.validD (s.extract i j).data.toList = true := by
  rw [extract_list]
  rcases hj with hj | ⟨hj, hc⟩
  · rw [List.take_of_length_le (by rw [size_data]; exact hj)]
    exact hb
  · unfold Bd at hb
    have e : s.data.toList.drop i = (s.data.toList.take j).drop i ++ at0 s.data.toList j :: s.data.toList.drop (j + 1) := by
      rw [← drop_at hj]
      have := List.take_append_drop j s.data.toList
      conv => lhs; rw [← this]
      rw [List.drop_append_of_le_length (by rw [List.length_take, size_data]; omega)]
    rw [e] at hb
    exact (valid_split _ _ _ _ (Nat.le_refl _) hc hb).1
theorem mem_extract {s : ByteArray} {i j : Nat} {c : UInt8} (h : c ∈ (s.extract i j).data.toList) : ∃ k, i ≤ k ∧ k < j ∧ k < s.size ∧ at0 s.data.toList k = c := by
  rw [extract_list] at h
  obtain ⟨m, hm, e⟩ := List.mem_iff_getElem.1 h
  rw [List.length_drop, List.length_take, size_data] at hm
  refine ⟨i + m, by omega, by omega, by omega, ?_⟩
  rw [← e, List.getElem_drop, List.getElem_take, at0_get _ _ (by rw [size_data]; omega)]
theorem bd_sp {s : ByteArray} (hs : Sn s) {i : Nat} (hb : Bd s i) : Bd s (sp s i) := by
  by_cases h : sp s i = i
  · rw [h]; exact hb
  · have h1 := sp_ge s i
    have h2 := behN_so spB s.data.toList i (sp s i - 1) (by omega) (by unfold sp at *; omega)
    have h3 : sp s i - 1 < s.size := by
      refine Nat.lt_of_not_le fun hle => h ?_
      unfold sp
      refine behN_end _ _ _ ?_
      rw [size_data]
      refine Nat.le_of_not_lt fun hlt => ?_
      have := (sp_ok s i (Nat.le_of_lt hlt)).2
      omega
    have h4 := bd_next hs h3 (by
      unfold spB at h2
      rw [decide_eq_true_iff] at h2
      omega)
    rw [show sp s i - 1 + 1 = sp s i by omega] at h4
    exact h4
end Go.Proofs.YticjinmpanfhkaaGreatDoor
