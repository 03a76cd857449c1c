/-
  Several texts put together (part 30): what the law and the program call, walked; their contracts.
-/
import Derived.Test.YtdoambpiafkmmaaGreatDoorQ29
import Derived.Test.YtdoambpiafkmmaaGreatDoorQ26
import Derived.Test.YtdoambpiafkmmaaGreatDoorQ20
namespace Go.Proofs.YtdoambpiafkmmaaGreatDoor
open Go.RowKit
set_option linter.unusedVariables false
set_option linter.unusedSimpArgs false
theorem wtP_append (a b : List EL) : wtP (a ++ b) = wtP a + wtP b := by
  unfold wtP
  rw [List.map_append, List.sum_append]
theorem wtLs_append (a b : List LN) : wtLs (a ++ b) = wtLs a + wtLs b := by
  unfold wtLs
  rw [List.map_append, List.sum_append]
theorem wtP_one (t : ByteArray) (p : Option EX) : wtP [.mk t p] = 1 + t.size := by
  unfold wtP
  show (1 + t.size) + 0 = _
  omega
theorem addT_wt (s : ByteArray) (acc : List EL) (i t : Nat) (h1 : i ≤ t) (h2 : t ≤ s.size) : wtP (addT s acc i t) ≤ wtP acc + 2 * (t - i) := by
  unfold addT
  split
  · rw [wtP_append, wtP_one, ByteArray.size_extract]
    omega
  · omega
theorem parts_wt {s : ByteArray} {P : Nat → Res} (hPos : PosOk s P) : ∀ (m : Nat) (acc : List EL) (i : Nat), s.size - i ≤ m → i ≤ s.size → ∀ ps j, partsS P s acc i = some (ps, j) → wtP ps ≤ wtP acc + 2 * (j - i) ∧ i ≤ j := by
  intro m
  induction m with
  | zero =>
    intro acc i hm hi ps j h
    have ht := tx_ok s i hi
    rw [partsS] at h
    split at h
    · next hc => have := isAt_lt hc; omega
    · cases h
      exact ⟨addT_wt s acc i _ ht.1 ht.2, ht.1⟩
  | succ m ih =>
    intro acc i hm hi ps j h
    have ht := tx_ok s i hi
    have ha := addT_wt s acc i _ ht.1 ht.2
    rw [partsS] at h
    split at h
    · split at h
      · cases h
      · next e j' hp =>
        split at h
        · next hg =>
          have h3 := hPos _ _ _ hp
          have h4 := ih _ _ (by omega) hg.2 ps j h
          rw [wtP_append, wtP_one] at h4
          have : (E0 : ByteArray).size = 0 := rfl
          omega
        · cases h
    · cases h
      exact ⟨ha, ht.1⟩
theorem nl_wt {s : ByteArray} (i0 : Nat) : ∀ (m f fr q : Nat), s.size - q ≤ m → q ≤ s.size → fr ≤ q → f + (q - fr) + i0 ≤ q → (nlS s f fr q).2.1 ≤ (nlS s f fr q).2.2 ∧ (nlS s f fr q).1 + ((nlS s f fr q).2.2 - (nlS s f fr q).2.1) + i0 ≤ (nlS s f fr q).2.2 := by
  intro m
  induction m with
  | zero =>
    intro f fr q hm hq h1 h2
    rw [nlS]
    split
    · next hc => have := isAt_lt hc; omega
    · exact ⟨h1, h2⟩
  | succ m ih =>
    intro f fr q hm hq h1 h2
    rw [nlS]
    split
    · next hc =>
      have := isAt_lt hc
      have h3 := sp_ok s (q + 1) this
      exact ih _ _ _ (by omega) h3.2 h3.1 (by omega)
    · exact ⟨h1, h2⟩
theorem next_wt {s : ByteArray} {i : Nat} (hi : i ≤ s.size) {f p k : Nat} (h : nextS s i = some (f, p, k)) : f + p + i ≤ k := by
  have := nl_wt i (s.size - i) 0 i i (Nat.le_refl _) hi (Nat.le_refl _) (by omega)
  unfold nextS at h
  split at h
  · cases h
  · cases h
    exact this.2
theorem lines_wt {s : ByteArray} {P : Nat → Res} (hPos : PosOk s P) : ∀ (m : Nat) (acc : List LN) (f p i : Nat), s.size - i ≤ m → i ≤ s.size → ∀ ls j, linesS P s acc f p i = some (ls, j) → wtLs ls ≤ wtLs acc + 1 + f + p + 3 * (j - i) ∧ i ≤ j := by
  intro m
  induction m with
  | zero =>
    intro acc f p i hm hi ls j h
    rw [linesS] at h
    split at h
    · cases h
    · next ps j0 hp =>
      have h1 := parts_wt hPos _ _ _ (Nat.le_refl _) hi _ _ hp
      split at h
      · cases h
        rw [wtLs_append]
        refine ⟨?_, h1.2⟩
        have h2 : wtP ([] : List EL) = 0 := rfl
        show wtLs acc + ((1 + f + p + wtP ps) + 0) ≤ _
        omega
      · split at h
        · next hg => omega
        · cases h
  | succ m ih =>
    intro acc f p i hm hi ls j h
    rw [linesS] at h
    split at h
    · cases h
    · next ps j0 hp =>
      have h1 := parts_wt hPos _ _ _ (Nat.le_refl _) hi _ _ hp
      have hj0 := (parts_pos _ _ _ (Nat.le_refl _) hi _ _ hp).2
      have h2 : wtP ([] : List EL) = 0 := rfl
      split at h
      · cases h
        rw [wtLs_append]
        refine ⟨?_, h1.2⟩
        show wtLs acc + ((1 + f + p + wtP ps) + 0) ≤ _
        omega
      · next f' p' k hn =>
        split at h
        · next hg =>
          have h3 := next_wt hj0 hn
          have h4 := ih _ _ _ _ (by omega) hg.2 ls j h
          rw [wtLs_append] at h4
          have h5 : wtLs [(⟨f, p, ps⟩ : LN)] = 1 + f + p + wtP ps := by show (1 + f + p + wtP ps) + 0 = _; omega
          omega
        · cases h
theorem infoLine : (Tryz.prog.info? 108).map (fun i => (i.zero, i.size, i.bytes)) = some (some (.agg #[.int .i64 0, .int .i64 0, .slice none 0 0]), 3, 40) := by kernel_rfl
def LZip (W : World) (F : Nat → Prop) : List LN → List Value → Prop
  | [], xs => xs = []
  | x :: r, xs => ∃ A c ys, xs = .int .i64 x.feeds :: .int .i64 x.spaces :: .slice A x.parts.length c :: ys ∧ PatF W F x.parts (.slice A x.parts.length c) ∧ LZip W F r ys
theorem LZip.snoc {W : World} {F : Nat → Prop} {f p : Nat} {l : List EL} {A : Option Addr} {c : Nat} (hp : PatF W F l (.slice A l.length c)) : ∀ (acc : List LN) (xs : List Value), LZip W F acc xs → LZip W F (acc ++ [⟨f, p, l⟩]) (xs ++ [.int .i64 f, .int .i64 p, .slice A l.length c])
  | [], xs, h => by
    rw [LZip] at h
    subst h
    exact ⟨A, c, [], rfl, hp, rfl⟩
  | x :: r, xs, h => by
    rw [LZip] at h
    obtain ⟨A', c', ys, rfl, h2, h3⟩ := h
    exact ⟨A', c', _, rfl, h2, LZip.snoc hp r ys h3⟩
theorem LZip.carry {W W' : World} {F F' : Nat → Prop} (g : ∀ b, F b → F' b ∧ W'.heap[b]? = W.heap[b]?) : ∀ (acc : List LN) (xs : List Value), LZip W F acc xs → LZip W' F' acc xs
  | [], xs, h => by rw [LZip] at h ⊢; exact h
  | x :: r, xs, h => by
    rw [LZip] at h
    obtain ⟨A', c', ys, rfl, h2, h3⟩ := h
    exact ⟨A', c', ys, rfl, h2.carry g, LZip.carry g r ys h3⟩
theorem LZip.at_ {W : World} {F : Nat → Prop} {g : Nat} : ∀ (acc : List LN) (xs : List Value) (o : Nat), (∀ j x, xs[j]? = some x → W.cell? ⟨g, o + j, none⟩ = some x) → LZip W F acc xs → LsAt W F g o acc
  | [], xs, o, hc, h => fun k x hx => by simp at hx
  | y :: r, xs, o, hc, h => by
    rw [LZip] at h
    obtain ⟨A', c', ys, rfl, h2, h3⟩ := h
    intro k x hx
    cases k with
    | zero =>
      simp at hx
      subst hx
      exact ⟨hc 0 _ rfl, hc 1 _ rfl, A', c', hc 2 _ rfl, h2⟩
    | succ k =>
      have := LZip.at_ r ys (o + 3) (fun j x hx => by
        have := hc (j + 3) x (by simpa using hx)
        rw [show o + 3 + j = o + (j + 3) by omega]
        exact this) h3 k x (by simpa using hx)
      rw [show o + (k + 1) * 3 = o + 3 + k * 3 by omega]
      exact this
def OwnL (B : Nat) (W : World) (v : Value) (acc : List LN) : Prop := ∃ xs, W.ownsRow B 108 3 v acc.length xs ∧ LZip W (OwnSet B W v) acc xs
theorem OwnL.nil (B : Nat) (W : World) : OwnL B W (.slice none 0 0) [] := ⟨[], World.ownsRow_nil _ _ _ _, rfl⟩
theorem OwnL.kp {rb B : Nat} {W W' : World} {v : Value} {acc : List LN} (h : OwnL B W v acc) (g : Kp rb W W') (hrb : rb < B) : OwnL B W' v acc := by
  obtain ⟨xs, h1, h2⟩ := h
  refine ⟨xs, h1.kept g.grownBy (.inr (fun e => by have := (h1.lt rb e).1; omega)), LZip.carry (fun b hb => ?_) _ _ h2⟩
  obtain ⟨⟨hb1, hb2⟩, hb3⟩ := hb
  exact ⟨⟨⟨hb1, Nat.lt_of_lt_of_le hb2 g.size⟩, hb3⟩, g.others b hb2 (by omega)⟩
theorem ownL_push {rb B : Nat} {w1 W2 W3 : World} {v v' : Value} {acc : List LN} {xs : List Value} {f p : Nat} {l : List EL} {A : Option Addr} {c : Nat} (hrb : rb < B) (K : Kp rb w1 W2) (hz : LZip w1 (OwnSet B w1 v) acc xs) (hp : PatF W2 (OwnSet B W2 v) l (.slice A l.length c))
    (ho : W3.ownsRow B 108 3 v' (acc.length + 1) (xs ++ [.int .i64 f, .int .i64 p, .slice A l.length c])) (hg : W2.grownBy W3 v.ownBlock) (hw : v'.ownBlock = v.ownBlock ∨ v'.ownBlock = some W2.heap.size) : OwnL B W3 v' (acc ++ [⟨f, p, l⟩]) := by
  refine ⟨_, by rw [List.length_append]; exact ho, ?_⟩
  have g : ∀ b, OwnSet B W2 v b → OwnSet B W3 v' b ∧ W3.heap[b]? = W2.heap[b]? := fun b hb => by
    obtain ⟨⟨hb1, hb2⟩, hb3⟩ := hb
    refine ⟨⟨⟨hb1, Nat.lt_of_lt_of_le hb2 hg.size⟩, ?_⟩, hg.block b hb2 hb3⟩
    rcases hw with e | e
    · rw [e]; exact hb3
    · rw [e]; intro e2; have := Option.some.inj e2; omega
  refine LZip.carry g _ _ (LZip.snoc hp acc xs (LZip.carry (fun b hb => ?_) _ _ hz))
  obtain ⟨⟨hb1, hb2⟩, hb3⟩ := hb
  exact ⟨⟨⟨hb1, Nat.lt_of_lt_of_le hb2 K.size⟩, hb3⟩, K.others b hb2 (by omega)⟩
end Go.Proofs.YtdoambpiafkmmaaGreatDoor

namespace Go.Proofs.YtdoambpiafkmmaaGreatDoor
open Go.RowKit
set_option linter.unusedVariables false
set_option linter.unusedSimpArgs false
def PlsOk (d : Nat) (l : List EL) : Prop := ∀ t e, EL.mk t (some e) ∈ l → okE .brc e d = true
theorem okEs_of {d : Nat} : ∀ l : List EL, PlsOk d l → okEs l d = true
  | [], _ => by rw [okEs]
  | .mk t none :: r, h => by rw [okEs]; exact okEs_of r (fun t' e he => h t' e (List.mem_cons_of_mem _ he))
  | .mk t (some e) :: r, h => by
    rw [okEs, h t e (List.mem_cons_self ..), okEs_of r (fun t' e' he => h t' e' (List.mem_cons_of_mem _ he))]
    rfl
theorem PlsOk.append {d : Nat} {a b : List EL} (h : PlsOk d a) (g : PlsOk d b) : PlsOk d (a ++ b) := fun t e he => by
  rcases List.mem_append.1 he with he | he
  · exact h t e he
  · exact g t e he
theorem PlsOk.text {d : Nat} (t : ByteArray) : PlsOk d [.mk t none] := fun t' e he => by simp at he
theorem PlsOk.nil {d : Nat} : PlsOk d [] := fun t e he => by simp at he
theorem addT_ok {d : Nat} {s : ByteArray} {acc : List EL} (h : PlsOk d acc) (i j : Nat) : PlsOk d (addT s acc i j) := by
  unfold addT
  split
  · exact h.append (PlsOk.text _)
  · exact h
theorem parts_ok {s : ByteArray} {P : Nat → Res} {d : Nat} (hP : ∀ i e j, P i = some (e, j) → okE .brc e d = true) : ∀ (m : Nat) (acc : List EL) (i : Nat) (ps : List EL) (j : Nat), s.size - i ≤ m → PlsOk d acc → partsS P s acc i = some (ps, j) → PlsOk d ps
  | m, acc, i, ps, j, hm, ha, h => by
    rw [partsS] at h
    split at h
    · next hc =>
      split at h
      · cases h
      · next e j' hp =>
        split at h
        · next hl =>
          have ha2 := (addT_ok (s := s) ha i (tx s i)).append (show PlsOk d [.mk E0 (some e)] from fun t e' he => by
            simp at he
            rw [he.2]
            exact hP _ _ _ hp)
          cases m with
          | zero => omega
          | succ m => exact parts_ok hP m _ j' ps j (by omega) ha2 h
        · cases h
    · cases h
      exact addT_ok ha _ _
theorem lines_ok {s : ByteArray} {P : Nat → Res} {d : Nat} (hP : ∀ i e j, P i = some (e, j) → okE .brc e d = true) : ∀ (m : Nat) (acc : List LN) (f p i : Nat) (ls : List LN) (j : Nat), s.size - i ≤ m → (∀ x ∈ acc, PlsOk d x.parts) → linesS P s acc f p i = some (ls, j) → ∀ x ∈ ls, PlsOk d x.parts
  | m, acc, f, p, i, ls, j, hm, ha, h => by
    rw [linesS] at h
    split at h
    · cases h
    · next ps j' hp =>
      have hps := parts_ok hP s.size [] i ps j' (by omega) PlsOk.nil hp
      have ha2 : ∀ x ∈ acc ++ [(⟨f, p, ps⟩ : LN)], PlsOk d x.parts := fun x hx => by
        rcases List.mem_append.1 hx with hx | hx
        · exact ha x hx
        · simp at hx; rw [hx]; exact hps
      split at h
      · cases h
        exact ha2
      · split at h
        · next f' p' k hl =>
          cases m with
          | zero => omega
          | succ m => exact lines_ok hP m _ _ _ _ ls j (by omega) ha2 h
        · cases h
theorem endS_ok {d : Nat} {b : JS} (h : PlsOk d b.1) : PlsOk d (endS b) := by
  unfold endS
  split
  · exact h
  · exact h.append (PlsOk.text _)
theorem partJ_ok {d : Nat} {b : JS} (h : PlsOk d b.1) : ∀ x : EL, (∀ t e, x = .mk t (some e) → okE .brc e d = true) → PlsOk d (partJ b x).1
  | .mk t none, _ => h
  | .mk t (some e), hx => (endS_ok h).append (fun t' e' he => by
      simp at he
      rw [he.2]
      exact hx t e rfl)
theorem parts_fold {d : Nat} : ∀ (l : List EL) (b : JS), PlsOk d b.1 → PlsOk d l → PlsOk d (l.foldl partJ b).1
  | [], b, h, _ => h
  | x :: r, b, h, hl => parts_fold r _ (partJ_ok h x (fun t e e1 => hl t e (by rw [e1]; exact List.mem_cons_self ..))) (fun t e he => hl t e (List.mem_cons_of_mem _ he))
theorem lines_fold {d least : Nat} : ∀ (ls : List LN) (b : JS), PlsOk d b.1 → (∀ x ∈ ls, PlsOk d x.parts) → PlsOk d (ls.foldl (lineJ least) b).1
  | [], b, h, _ => h
  | x :: r, b, h, hl => by
    refine lines_fold r _ ?_ (fun y hy => hl y (List.mem_cons_of_mem _ hy))
    unfold lineJ
    refine parts_fold _ _ ?_ (hl x (List.mem_cons_self ..))
    unfold headJ
    split
    · exact h
    · exact h
theorem join_ok {d : Nat} {ls : List LN} (h : ∀ x ∈ ls, PlsOk d x.parts) : PlsOk d (joinS ls) := by
  unfold joinS
  exact endS_ok (lines_fold ls ([], []) PlsOk.nil h)
theorem pat_okEs {s : ByteArray} {P : Nat → Res} {d : Nat} (hP : ∀ i e j, P i = some (e, j) → okE .brc e d = true) {i : Nat} {l : List EL} {j : Nat} (h : patS P s i = some (l, j)) : okEs l d = true := by
  unfold patS at h
  split at h
  · cases h
  · next ls j' hl =>
    cases h
    exact okEs_of _ (join_ok (lines_ok hP s.size [] 0 0 _ ls _ (by omega) (fun x hx => by simp at hx) hl))
def PatRule (s : ByteArray) : Prop := ∀ (r i : Nat) (l : List EL) (j : Nat) (c : UInt8), isAt s i c = true → c.toNat < 128 → patS (placeS s r) s (i + 1) = some (l, j) → patL l = true
theorem vari_ok {s : ByteArray} {r d : Nat} (hR : PatRule s) (hP : ∀ i e j, placeS s r i = some (e, j) → okE .brc e (d + 1) = true) {i : Nat} {v : VA} {j : Nat} (h : variS (placeS s r) s i = some (v, j)) :
    (isNameV (vaKey v) || isNum (vaKey v)) = true ∧ (vaVal v).isEmpty = false ∧ patL (vaVal v) = true ∧ okEs (vaVal v) (d + 1) = true := by
  unfold variS at h
  obtain ⟨q, hq⟩ : ∃ q, (if isAt s i 42 = true then i + 1 else i) = q := ⟨_, rfl⟩
  rw [hq] at h
  split at h
  · next hc =>
    have hqs := isAt_lt hc
    have hb := bl_ok s (q + 1) (by omega)
    split at h
    · cases h
    · next hk =>
      split at h
      · next h93 =>
        split at h
        · cases h
        · next l j' hp =>
          split at h
          · next hl =>
            cases h
            rw [Bool.and_eq_true, Bool.not_eq_true'] at hl
            refine ⟨?_, hl.2, hR r _ _ _ _ h93 (by decide) hp, pat_okEs hP hp⟩
            show (isNameV (s.extract (bl s (q + 1)) (keyE s (bl s (q + 1)))) || isNum (s.extract (bl s (q + 1)) (keyE s (bl s (q + 1))))) = true
            unfold keyE at hk ⊢
            by_cases hn : nm s (bl s (q + 1)) = bl s (q + 1)
            · rw [if_pos hn] at hk ⊢
              rw [num_ok hb.2 hk, Bool.or_true]
            · rw [if_neg hn]
              rw [name_ok hn]; rfl
          · cases h
      · cases h
  · cases h
theorem okVs_snoc {d : Nat} {v : VA} (hv : okEs (vaVal v) (d + 1) = true) : ∀ vs : List VA, okVs vs d = true → okVs (vs ++ [v]) d = true
  | [], _ => by
    obtain ⟨k, b, l⟩ := v
    rw [List.nil_append, okVs, okVs]
    have hv2 : okEs l (d + 1) = true := hv
    rw [hv2]; rfl
  | .mk k b l :: r, h => by
    rw [okVs, Bool.and_eq_true] at h
    rw [List.cons_append, okVs, h.1, okVs_snoc hv r h.2]
    rfl
theorem vars_ok {s : ByteArray} {r d : Nat} (hR : PatRule s) (hP : ∀ i e j, placeS s r i = some (e, j) → okE .brc e (d + 1) = true) : ∀ (m : Nat) (acc : List VA) (i : Nat) (vs : List VA) (j : Nat), s.size - i ≤ m → okVs acc d = true → (acc.all (fun v => (isNameV (vaKey v) || isNum (vaKey v)) && !(vaVal v).isEmpty && patL (vaVal v))) = true →
    varsS (placeS s r) s acc i = some (vs, j) → okVs vs d = true ∧ varsL vs = true
  | m, acc, i, vs, j, hm, ha, hb, h => by
    rw [varsS] at h
    split at h
    · split at h
      · next hc =>
        cases h
        refine ⟨ha, ?_⟩
        unfold varsL
        rw [hb, hc]
        rfl
      · cases h
    · split at h
      · cases h
      · next v j' hv =>
        split at h
        · next hl =>
          obtain ⟨g1, g2, g3, g4⟩ := vari_ok hR hP hv
          cases m with
          | zero => omega
          | succ m =>
            refine vars_ok hR hP m (acc ++ [v]) _ vs j (by omega) (okVs_snoc g4 acc ha) ?_ h
            rw [List.all_append, hb, List.all_cons, g1, g2, g3]
            rfl
        · cases h
theorem place_ok {s : ByteArray} (hStr : ∀ i t n, unqAll (s.extract i s.size) = some (t, n) → validB (mkB t) = true) (hR : PatRule s) : ∀ (r d : Nat), d + r = 21 → ∀ i e j, placeS s r i = some (e, j) → okE .brc e d = true
  | 0, d, _, i, e, j, h => by rw [placeS] at h; cases h
  | r + 1, d, hd, i, e, j, h => by
    have hP := place_ok hStr hR r (d + 1) (by omega)
    rw [placeS] at h
    split at h
    · next hc =>
      have hi := isAt_lt hc
      have hb := bl_ok s (i + 1) (by omega)
      split at h
      · cases h
      · next e0 j0 hin =>
        obtain ⟨g1, g2⟩ := inl_ok hStr hP hb.2 hin
        split at h
        · split at h
          · cases h
          · next ht =>
            cases h
            have hI := g1 (by simpa using ht)
            obtain ⟨k, t, n, a, al, ie, vs⟩ := e
            rw [okE] at hI
            rw [okE]
            have hk7 : k ≠ 7 := by
              rintro rfl
              unfold inlP at hI
              simp at hI
            rw [decide_eq_true (by omega), if_neg hk7, hI]
            rfl
        · split at h
          · next hm =>
            rw [Bool.and_eq_true, Bool.and_eq_true] at hm
            split at h
            · cases h
            · next vs m hv =>
              cases h
              unfold selS at hv
              split at hv
              · obtain ⟨v1, v2⟩ := vars_ok hR hP s.size [] _ vs _ (by omega) rfl rfl hv
                rw [okE, decide_eq_true (by omega), if_pos rfl, emp_E0, v1, v2, okO, g2 hm.2]
                rfl
              · cases hv
          · cases h
    · cases h
end Go.Proofs.YtdoambpiafkmmaaGreatDoor

namespace Go.Proofs.YtdoambpiafkmmaaGreatDoor
open Go.RowKit
set_option linter.unusedVariables false
set_option linter.unusedSimpArgs false
def textOk (s : ByteArray) : Bool := (sigAll s.data.toList).isSome && !(s.data.toList.any (· == 13)) && decide (s.size ≤ 400)
theorem any_take (l : List UInt8) (i : Nat) (hi : i < l.length) : (l.take (i + 1)).any (· == 13) = ((l.take i).any (· == 13) || (l[i] == 13)) := by
  rw [List.take_succ_eq_append_getElem hi, List.any_append]
  simp
set_option maxHeartbeats 4000000 in
set_option maxRecDepth 1000000 in
theorem text_any (s : ByteArray) (w : World) (hT : TabU w) (hs : s.size ≤ 4000000) : Calls Tryz.prog 9 #[.string s] w fun e w' => e = .returned (.bool (textOk s)) ∧ Below w.heap.size w w' := by
  have H := Lib.hid (signs_any s w hT hs)
  unfold textOk
  obtain ⟨g, hg⟩ : ∃ g, (sigAll s.data.toList).isSome = g := ⟨_, rfl⟩
  rw [hg]
  have HG := Lib.hid hg
  have hss : (s.size : Int) ≤ 4000000 := by omega
  obtain ⟨R, hR⟩ : ∃ R, (g && !(s.data.toList.any (· == 13)) && decide (s.size ≤ 400)) = R := ⟨_, rfl⟩
  rw [hR]
  have HR := Lib.hid hR
  clear hT hg hR
  go_enter Tryz.func9, Tryz.ntmps9
  go_wp2_with fail
  go_at_call 24
  refine H.out.mono ?_
  rintro e w1 ⟨h, hb⟩
  have HB := Lib.hid hb
  clear hb
  have hv : ∃ v, e = .returned (.tuple #[v, .bool g]) := by
    rcases h with ⟨hn, rfl⟩ | ⟨xs, v, hn, _, rfl, _⟩
    · have := HG.out; rw [hn] at this; exact ⟨_, by rw [← this]; rfl⟩
    · have := HG.out; rw [hn] at this; exact ⟨_, by rw [← this]; rfl⟩
  clear h H
  obtain ⟨v, rfl⟩ := hv
  go_wp2
  go_loopw [4, 5] (fun t4 t5 wr => ∃ (i : Nat) (b : Bool), t4 = .bool b ∧ t5 = .int .i64 i ∧ i ≤ s.size ∧ Hid (b = (g && !((s.data.toList.take i).any (· == 13)))) ∧ wr = w1) (fun _ t5 _ => s.size - (intOf t5).toNat)
  case atStart => exact ⟨0, g, rfl, rfl, Nat.zero_le _, Lib.hid (by simp), rfl⟩
  case round =>
    obtain ⟨i, b, rfl, rfl, hi, Hb, rfl⟩ := hrel
    have hi0 : (i : Int) ≤ 4000000 := by omega
    by_cases hlt : i < s.size
    · have d1 : decide ((i : Int) < (s.size : Int)) = true := decide_eq_true (by omega)
      have d2 : (i : Int) < (s.size : Int) := by omega
      have hs1 := any_take s.data.toList i (by rw [size_data]; exact hlt)
      obtain ⟨c, hc⟩ : ∃ c, (s[i]'hlt).toNat = c := ⟨_, rfl⟩
      have hcc : ((s.data.toList[i]'(by rw [size_data]; exact hlt)) == 13) = decide (c = 13) := by
        rw [← hc, Bool.eq_iff_iff, beq_iff_eq, decide_eq_true_iff]
        exact ⟨fun h => by rw [show (s[i]'hlt) = (s.data.toList[i]'(by rw [size_data]; exact hlt)) from rfl, h]; rfl, fun h => UInt8.toNat_inj.1 h⟩
      rw [hcc] at hs1
      have Hs1 := Lib.hid hs1
      clear hs1 hcc
      cases b
      case false =>
        go_wp2
        go_roundw
        case rel =>
          refine ⟨i + 1, false, rfl, by go_num, hlt, ?_, trivial⟩
          refine Lib.hid ?_
          have := Hb.out
          rw [Hs1.out, Bool.not_or, ← Bool.and_assoc, ← this]
          rfl
        case measure => simp [intOf]; omega
      case true =>
        by_cases h13 : c = 13
        · have d3 : ((c : Int) != 13) = false := by rw [bne_eq_false_iff_eq]; omega
          go_wp2
          go_roundw
          case rel =>
            refine ⟨i + 1, false, rfl, by go_num, hlt, ?_, trivial⟩
            refine Lib.hid ?_
            rw [Hs1.out, decide_eq_true h13, Bool.or_true]
            simp
          case measure => simp [intOf]; omega
        · have d3 : ((c : Int) != 13) = true := by rw [bne_iff_ne]; omega
          go_wp2
          go_roundw
          case rel =>
            refine ⟨i + 1, true, rfl, by go_num, hlt, ?_, trivial⟩
            refine Lib.hid ?_
            have := Hb.out
            rw [Hs1.out, decide_eq_false h13, Bool.or_false, ← this]
          case measure => simp [intOf]; omega
    · have d1 : decide ((i : Int) < (s.size : Int)) = false := decide_eq_false (by omega)
      have d2 : ¬ (i : Int) < (s.size : Int) := by omega
      have hfin : b = (g && !(s.data.toList.any (· == 13))) := by
        rw [Hb.out, List.take_of_length_le (by rw [size_data]; omega)]
      have Hf := Lib.hid hfin
      clear hfin
      cases b
      case false =>
        have hRe : false = R := by rw [← HR.out, ← Hf.out]; rfl
        have HRe := Lib.hid hRe
        clear hRe
        go_wp2
        go_ret
        exact ⟨ret_bool HRe.out, HB.out⟩
      case true =>
        by_cases h4 : s.size ≤ 400
        · have d3 : decide ((s.size : Int) ≤ 400) = true := decide_eq_true (by omega)
          have d4 : (s.size : Int) ≤ 400 := by omega
          have hRe : true = R := by rw [← HR.out, ← Hf.out, decide_eq_true h4]; rfl
          have HRe := Lib.hid hRe
          clear hRe
          go_wp2
          go_ret
          exact ⟨ret_bool HRe.out, HB.out⟩
        · have d3 : decide ((s.size : Int) ≤ 400) = false := decide_eq_false (by omega)
          have d4 : ¬ (s.size : Int) ≤ 400 := by omega
          have hRe : false = R := by rw [← HR.out, ← Hf.out, decide_eq_false h4]; rfl
          have HRe := Lib.hid hRe
          clear hRe
          go_wp2
          go_ret
          exact ⟨ret_bool HRe.out, HB.out⟩
end Go.Proofs.YtdoambpiafkmmaaGreatDoor
