/-
  Several texts put together (part T3): what the law and the program call, walked; their contracts.
-/
import Derived.Test.YtamghpleajbonaaGreatDoorQ26
import Derived.Test.YtamghpleajbonaaGreatDoorQ20
import Derived.Test.YtamghpleajbonaaGreatDoorQ27
namespace Go.Proofs.YtamghpleajbonaaGreatDoor
open Go.RowKit
set_option linter.unusedVariables false
set_option linter.unusedSimpArgs false
theorem trim_eq (l : List UInt8) : ∃ z, (∀ c ∈ z, c = 32) ∧ l = trimR l ++ z := by
  refine ⟨(l.reverse.takeWhile (· == 32)).reverse, fun c hc => ?_, ?_⟩
  · rw [List.mem_reverse] at hc
    have h := List.all_takeWhile (l := l.reverse) (p := (· == (32 : UInt8)))
    rw [List.all_eq_true] at h
    exact beq_iff_eq.1 (h c hc)
  · unfold trimR
    rw [← List.reverse_append, List.takeWhile_append_dropWhile, List.reverse_reverse]
theorem mkB_dl (l : List UInt8) : (mkB l).data.toList = l := List.toList_toArray
theorem nl_shape {s : ByteArray} : ∀ (m f fr q : Nat), s.size - q ≤ m → q ≤ s.size → (fr = q ∨ (q = sp s fr ∧ fr ≤ s.size ∧ 0 < f)) →
    isAt s (nlS s f fr q).2.2 10 = false ∧ (nlS s f fr q).2.2 ≤ s.size ∧ ((nlS s f fr q).2.2 = (nlS s f fr q).2.1 ∨ ((nlS s f fr q).2.2 = sp s (nlS s f fr q).2.1 ∧ (nlS s f fr q).2.1 ≤ s.size ∧ 0 < (nlS s f fr q).1))
  | m, f, fr, q, hm, hq, h => by
    rw [nlS]
    split
    · next hc =>
      have h1 := isAt_lt hc
      have h2 := sp_ok s (q + 1) h1
      cases m with
      | zero => omega
      | succ m => exact nl_shape m (f + 1) (q + 1) (sp s (q + 1)) (by omega) h2.2 (Or.inr ⟨rfl, h1, by omega⟩)
    · next hc =>
      refine ⟨by simpa using hc, hq, ?_⟩
      rcases h with h | h
      · exact Or.inl h.symm
      · exact Or.inr h
end Go.Proofs.YtamghpleajbonaaGreatDoor

namespace Go.Proofs.YtamghpleajbonaaGreatDoor
open Go.RowKit
set_option linter.unusedVariables false
set_option linter.unusedSimpArgs false
theorem unq_long (s : ByteArray) : ∀ (f pos next : Nat) (acc t : List UInt8) (n : Nat), acc.length ≤ 4 * max pos next → unqFrom s f pos next acc = some (t, n) → t.length ≤ 4 * n
  | 0, _, _, _, _, _, _, h => by rw [unqFrom] at h; cases h
  | f + 1, pos, next, acc, t, n, ha, h => by
    rw [unqFrom] at h
    split at h
    · next hp =>
      have hw := width_pos s pos hp
      have enc4 : ∀ r : Int, (Lib.encodeRune r).length ≤ 4 := fun r => by
        have := (Lib.runeCells_le r).2
        rw [Lib.runeCells_length] at this
        exact this
      split at h
      · exact unq_long s f _ _ _ t n (by omega) h
      · split at h
        · cases h; omega
        · split at h
          · cases h
          · split at h
            · split at h
              · cases h
              · refine unq_long s f _ _ _ t n ?_ h
                have := enc4 (escV (s.data.toList.drop pos)).1
                rw [List.length_append]
                omega
            · refine unq_long s f _ _ _ t n ?_ h
              have := enc4 (Utf8.decode s pos).1
              rw [List.length_append]
              omega
    · cases h
section
variable {s : ByteArray} {P : Nat → Res} {i j : Nat} {e : EX}
theorem mk_size (k : Int) (t n a : ByteArray) : (EX.mk k t n a [] none []).size = 1 + t.size + n.size + a.size := by
  rw [EX.size, sizeAs, sizeO, sizeVs]
  omega
theorem E0_size : (E0 : ByteArray).size = 0 := rfl
theorem ext_le9 (s : ByteArray) (i j : Nat) : (s.extract i j).size ≤ j - i := by rw [ByteArray.size_extract]; omega
theorem quo_sz (hi : i ≤ s.size) (h : quoS s i = some (e, j)) : e.size ≤ 8 * (j - i) := by
  have hp := quo_pos hi h
  unfold quoS at h
  split at h
  · next t n hu =>
    cases h
    have hl : t.length ≤ 4 * n := by
      unfold unqAll at hu
      split at hu
      · exact unq_long _ _ _ _ _ t n (by simp) hu
      · cases hu
    rw [mk_size, ← size_data, mkB_dl, E0_size]
    omega
  · cases h
theorem var_sz (hi : i ≤ s.size) (h : varS s i = some (e, j)) : e.size ≤ 8 * (j - i) := by
  have hp := var_pos hi h
  unfold varS at h
  split at h
  · cases h
    have := ext_le9 s (i + 1) (nm s (i + 1))
    rw [mk_size, E0_size]
    omega
  · cases h
theorem ref_sz {k : Int} (hi : i ≤ s.size) (h : refS k s i = some (e, j)) : e.size ≤ 8 * (j - i) := by
  have hp := ref_pos hi h
  unfold refS at h
  have h1 := nm_ok s i hi
  split at h
  · cases h
  · split at h
    · next hd =>
      have h2 := isAt_lt hd
      have h3 := nm_ok s (nm s i + 1) h2
      split at h
      · cases h
      · cases h
        have g1 := ext_le9 s i (nm s i)
        have g2 := ext_le9 s (nm s i + 1) (nm s (nm s i + 1))
        rw [mk_size, E0_size]
        omega
    · cases h
      have g1 := ext_le9 s i (nm s i)
      rw [mk_size, E0_size]
      omega
theorem ter_sz (hi : i ≤ s.size) (h : terS s i = some (e, j)) : e.size ≤ 8 * (j - i) := by
  unfold terS at h
  split at h
  · next hc =>
    have h1 := isAt_lt hc
    have := ref_sz (by omega) h
    omega
  · cases h
theorem nub_sz (hi : i ≤ s.size) (h : nubS s i = some (e, j)) : e.size ≤ 8 * (j - i) := by
  have hp := nub_pos hi h
  unfold nubS at h
  split at h
  · cases h
  · cases h
    have g1 := ext_le9 s i (nu s i)
    rw [mk_size, E0_size]
    omega
def SzP (P : Nat → Res) : Prop := ∀ i e j, P i = some (e, j) → e.size + 16 ≤ 8 * (j - i)
theorem head_sz (hS : SzP P) (hi : i ≤ s.size) (h : headS P s i = some (e, j)) : e.size ≤ 8 * (j - i) := by
  unfold headS at h
  rcases or_some h with h | h
  · exact quo_sz hi h
  rcases or_some h with h | h
  · exact var_sz hi h
  rcases or_some h with h | h
  · unfold nestS at h
    split at h
    · next e' j' hp =>
      cases h
      have := hS _ _ _ hp
      rw [EX.size, sizeAs, sizeO, sizeVs, E0_size]
      omega
    · cases h
  rcases or_some h with h | h
  · exact ter_sz hi h
  rcases or_some h with h | h
  · exact ref_sz hi h
  · exact nub_sz hi h
theorem with_sz (e : EX) (xs : List AR) : (withArgs (opnE e) xs).size ≤ e.size + sizeAs xs := by
  obtain ⟨k, t, n, a, al, i, vs⟩ := e
  show (EX.mk (if k = 3 then 5 else k) t n a xs i vs).size ≤ _
  rw [EX.size, EX.size]
  omega
theorem as_snoc (n : ByteArray) (e : EX) : ∀ xs : List AR, sizeAs (xs ++ [.mk n e]) = sizeAs xs + (n.size + e.size)
  | [] => by simp only [List.nil_append, sizeAs]; omega
  | .mk m y :: r => by rw [List.cons_append, sizeAs, sizeAs, as_snoc n e r]; omega
theorem nam_sz {n : ByteArray} (hi : i ≤ s.size) (h : namS s i = some (n, e, j)) : n.size + e.size ≤ 8 * (j - i) := by
  unfold namS at h
  have h1 := nm_ok s i hi
  have h2 := bl_ok s (nm s i) h1.2
  split at h
  · cases h
  · split at h
    · next hc =>
      have h3 := isAt_lt hc
      have h4 := bl_ok s (bl s (nm s i) + 1) h3
      split at h
      · next e' q ho =>
        cases h
        have g1 := ext_le9 s i (nm s i)
        have h5 : bl s (bl s (nm s i) + 1) < j := by
          rcases or_some ho with ho | ho
          · exact (quo_pos h4.2 ho).1
          · exact (nub_pos h4.2 ho).1
        have h6 : e.size ≤ 8 * (j - bl s (bl s (nm s i) + 1)) := by
          rcases or_some ho with ho | ho
          · exact quo_sz h4.2 ho
          · exact nub_sz h4.2 ho
        omega
      · cases h
    · cases h
theorem arg_sz {n : ByteArray} (hS : SzP P) (hi : i ≤ s.size) (h : argS P s i = some (n, e, j)) : n.size + e.size ≤ 8 * (j - i) := by
  unfold argS at h
  split at h
  · next hn => cases h; exact nam_sz hi hn
  · split at h
    · next hh => cases h; have := head_sz hS hi hh; rw [E0_size]; omega
    · cases h
theorem args_sz (hP : PosOk s P) (hS : SzP P) : ∀ (m : Nat) (xs : List AR) (want : Bool) (i : Nat) (xs' : List AR) (j : Nat), s.size - i ≤ m → i ≤ s.size → argsS P s xs want i = some (xs', j) → sizeAs xs' ≤ sizeAs xs + 8 * (j - i)
  | m, xs, want, i, xs', j, hm, hi, h => by
    have hpos := args_pos hP m xs want i hm hi xs' j h
    rw [argsS] at h
    have hb := bl_ok s i hi
    split at h
    · cases h; omega
    · split at h
      · split at h
        · next hc =>
          have hlt := isAt_lt hc
          cases m with
          | zero => omega
          | succ m =>
            have := args_sz hP hS m xs false (bl s i + 1) xs' j (by omega) (by omega) h
            omega
        · cases h
      · split at h
        · cases h
        · next n e j' hg =>
          have hap := arg_pos hP hb.2 hg
          have haz := arg_sz hS hb.2 hg
          have hop := opn_pos (s := s) e hap.2
          split at h
          · next hc =>
            rw [Bool.and_eq_true] at hc
            split at h
            · next hp =>
              split at h
              · cases h
              · next xs2 m2 hin =>
                split at h
                · next hp2 =>
                  split at h
                  · cases m with
                    | zero => omega
                    | succ m =>
                      have g1 := args_sz hP hS m [] false _ xs2 m2 (by omega) hp.2 hin
                      have g0 := args_pos hP m [] false _ (by omega) hp.2 xs2 m2 hin
                      have g2 := args_sz hP hS m _ true m2 xs' j (by omega) hp2.2 h
                      have g4 := args_pos hP m _ true m2 (by omega) hp2.2 xs' j h
                      have g3 := with_sz e xs2
                      rw [as_snoc, E0_size] at g2
                      rw [sizeAs] at g1
                      omega
                  · cases h
                · cases h
            · cases h
          · next hc =>
            obtain ⟨pp, hpp⟩ : ∃ q, (if emp n = true then (opnS s e j').2 else j') = q := ⟨_, rfl⟩
            have hle : j' ≤ pp := by rw [← hpp]; split <;> omega
            rw [hpp] at h
            split at h
            · next hp =>
              split at h
              · cases m with
                | zero => omega
                | succ m =>
                  have g2 := args_sz hP hS m _ true _ xs' j (by omega) hp.2 h
                  have g4 := args_pos hP m _ true _ (by omega) hp.2 xs' j h
                  rw [as_snoc] at g2
                  omega
              · cases h
            · cases h
theorem inl_sz (hP : PosOk s P) (hS : SzP P) (hi : i ≤ s.size) (h : inlS P s i = some (e, j)) : e.size ≤ 8 * (j - i) := by
  unfold inlS at h
  split at h
  · cases h
  · next e0 j0 hh =>
    have h1 := head_pos hP hi hh
    have h2 := head_sz hS hi hh
    have h3 := opn_pos (s := s) e0 h1.2
    split at h
    · split at h
      · cases h
      · next xs m hx =>
        cases h
        have g1 := args_sz hP hS s.size [] false _ xs _ (by omega) h3.2 hx
        have g2 := args_pos hP s.size [] false _ (by omega) h3.2 xs _ hx
        have g3 := with_sz e0 xs
        rw [sizeAs] at g1
        omega
    · cases h
      omega
theorem es_app (a b : List EL) : sizeEs (a ++ b) = sizeEs a + sizeEs b := by
  induction a with
  | nil => rw [List.nil_append, sizeEs]; omega
  | cons x r ih =>
    obtain ⟨t, p⟩ := x
    rw [List.cons_append, sizeEs, sizeEs, ih]
    omega
theorem es_one (t : ByteArray) (p : Option EX) : sizeEs [.mk t p] = 1 + t.size + sizeO p := by rw [sizeEs, sizeEs]; omega
theorem addT_sz (acc : List EL) (i t : Nat) : sizeEs (addT s acc i t) ≤ sizeEs acc + 2 * (t - i) := by
  unfold addT
  split
  · have := ext_le9 s i t
    rw [es_app, es_one, sizeO]
    omega
  · omega
theorem parts_sz (hP : PosOk s P) (hS : SzP P) : ∀ (m : Nat) (acc : List EL) (i : Nat) (ps : List EL) (j : Nat), s.size - i ≤ m → i ≤ s.size → partsS P s acc i = some (ps, j) → sizeEs ps ≤ sizeEs acc + 8 * (j - i)
  | m, acc, i, ps, j, hm, hi, h => by
    have hw := parts_wt hP m acc i hm hi ps j h
    have ht := tx_ok s i hi
    have ha := addT_sz (s := s) acc i (tx s i)
    rw [partsS] at h
    split at h
    · split at h
      · cases h
      · next e j' hp =>
        split at h
        · next hl =>
          cases m with
          | zero => omega
          | succ m =>
            have h1 := parts_sz hP hS m _ j' ps j (by omega) hl.2 h
            have h2 := hS _ _ _ hp
            have h3 := hP _ _ _ hp
            have h4 := parts_wt hP m _ j' (by omega) hl.2 ps j h
            rw [es_app, es_one, sizeO, E0_size] at h1
            omega
        · cases h
    · cases h
      omega
def wL (l : List LN) : Nat := (l.map fun x => sizeEs x.parts + x.feeds + x.spaces + 1).sum
theorem wL_snoc (l : List LN) (x : LN) : wL (l ++ [x]) = wL l + (sizeEs x.parts + x.feeds + x.spaces + 1) := by
  unfold wL
  rw [List.map_append, List.sum_append]
  simp
theorem lines_sz (hP : PosOk s P) (hS : SzP P) : ∀ (m : Nat) (acc : List LN) (f p i : Nat) (ls : List LN) (j : Nat), s.size - i ≤ m → i ≤ s.size → linesS P s acc f p i = some (ls, j) → i ≤ j ∧ wL ls ≤ wL acc + f + p + 1 + 8 * (j - i)
  | m, acc, f, p, i, ls, j, hm, hi, h => by
    rw [linesS] at h
    split at h
    · cases h
    · next ps j0 hp =>
      have h1 := parts_sz hP hS s.size [] i ps j0 (by omega) hi hp
      have h2 := parts_wt hP s.size [] i (by omega) hi ps j0 hp
      have h0 : j0 ≤ s.size := by
        have := (parts_pos (P := P) s.size [] i (by omega) hi ps j0 hp).2
        exact this
      rw [sizeEs] at h1
      split at h
      · cases h
        rw [wL_snoc]
        dsimp only
        omega
      · next f' p' k hnx =>
        split at h
        · next hl =>
          have h3 := next_wt h0 hnx
          have h4 := nl_shape (s := s) s.size 0 j0 j0 (by omega) h0 (Or.inl rfl)
          have h5 : 0 < f' := by
            unfold nextS at hnx
            obtain ⟨r, hr⟩ : ∃ r, nlS s 0 j0 j0 = r := ⟨_, rfl⟩
            rw [hr] at hnx h4
            split at hnx
            · cases hnx
            · next hc =>
              cases hnx
              rw [not_or, not_or] at hc
              rcases h4.2.2 with h6 | h6
              · exact absurd h6 hc.1
              · exact h6.2.2
          cases m with
          | zero => omega
          | succ m =>
            have h6 := lines_sz hP hS m _ f' p' k ls j (by omega) hl.2 h
            rw [wL_snoc] at h6
            dsimp only at h6
            omega
        · cases h
def mJ (b : JS) : Nat := sizeEs b.1 + b.2.length + (if b.2 = [] then 0 else 1)
theorem end_sz (b : JS) : sizeEs (endS b) = mJ b := by
  unfold endS mJ
  split
  · next h => rw [h]; simp
  · rw [es_app, es_one, sizeO, ← size_data, mkB_dl]
    omega
theorem part_sz (b : JS) : ∀ x : EL, mJ (partJ b x) ≤ mJ b + sizeEs [x]
  | .mk t none => by
    show sizeEs b.1 + (b.2 ++ t.data.toList).length + (if b.2 ++ t.data.toList = [] then 0 else 1) ≤ _
    rw [es_one, sizeO, List.length_append, size_data]
    unfold mJ
    split
    · next h =>
      obtain ⟨h1, h2⟩ := List.append_eq_nil_iff.1 h
      rw [if_pos h1]
      omega
    · split <;> omega
  | .mk t (some e) => by
    show sizeEs (endS b ++ [.mk t (some e)]) + ([] : List UInt8).length + (if ([] : List UInt8) = [] then 0 else 1) ≤ _
    rw [es_app, end_sz, if_pos rfl, List.length_nil]
    omega
theorem parts_fold_sz : ∀ (l : List EL) (b : JS), mJ (l.foldl partJ b) ≤ mJ b + sizeEs l
  | [], b => by rw [sizeEs]; exact Nat.le_refl _
  | x :: r, b => by
    have h1 := parts_fold_sz r (partJ b x)
    have h2 := part_sz b x
    have h3 : sizeEs (x :: r) = sizeEs [x] + sizeEs r := es_app [x] r
    rw [List.foldl_cons, h3]
    omega
theorem line_sz (least : Nat) (b : JS) (x : LN) : mJ (lineJ least b x) ≤ mJ b + (sizeEs x.parts + x.feeds + x.spaces + 1) := by
  have h1 := parts_fold_sz x.parts (headJ least b x)
  have h2 : mJ (headJ least b x) ≤ mJ b + (x.feeds + x.spaces + 1) := by
    unfold headJ
    split
    · omega
    · unfold mJ
      dsimp only
      rw [List.length_append, List.length_append, List.length_replicate, List.length_replicate]
      split <;> split <;> omega
  unfold lineJ
  omega
theorem fold_sz (least : Nat) : ∀ (ls : List LN) (b : JS), mJ (ls.foldl (lineJ least) b) ≤ mJ b + wL ls
  | [], b => by unfold wL; exact Nat.le_refl _
  | x :: r, b => by
    have h1 := fold_sz least r (lineJ least b x)
    have h2 := line_sz least b x
    have h3 : wL (x :: r) = (sizeEs x.parts + x.feeds + x.spaces + 1) + wL r := by
      unfold wL
      rw [List.map_cons, List.sum_cons]
    rw [List.foldl_cons, h3]
    omega
theorem trim_le (l : List UInt8) : (trimR l).length ≤ l.length := by
  obtain ⟨z, _, e⟩ := trim_eq l
  have := congrArg List.length e
  rw [List.length_append] at this
  omega
theorem join_sz (ls : List LN) : sizeEs (joinS ls) ≤ wL ls := by
  unfold joinS
  obtain ⟨b, hb⟩ : ∃ b, ls.foldl (lineJ (leastS ls.tail)) ([], []) = b := ⟨_, rfl⟩
  have h1 := fold_sz (leastS ls.tail) ls ([], [])
  rw [hb] at h1 ⊢
  have h0 : mJ (([], []) : JS) = 0 := by unfold mJ; rw [sizeEs]; rfl
  have h2 := trim_le b.2
  dsimp only
  rw [end_sz]
  have h3 : mJ (b.1, trimR b.2) ≤ mJ b := by
    unfold mJ
    dsimp only
    split
    · omega
    · next hn =>
      rw [if_neg (fun e => hn (by rw [e]; rfl))]
      omega
  omega
theorem pat_sz (hP : PosOk s P) (hS : SzP P) (hi : i ≤ s.size) {l : List EL} (h : patS P s i = some (l, j)) : i ≤ j ∧ sizeEs l ≤ 1 + 8 * (j - i) := by
  unfold patS at h
  split at h
  · cases h
  · next ls j' hl =>
    cases h
    have h1 := sp_ok s i hi
    have h2 := lines_sz hP hS s.size [] 0 0 _ ls _ (by omega) h1.2 hl
    have h3 := join_sz ls
    have h4 : wL [] = 0 := rfl
    omega
theorem vari_sz (hP : PosOk s P) (hS : SzP P) (hi : i ≤ s.size) {v : VA} (h : variS P s i = some (v, j)) : i ≤ j ∧ sizeVs [v] + 1 ≤ 8 * (j - i) := by
  unfold variS at h
  obtain ⟨q, hq⟩ : ∃ q, (if isAt s i 42 = true then i + 1 else i) = q := ⟨_, rfl⟩
  have hqi : i ≤ q := by rw [← hq]; split <;> omega
  rw [hq] at h
  split at h
  · next hc =>
    have hqs := isAt_lt hc
    have hb := bl_ok s (q + 1) (by omega)
    split at h
    · cases h
    · next hk =>
      split at h
      · next h93 =>
        have h9 := isAt_lt h93
        have hke : bl s (q + 1) ≤ keyE s (bl s (q + 1)) := by
          unfold keyE
          split
          · exact (nu_ok s _ hb.2).1
          · exact (nm_ok s _ hb.2).1
        have hbk := bl_ge s (keyE s (bl s (q + 1)))
        split at h
        · cases h
        · next l j' hp =>
          split at h
          · cases h
            have h1 := pat_sz hP hS (i := bl s (keyE s (bl s (q + 1))) + 1) h9 hp
            have h2 := ext_le9 s (bl s (q + 1)) (keyE s (bl s (q + 1)))
            rw [sizeVs, sizeVs]
            omega
          · cases h
      · cases h
  · cases h
theorem vs_app (v : VA) : ∀ a : List VA, sizeVs (a ++ [v]) = sizeVs a + sizeVs [v]
  | [] => by rw [List.nil_append, sizeVs]; omega
  | .mk k b l :: r => by
    rw [List.cons_append, sizeVs, sizeVs, vs_app v r]
    omega
theorem vars_sz (hP : PosOk s P) (hS : SzP P) : ∀ (m : Nat) (acc : List VA) (i : Nat) (vs : List VA) (j : Nat), s.size - i ≤ m → i ≤ s.size → varsS P s acc i = some (vs, j) → i ≤ j ∧ sizeVs vs ≤ sizeVs acc + 8 * (j - i)
  | m, acc, i, vs, j, hm, hi, h => by
    rw [varsS] at h
    split at h
    · split at h
      · cases h; omega
      · cases h
    · split at h
      · cases h
      · next v j' hv =>
        have h1 := vari_sz hP hS hi hv
        have h0 := bl_ge s j'
        split at h
        · next hl =>
          cases m with
          | zero => omega
          | succ m =>
            have h2 := vars_sz hP hS m _ _ vs j (by omega) hl.2 h
            rw [vs_app] at h2
            omega
        · cases h
end
theorem place_sz (s : ByteArray) : ∀ r, SzP (placeS s r)
  | 0, i, e, j, h => by rw [placeS] at h; cases h
  | r + 1, i, e, j, h => by
    have hP := place_pos s r
    have hS := place_sz s r
    rw [placeS] at h
    split at h
    · next hc =>
      have hi := isAt_lt hc
      have hb := bl_ok s (i + 1) (by omega)
      split at h
      · cases h
      · next e0 j0 hin =>
        have h1 := inl_sz hP hS hb.2 hin
        have h2 := inl_pos hP hb.2 hin
        have h3 := bl_ge s j0
        split at h
        · split at h
          · cases h
          · cases h
            omega
        · split at h
          · next hm =>
            rw [Bool.and_eq_true, Bool.and_eq_true] at hm
            have h62 := isAt_lt hm.1.2
            split at h
            · cases h
            · next vs m hv =>
              cases h
              unfold selS at hv
              split at hv
              · next h10 =>
                have h11 := isAt_lt h10
                have h12 := sp_ge s (bl s j0 + 2)
                have h13 := bl_ok s (sp s (bl s j0 + 2) + 1) h11
                have h4 := vars_sz hP hS s.size [] _ vs _ (by omega) h13.2 hv
                rw [EX.size, sizeAs, sizeO, E0_size]
                rw [sizeVs] at h4
                omega
              · cases hv
          · cases h
    · cases h
end Go.Proofs.YtamghpleajbonaaGreatDoor
