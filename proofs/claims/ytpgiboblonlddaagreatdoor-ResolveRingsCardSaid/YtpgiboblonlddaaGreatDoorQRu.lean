/-
  ResolveRings: messages in a ring (written by bin/gen_ru.py).
-/
import Derived.Test.YtpgiboblonlddaaGreatDoorQ45
namespace Go.Proofs.YtpgiboblonlddaaGreatDoor
open Go.RowKit Go.ChangeMaps
set_option linter.unusedVariables false
set_option linter.unusedSimpArgs false

/-- A message's name; its letter. -/
def nmR (i : Nat) : ByteArray := ⟨#[109, UInt8.ofNat (97 + i)]⟩
def ltR (i : Nat) : UInt8 := UInt8.ofNat (65 + i)
def lineR (n i : Nat) : List UInt8 := [109, UInt8.ofNat (97 + i), 32, 61, 32, ltR i, 123, 32, 109, UInt8.ofNat (97 + (i + 1) % n), 32, 125, 10]
def ringL (n : Nat) : Nat → List UInt8
  | 0 => []
  | i + 1 => ringL n i ++ lineR n i
def ringB (n i : Nat) : ByteArray := ⟨(ringL n i).toArray⟩
theorem ringB_size (n : Nat) : ∀ i, (ringB n i).size = 13 * i
  | 0 => rfl
  | i + 1 => by
    unfold ringB
    rw [size_mk, ringL, List.length_append]
    have := ringB_size n i
    unfold ringB at this
    rw [size_mk] at this
    rw [this]
    show 13 * i + 13 = 13 * (i + 1)
    omega
def refR (n i : Nat) : EX := .mk 3 E0 (nmR ((i + 1) % n)) E0 [] none []
def patR (n i : Nat) : List EL := [.mk ⟨#[ltR i]⟩ none, .mk E0 (some (refR n i))]
def enR (n i : Nat) : EN := ⟨1, 0, E0, nmR i, patR n i, [], 13 * i, 13 * (i + 1)⟩
def ensR (n : Nat) : List EN := (List.range n).map (enR n)
theorem ring_go (m : Nat) (e : (⟨(decAll (ringB m m)).toArray⟩ : ByteArray) = ringB m m) (h : docF (ringB m m) 300 = some (ensR m)) : docS (ringB m m) = ensR m := by
  unfold docS
  rw [e]
  exact docF_ok h
set_option maxRecDepth 100000 in
theorem ring_dec1 : (⟨(decAll (ringB 1 1)).toArray⟩ : ByteArray) = ringB 1 1 := by kernel_rfl
set_option maxRecDepth 100000 in
theorem ring_doc1 : docF (ringB 1 1) 300 = some (ensR 1) := by kernel_rfl
set_option maxRecDepth 100000 in
theorem ring_dec2 : (⟨(decAll (ringB 2 2)).toArray⟩ : ByteArray) = ringB 2 2 := by kernel_rfl
set_option maxRecDepth 100000 in
theorem ring_doc2 : docF (ringB 2 2) 300 = some (ensR 2) := by kernel_rfl
set_option maxRecDepth 100000 in
theorem ring_dec3 : (⟨(decAll (ringB 3 3)).toArray⟩ : ByteArray) = ringB 3 3 := by kernel_rfl
set_option maxRecDepth 100000 in
theorem ring_doc3 : docF (ringB 3 3) 300 = some (ensR 3) := by kernel_rfl
set_option maxRecDepth 100000 in
theorem ring_dec4 : (⟨(decAll (ringB 4 4)).toArray⟩ : ByteArray) = ringB 4 4 := by kernel_rfl
set_option maxRecDepth 100000 in
theorem ring_doc4 : docF (ringB 4 4) 300 = some (ensR 4) := by kernel_rfl
set_option maxRecDepth 100000 in
theorem ring_dec5 : (⟨(decAll (ringB 5 5)).toArray⟩ : ByteArray) = ringB 5 5 := by kernel_rfl
set_option maxRecDepth 100000 in
theorem ring_doc5 : docF (ringB 5 5) 300 = some (ensR 5) := by kernel_rfl
set_option maxRecDepth 100000 in
theorem ring_dec6 : (⟨(decAll (ringB 6 6)).toArray⟩ : ByteArray) = ringB 6 6 := by kernel_rfl
set_option maxRecDepth 100000 in
theorem ring_doc6 : docF (ringB 6 6) 300 = some (ensR 6) := by kernel_rfl
set_option maxRecDepth 100000 in
theorem ring_dec7 : (⟨(decAll (ringB 7 7)).toArray⟩ : ByteArray) = ringB 7 7 := by kernel_rfl
set_option maxRecDepth 100000 in
theorem ring_doc7 : docF (ringB 7 7) 300 = some (ensR 7) := by kernel_rfl
set_option maxRecDepth 100000 in
theorem ring_dec8 : (⟨(decAll (ringB 8 8)).toArray⟩ : ByteArray) = ringB 8 8 := by kernel_rfl
set_option maxRecDepth 100000 in
theorem ring_doc8 : docF (ringB 8 8) 300 = some (ensR 8) := by kernel_rfl
set_option maxRecDepth 100000 in
theorem ring_dec9 : (⟨(decAll (ringB 9 9)).toArray⟩ : ByteArray) = ringB 9 9 := by kernel_rfl
set_option maxRecDepth 100000 in
theorem ring_doc9 : docF (ringB 9 9) 300 = some (ensR 9) := by kernel_rfl
set_option maxRecDepth 100000 in
theorem ring_dec10 : (⟨(decAll (ringB 10 10)).toArray⟩ : ByteArray) = ringB 10 10 := by kernel_rfl
set_option maxRecDepth 100000 in
theorem ring_doc10 : docF (ringB 10 10) 300 = some (ensR 10) := by kernel_rfl
set_option maxRecDepth 100000 in
theorem ring_dec11 : (⟨(decAll (ringB 11 11)).toArray⟩ : ByteArray) = ringB 11 11 := by kernel_rfl
set_option maxRecDepth 100000 in
theorem ring_doc11 : docF (ringB 11 11) 300 = some (ensR 11) := by kernel_rfl
set_option maxRecDepth 100000 in
theorem ring_dec12 : (⟨(decAll (ringB 12 12)).toArray⟩ : ByteArray) = ringB 12 12 := by kernel_rfl
set_option maxRecDepth 100000 in
theorem ring_doc12 : docF (ringB 12 12) 300 = some (ensR 12) := by kernel_rfl
set_option maxRecDepth 100000 in
theorem ring_dec13 : (⟨(decAll (ringB 13 13)).toArray⟩ : ByteArray) = ringB 13 13 := by kernel_rfl
set_option maxRecDepth 100000 in
theorem ring_doc13 : docF (ringB 13 13) 300 = some (ensR 13) := by kernel_rfl
set_option maxRecDepth 100000 in
theorem ring_dec14 : (⟨(decAll (ringB 14 14)).toArray⟩ : ByteArray) = ringB 14 14 := by kernel_rfl
set_option maxRecDepth 100000 in
theorem ring_doc14 : docF (ringB 14 14) 300 = some (ensR 14) := by kernel_rfl
set_option maxRecDepth 100000 in
theorem ring_dec15 : (⟨(decAll (ringB 15 15)).toArray⟩ : ByteArray) = ringB 15 15 := by kernel_rfl
set_option maxRecDepth 100000 in
theorem ring_doc15 : docF (ringB 15 15) 300 = some (ensR 15) := by kernel_rfl
set_option maxRecDepth 100000 in
theorem ring_dec16 : (⟨(decAll (ringB 16 16)).toArray⟩ : ByteArray) = ringB 16 16 := by kernel_rfl
set_option maxRecDepth 100000 in
theorem ring_doc16 : docF (ringB 16 16) 300 = some (ensR 16) := by kernel_rfl
theorem ring_doc (n : Nat) (h1 : 1 ≤ n) (h2 : n ≤ 16) : docS (ringB n n) = ensR n :=
  match n, h1, h2 with
  | 1, _, _ => ring_go 1 ring_dec1 ring_doc1
  | 2, _, _ => ring_go 2 ring_dec2 ring_doc2
  | 3, _, _ => ring_go 3 ring_dec3 ring_doc3
  | 4, _, _ => ring_go 4 ring_dec4 ring_doc4
  | 5, _, _ => ring_go 5 ring_dec5 ring_doc5
  | 6, _, _ => ring_go 6 ring_dec6 ring_doc6
  | 7, _, _ => ring_go 7 ring_dec7 ring_doc7
  | 8, _, _ => ring_go 8 ring_dec8 ring_doc8
  | 9, _, _ => ring_go 9 ring_dec9 ring_doc9
  | 10, _, _ => ring_go 10 ring_dec10 ring_doc10
  | 11, _, _ => ring_go 11 ring_dec11 ring_doc11
  | 12, _, _ => ring_go 12 ring_dec12 ring_doc12
  | 13, _, _ => ring_go 13 ring_dec13 ring_doc13
  | 14, _, _ => ring_go 14 ring_dec14 ring_doc14
  | 15, _, _ => ring_go 15 ring_dec15 ring_doc15
  | 16, _, _ => ring_go 16 ring_dec16 ring_doc16
  | k + 17, _, h => absurd h (by omega)
def opensR (f n : Nat) : Nat → List ByteArray
  | 0 => []
  | j + 1 => opensR f n j ++ [nmR ((f + j) % n)]
theorem nmR_inj {i j : Nat} (hi : i < 16) (hj : j < 16) (h : nmR i = nmR j) : i = j := by
  unfold nmR at h
  have h1 : (109 : UInt8) = 109 ∧ UInt8.ofNat (97 + i) = UInt8.ofNat (97 + j) := by simpa using h
  have h2 := congrArg UInt8.toNat h1.2
  simp only [UInt8.toNat_ofNat'] at h2
  omega
theorem mod_ne {f n i j : Nat} (hij : i < j) (hj : j < n) : (f + i) % n ≠ (f + j) % n := by
  intro h
  have h1 := Nat.div_add_mod (f + i) n
  have h2 := Nat.div_add_mod (f + j) n
  rw [h] at h1
  have h3 : j - i = n * ((f + j) / n) - n * ((f + i) / n) := by omega
  rw [← Nat.mul_sub] at h3
  cases hq : (f + j) / n - (f + i) / n with
  | zero => rw [hq] at h3; omega
  | succ q => rw [hq, Nat.mul_succ] at h3; omega
theorem opens_mem {f n : Nat} (hn : n ≤ 16) (h0 : 0 < n) {x : Nat} (hx : x < 16) : ∀ j, nmR x ∈ opensR f n j → ∃ i, i < j ∧ x = (f + i) % n
  | 0, h => absurd h (by simp [opensR])
  | j + 1, h => by
    rw [opensR, List.mem_append] at h
    rcases h with h | h
    · obtain ⟨i, hi, e⟩ := opens_mem hn h0 hx j h
      exact ⟨i, by omega, e⟩
    · rw [List.mem_singleton] at h
      have := Nat.mod_lt (f + j) h0
      exact ⟨j, by omega, nmR_inj hx (by omega) h⟩
theorem opens_first {f n : Nat} (hf : f < n) : ∀ j, nmR f ∈ opensR f n (j + 1)
  | 0 => by simp [opensR, Nat.mod_eq_of_lt hf]
  | j + 1 => by
    rw [opensR, List.mem_append]
    exact .inl (opens_first hf j)
theorem memB_yes {n : ByteArray} {l : List ByteArray} (h : n ∈ l) : memB n l = true := by
  unfold memB
  rw [List.any_eq_true]
  exact ⟨n, h, decide_eq_true rfl⟩
theorem memB_no {n : ByteArray} {l : List ByteArray} (h : n ∉ l) : memB n l = false := by
  unfold memB
  rw [List.any_eq_false]
  intro x hx e
  rw [of_decide_eq_true e] at h
  exact h hx
/-- What is written from the j-th message on. -/
def ringT (f n : Nat) : Nat → Nat → List UInt8
  | 0, _ => 123 :: (nmR f).data.toList ++ [125]
  | k + 1, j => ltR ((f + j) % n) :: ringT f n k (j + 1)
theorem ringT_length (f n : Nat) : ∀ k j, (ringT f n k j).length = k + 4
  | 0, j => rfl
  | k + 1, j => by rw [ringT, List.length_cons, ringT_length f n k (j + 1)]
theorem join0 (n : ByteArray) : joinN n E0 = n := by unfold joinN; rfl
theorem nm_ref (i : Nat) : nameE (.mk 3 E0 (nmR i) E0 [] none []) = nmR i := by
  show nameK 3 (nmR i) E0 = nmR i
  unfold nameK
  rw [if_neg (by decide), if_pos rfl, join0]
theorem ref_in {P : PlG} {e : EX} {x : Ent} {l : List EL} {nm : ByteArray} {a : Sc} {op : List ByteArray} {s : RSt} (h : x.pat (exA e) = (true, l)) (hn : nameE e = nm) :
    refG P e x a op s = if memB nm op = true then (badG 7 nm s).map fun s => (none, s) else (namedG P nm l a op s).map fun q => (some (strV q.1), q.2) := by
  unfold refG
  simp only [h, hn]
  rw [if_neg (by decide)]
theorem ring_spec (R : RL) (hS : R.str = strT) (n f : Nat) (hn : n ≤ 16) (hf : f < n) (hE : ∀ i, i < n → ∃ x, R.ent false (nmR i) = some x ∧ x.pat E0 = (true, patR n i)) :
    ∀ k j, j + (k + 1) = n → namedG (placeG R (k + 1)) (nmR ((f + j) % n)) (patR n ((f + j) % n)) [] (opensR f n j) ⟨j, [], 0⟩ = some (⟨(ringT f n (k + 1) j).toArray⟩, ⟨n, [(7, nmR f)], 0⟩) := by
  intro k
  induction k with
  | zero =>
    intro j hj
    have hmod : ((f + j) % n + 1) % n = f := by
      rw [Nat.mod_add_mod, show f + j + 1 = f + n by omega, Nat.add_mod_right, Nat.mod_eq_of_lt hf]
    obtain ⟨x, hx1, hx2⟩ := hE f hf
    have hp : placeG R 1 (refR n ((f + j) % n)) [] (opensR f n j ++ [nmR ((f + j) % n)]) ⟨j, [], 0⟩ = some (bracB (nmR f), ⟨n, [(7, nmR f)], 0⟩) := by
      have hv : valG R (placeG R 0) (refR n ((f + j) % n)) [] (opensR f n j ++ [nmR ((f + j) % n)]) ⟨j + 1, [], 0⟩ = some (none, ⟨n, [(7, nmR f)], 0⟩) := by
        unfold valG refR
        rw [hmod]
        simp only [exK, exN, exA]
        rw [if_neg (by decide), if_neg (by decide), if_neg (by decide), if_pos trivial, hx1]
        dsimp only
        refine (ref_in (e := .mk 3 E0 (nmR f) E0 [] none []) hx2 (nm_ref f)).trans ?_
        rw [if_pos (show memB (nmR f) (opensR f n j ++ [nmR ((f + j) % n)]) = true from memB_yes (opens_first hf j))]
        unfold badG
        rw [if_pos (by simp)]
        subst hj
        rfl
      have he : exprG R (placeG R 0) (refR n ((f + j) % n)) [] (opensR f n j ++ [nmR ((f + j) % n)]) ⟨j + 1, [], 0⟩ = some (bracB (nmR f), ⟨n, [(7, nmR f)], 0⟩) := by
        unfold exprG
        rw [hv]
        dsimp only
        unfold refR
        rw [hmod, nm_ref]
      rw [placeG]
      dsimp only
      rw [if_neg (by omega), if_neg (by omega), he]
      dsimp only
      rw [if_neg (by have := Lib.runeCount_le (bracB (nmR f)); have h4 : (bracB (nmR f)).size = 4 := rfl; omega)]
    unfold namedG patR
    rw [patG, if_pos (by show 0 + 1 ≤ _; omega), patG]
    dsimp only
    rw [hp]
    dsimp only
    rw [if_pos (by show 0 + 1 + 4 ≤ _; omega), patG]
    rfl
  | succ k ih =>
    intro j hj
    have hmod : ((f + j) % n + 1) % n = (f + (j + 1)) % n := by
      rw [Nat.mod_add_mod, Nat.add_assoc]
    have hlt : (f + (j + 1)) % n < n := Nat.mod_lt _ (by omega)
    obtain ⟨x, hx1, hx2⟩ := hE _ hlt
    have hno : nmR ((f + (j + 1)) % n) ∉ opensR f n (j + 1) := fun hm => by
      obtain ⟨i, hi, e⟩ := opens_mem hn (by omega) (by omega) (j + 1) hm
      exact mod_ne hi (by omega) e.symm
    have hI := ih (j + 1) (by omega)
    rw [opensR] at hI
    have ht4 : (ringT f n (k + 1) (j + 1)).length = k + 1 + 4 := ringT_length f n (k + 1) (j + 1)
    have hp : placeG R (k + 2) (refR n ((f + j) % n)) [] (opensR f n j ++ [nmR ((f + j) % n)]) ⟨j, [], 0⟩ = some (⟨(ringT f n (k + 1) (j + 1)).toArray⟩, ⟨n, [(7, nmR f)], 0⟩) := by
      have hv : valG R (placeG R (k + 1)) (refR n ((f + j) % n)) [] (opensR f n j ++ [nmR ((f + j) % n)]) ⟨j + 1, [], 0⟩ = some (some (strV ⟨(ringT f n (k + 1) (j + 1)).toArray⟩), ⟨n, [(7, nmR f)], 0⟩) := by
        unfold valG refR
        rw [hmod]
        simp only [exK, exN, exA]
        rw [if_neg (by decide), if_neg (by decide), if_neg (by decide), if_pos trivial, hx1]
        dsimp only
        refine (ref_in (e := .mk 3 E0 (nmR ((f + (j + 1)) % n)) E0 [] none []) hx2 (nm_ref _)).trans ?_
        rw [if_neg (by rw [show memB (nmR ((f + (j + 1)) % n)) (opensR f n j ++ [nmR ((f + j) % n)]) = false from memB_no hno]; decide), hI]
        rfl
      have he : exprG R (placeG R (k + 1)) (refR n ((f + j) % n)) [] (opensR f n j ++ [nmR ((f + j) % n)]) ⟨j + 1, [], 0⟩ = some (⟨(ringT f n (k + 1) (j + 1)).toArray⟩, ⟨n, [(7, nmR f)], 0⟩) := by
        unfold exprG
        rw [hv, hS]
        dsimp only
        rw [show strT (strV ⟨(ringT f n (k + 1) (j + 1)).toArray⟩) = some (⟨(ringT f n (k + 1) (j + 1)).toArray⟩, 0) from rfl]
        dsimp only
        rw [if_pos ⟨by omega, by rw [size_mk]; omega⟩]
      rw [placeG]
      dsimp only
      rw [if_neg (by omega), if_neg (by omega), he]
      dsimp only
      rw [if_neg (by have := Lib.runeCount_le (⟨(ringT f n (k + 1) (j + 1)).toArray⟩ : ByteArray); rw [size_mk] at this; omega)]
    unfold namedG
    rw [show patR n ((f + j) % n) = [.mk ⟨#[ltR ((f + j) % n)]⟩ none, .mk E0 (some (refR n ((f + j) % n)))] from rfl]
    rw [patG, if_pos (by show 0 + 1 ≤ _; omega), patG]
    dsimp only
    rw [hp]
    dsimp only
    rw [if_pos (by show 0 + 1 + (⟨(ringT f n (k + 1) (j + 1)).toArray⟩ : ByteArray).size ≤ _; rw [size_mk]; omega), patG]
    rfl
/-- The letters that the law wants. -/
def wantL (f n : Nat) : Nat → List UInt8
  | 0 => []
  | j + 1 => wantL f n j ++ [ltR ((f + j) % n)]
theorem want_ring (f n : Nat) : ∀ k j, wantL f n j ++ ringT f n k j = wantL f n (j + k) ++ ringT f n 0 (j + k)
  | 0, j => rfl
  | k + 1, j => by
    have h := want_ring f n k (j + 1)
    rw [show j + 1 + k = j + (k + 1) by omega] at h
    rw [← h, wantL, List.append_assoc]
    rfl
theorem want_size (f n : Nat) : ∀ j, (wantL f n j).length = j
  | 0 => rfl
  | j + 1 => by rw [wantL, List.length_append, want_size f n j]; rfl
end Go.Proofs.YtpgiboblonlddaaGreatDoor
