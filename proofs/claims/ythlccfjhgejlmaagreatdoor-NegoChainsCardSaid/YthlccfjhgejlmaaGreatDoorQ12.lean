/-
  Several texts put together (part 12): what the law and the program call, walked; their contracts.
-/
import Derived.Test.YthlccfjhgejlmaaGreatDoorQ10
import Derived.Test.YthlccfjhgejlmaaGreatDoorQ11
import Derived.Lib.Case
namespace Go.Proofs.YthlccfjhgejlmaaGreatDoor
open Go
theorem all256 (p : UInt8 → Bool) (h : ∀ i : Fin 256, p (UInt8.ofNat i.val) = true) (c : UInt8) : p c = true := by
  have := h ⟨c.toNat, c.toNat_lt⟩
  simpa using this
theorem low_let (c : UInt8) : letB (Lib.lowerB c) = letB c := by
  have := all256 (fun c => letB (Lib.lowerB c) == letB c) (by decide +kernel) c; simpa using this
theorem upp_let (c : UInt8) : letB (Lib.upperB c) = letB c := by
  have := all256 (fun c => letB (Lib.upperB c) == letB c) (by decide +kernel) c; simpa using this
theorem low_dig (c : UInt8) : digTB (Lib.lowerB c) = digTB c := by
  have := all256 (fun c => digTB (Lib.lowerB c) == digTB c) (by decide +kernel) c; simpa using this
theorem upp_dig (c : UInt8) : digTB (Lib.upperB c) = digTB c := by
  have := all256 (fun c => digTB (Lib.upperB c) == digTB c) (by decide +kernel) c; simpa using this
theorem low_ld (c : UInt8) : letDigB (Lib.lowerB c) = letDigB c := by unfold letDigB; rw [low_let, low_dig]
theorem upp_ld (c : UInt8) : letDigB (Lib.upperB c) = letDigB c := by unfold letDigB; rw [upp_let, upp_dig]
theorem low_low (c : UInt8) : Lib.lowerB (Lib.lowerB c) = Lib.lowerB c := by
  have := all256 (fun c => Lib.lowerB (Lib.lowerB c) == Lib.lowerB c) (by decide +kernel) c; simpa using this
theorem upp_upp (c : UInt8) : Lib.upperB (Lib.upperB c) = Lib.upperB c := by
  have := all256 (fun c => Lib.upperB (Lib.upperB c) == Lib.upperB c) (by decide +kernel) c; simpa using this
theorem low_upp (c : UInt8) : Lib.lowerB (Lib.upperB c) = Lib.lowerB c := by
  have := all256 (fun c => Lib.lowerB (Lib.upperB c) == Lib.lowerB c) (by decide +kernel) c; simpa using this
theorem upp_low (c : UInt8) : Lib.upperB (Lib.lowerB c) = Lib.upperB c := by
  have := all256 (fun c => Lib.upperB (Lib.lowerB c) == Lib.upperB c) (by decide +kernel) c; simpa using this
theorem low_hy (c : UInt8) : Lib.lowerB c = 45 ↔ c = 45 := by
  have := all256 (fun c => (Lib.lowerB c == 45) == (c == 45)) (by decide +kernel) c
  simp only [beq_iff_eq] at this
  rw [Bool.eq_iff_iff] at this; simpa using this
theorem upp_hy (c : UInt8) : Lib.upperB c = 45 ↔ c = 45 := by
  have := all256 (fun c => (Lib.upperB c == 45) == (c == 45)) (by decide +kernel) c
  simp only [beq_iff_eq] at this
  rw [Bool.eq_iff_iff] at this; simpa using this
theorem ld_hy : letDigB 45 = false := by decide
theorem let_hy : letB 45 = false := by decide
theorem dig_hy : digTB 45 = false := by decide
theorem ld_128 (c : UInt8) (h : letDigB c = true) : c.toNat < 128 := by
  have := all256 (fun c => !letDigB c || decide (c.toNat < 128)) (by decide +kernel) c; simpa [h] using this
theorem let_ld (c : UInt8) (h : letB c = true) : letDigB c = true := by simp [letDigB, h]
theorem dig_ld (c : UInt8) (h : digTB c = true) : letDigB c = true := by simp [letDigB, h]
theorem dig_let (c : UInt8) (h : digTB c = true) : letB c = false := by
  have := all256 (fun c => !digTB c || !letB c) (by decide +kernel) c; simpa [h] using this
def low (l : List UInt8) : List UInt8 := Lib.toLowerA l
def upp (l : List UInt8) : List UInt8 := Lib.toUpperA l
def title (l : List UInt8) : List UInt8 := upp (l.take 1) ++ low (l.drop 1)
theorem low_length (l : List UInt8) : (low l).length = l.length := by simp [low, Lib.toLowerA]
theorem upp_length (l : List UInt8) : (upp l).length = l.length := by simp [upp, Lib.toUpperA]
theorem title_length (l : List UInt8) : (title l).length = l.length := by
  rw [title, List.length_append, upp_length, low_length]; simp; omega
theorem all_map (p : UInt8 → Bool) (f : UInt8 → UInt8) (h : ∀ c, p (f c) = p c) (l : List UInt8) : (l.map f).all p = l.all p := by
  rw [List.all_map]; congr 1; funext c; exact h c
theorem all_low (p : UInt8 → Bool) (h : ∀ c, p (Lib.lowerB c) = p c) (l : List UInt8) : (low l).all p = l.all p := all_map p _ h l
theorem all_upp (p : UInt8 → Bool) (h : ∀ c, p (Lib.upperB c) = p c) (l : List UInt8) : (upp l).all p = l.all p := all_map p _ h l
theorem all_title (p : UInt8 → Bool) (h : ∀ c, p (Lib.lowerB c) = p c) (h2 : ∀ c, p (Lib.upperB c) = p c) (l : List UInt8) : (title l).all p = l.all p := by
  rw [title, List.all_append, all_low p h, all_upp p h2, ← List.all_append, List.take_append_drop]
theorem low_idem (l : List UInt8) : low (low l) = low l := by simp [low, Lib.toLowerA, low_low]
theorem upp_idem (l : List UInt8) : upp (upp l) = upp l := by simp [upp, Lib.toUpperA, upp_upp]
theorem low_of_upp (l : List UInt8) : low (upp l) = low l := by simp [low, upp, Lib.toLowerA, Lib.toUpperA, low_upp]
theorem upp_of_low (l : List UInt8) : upp (low l) = upp l := by simp [low, upp, Lib.toLowerA, Lib.toUpperA, upp_low]
theorem low_take (l : List UInt8) (n : Nat) : (low l).take n = low (l.take n) := by simp [low, Lib.toLowerA, List.map_take]
theorem low_drop (l : List UInt8) (n : Nat) : (low l).drop n = low (l.drop n) := by simp [low, Lib.toLowerA, List.map_drop]
theorem upp_take (l : List UInt8) (n : Nat) : (upp l).take n = upp (l.take n) := by simp [upp, Lib.toUpperA, List.map_take]
theorem upp_drop (l : List UInt8) (n : Nat) : (upp l).drop n = upp (l.drop n) := by simp [upp, Lib.toUpperA, List.map_drop]
theorem title_low (l : List UInt8) : title (low l) = title l := by rw [title, title, low_take, low_drop, low_idem, upp_of_low]
theorem title_upp (l : List UInt8) : title (upp l) = title l := by rw [title, title, upp_take, upp_drop, upp_idem, low_of_upp]
theorem title_idem (l : List UInt8) : title (title l) = title l := by
  cases l with
  | nil => rfl
  | cons c r =>
    have : title (c :: r) = Lib.upperB c :: low r := rfl
    rw [this]
    show Lib.upperB (Lib.upperB c) :: low (low r) = _
    rw [upp_upp, low_idem]
theorem lang_low (l : List UInt8) : langB (low l) = langB l := by unfold langB; rw [low_length, all_low _ low_let]
theorem lang_upp (l : List UInt8) : langB (upp l) = langB l := by unfold langB; rw [upp_length, all_upp _ upp_let]
theorem script_low (l : List UInt8) : scriptB (low l) = scriptB l := by unfold scriptB; rw [low_length, all_low _ low_let]
theorem script_upp (l : List UInt8) : scriptB (upp l) = scriptB l := by unfold scriptB; rw [upp_length, all_upp _ upp_let]
theorem script_title (l : List UInt8) : scriptB (title l) = scriptB l := by unfold scriptB; rw [title_length, all_title _ low_let upp_let]
theorem region_low (l : List UInt8) : regionB (low l) = regionB l := by unfold regionB; rw [low_length, all_low _ low_let, all_low _ low_dig]
theorem region_upp (l : List UInt8) : regionB (upp l) = regionB l := by unfold regionB; rw [upp_length, all_upp _ upp_let, all_upp _ upp_dig]
theorem head_low (l : List UInt8) : digTB ((low l).headD 0) = digTB (l.headD 0) := by
  cases l with
  | nil => rfl
  | cons c r => exact low_dig c
theorem head_upp (l : List UInt8) : digTB ((upp l).headD 0) = digTB (l.headD 0) := by
  cases l with
  | nil => rfl
  | cons c r => exact upp_dig c
theorem variant_low (l : List UInt8) : variantB (low l) = variantB l := by unfold variantB; rw [low_length, all_low _ low_ld, head_low]
theorem variant_upp (l : List UInt8) : variantB (upp l) = variantB l := by unfold variantB; rw [upp_length, all_upp _ upp_ld, head_upp]
theorem region_script {l : List UInt8} (h : regionB l = true) : scriptB l = false := by
  unfold regionB at h; unfold scriptB
  have : l.length ≠ 4 := by
    intro e; simp [e] at h
  simp [this]
theorem variant_region {l : List UInt8} (h : variantB l = true) : regionB l = false := by
  unfold variantB at h; unfold regionB
  simp only [Bool.and_eq_true, decide_eq_true_eq] at h
  have h2 : l.length ≠ 2 := by omega
  have h3 : l.length ≠ 3 := by omega
  simp [h2, h3]
theorem variant_script {l : List UInt8} (h : variantB l = true) : scriptB l = false := by
  unfold variantB at h; unfold scriptB
  cases l with
  | nil => rfl
  | cons c r =>
    by_cases hl : (c :: r).length = 4
    · simp only [hl, List.headD_cons, Bool.and_eq_true, Bool.not_eq_true', decide_eq_true_eq, beq_self_eq_true, Bool.true_and, Bool.not_eq_false'] at h
      rw [List.all_cons, dig_let c h.1]; simp
    · simp [show ¬ r.length = 3 from fun e => hl (by simp [e])]
theorem free_of_all {p : UInt8 → Bool} (hp : p 45 = false) {l : List UInt8} (h : l.all p = true) : (45 : UInt8) ∉ l := by
  intro hm
  have := List.all_eq_true.1 h 45 hm
  rw [hp] at this; cases this
theorem lang_free {l : List UInt8} (h : langB l = true) : (45 : UInt8) ∉ l := by
  unfold langB at h; simp only [Bool.and_eq_true] at h; exact free_of_all let_hy h.2
theorem script_free {l : List UInt8} (h : scriptB l = true) : (45 : UInt8) ∉ l := by
  unfold scriptB at h; simp only [Bool.and_eq_true] at h; exact free_of_all let_hy h.2
theorem region_free {l : List UInt8} (h : regionB l = true) : (45 : UInt8) ∉ l := by
  unfold regionB at h; simp only [Bool.or_eq_true, Bool.and_eq_true] at h
  rcases h with h | h
  · exact free_of_all let_hy h.2
  · exact free_of_all dig_hy h.2
theorem variant_free {l : List UInt8} (h : variantB l = true) : (45 : UInt8) ∉ l := by
  unfold variantB at h; simp only [Bool.and_eq_true] at h; exact free_of_all ld_hy h.2.2
theorem lang_ne {l : List UInt8} (h : langB l = true) : l ≠ [] := by rintro rfl; exact absurd h (by decide)
theorem script_ne {l : List UInt8} (h : scriptB l = true) : l ≠ [] := by rintro rfl; exact absurd h (by decide)
theorem region_ne {l : List UInt8} (h : regionB l = true) : l ≠ [] := by rintro rfl; exact absurd h (by decide)
theorem variant_ne {l : List UInt8} (h : variantB l = true) : l ≠ [] := by rintro rfl; exact absurd h (by decide)
structure TagT where
  L : List UInt8
  S : List UInt8
  R : List UInt8
  vs : List (List UInt8)
def scrOf : List (List UInt8) → List UInt8 × List (List UInt8)
  | [] => ([], [])
  | p :: ps => if scriptB p then (title p, ps) else ([], p :: ps)
def regOf : List (List UInt8) → List UInt8 × List (List UInt8)
  | [] => ([], [])
  | p :: ps => if regionB p then (upp p, ps) else ([], p :: ps)
def varsOk (r : List (List UInt8)) : Bool := r.all variantB && decide ((r.map low).Nodup)
def restOf (ps : List (List UInt8)) : List (List UInt8) := (regOf (scrOf ps).2).2
def tagOf : List (List UInt8) → Option TagT
  | [] => none
  | p :: ps => if langB p then (if varsOk (restOf ps) then some ⟨low p, (scrOf ps).1, (regOf (scrOf ps).2).1, (restOf ps).map low⟩ else none) else none
theorem tagOf_cons (p : List UInt8) (ps : List (List UInt8)) : tagOf (p :: ps) = if langB p then (if varsOk (restOf ps) then some ⟨low p, (scrOf ps).1, (regOf (scrOf ps).2).1, (restOf ps).map low⟩ else none) else none := rfl
def TagT.pieces (t : TagT) : List (List UInt8) := [t.L, t.S, t.R].filter (fun s => decide (s ≠ [])) ++ t.vs
structure TagT.Good (t : TagT) : Prop where
  hL : langB t.L = true
  lL : low t.L = t.L
  hS : t.S = [] ∨ (scriptB t.S = true ∧ title t.S = t.S)
  hR : t.R = [] ∨ (regionB t.R = true ∧ upp t.R = t.R)
  hv : ∀ v ∈ t.vs, variantB v = true ∧ low v = v
  nd : t.vs.Nodup
theorem scrOf_cases (ps : List (List UInt8)) : (∃ p qs, ps = p :: qs ∧ scriptB p = true ∧ scrOf ps = (title p, qs)) ∨ ((∀ p qs, ps = p :: qs → scriptB p = false) ∧ scrOf ps = ([], ps)) := by
  cases ps with
  | nil => exact .inr ⟨fun p qs h => by simp at h, rfl⟩
  | cons p qs =>
    cases h : scriptB p
    · exact .inr ⟨fun p' qs' e => by cases e; exact h, by simp [scrOf, h]⟩
    · exact .inl ⟨p, qs, rfl, h, by simp [scrOf, h]⟩
theorem regOf_cases (ps : List (List UInt8)) : (∃ p qs, ps = p :: qs ∧ regionB p = true ∧ regOf ps = (upp p, qs)) ∨ ((∀ p qs, ps = p :: qs → regionB p = false) ∧ regOf ps = ([], ps)) := by
  cases ps with
  | nil => exact .inr ⟨fun p qs h => by simp at h, rfl⟩
  | cons p qs =>
    cases h : regionB p
    · exact .inr ⟨fun p' qs' e => by cases e; exact h, by simp [regOf, h]⟩
    · exact .inl ⟨p, qs, rfl, h, by simp [regOf, h]⟩
theorem tagOf_good {ps : List (List UInt8)} {t : TagT} (h : tagOf ps = some t) : t.Good := by
  cases ps with
  | nil => simp [tagOf] at h
  | cons p ps =>
    rw [tagOf_cons] at h
    cases hl : langB p
    · rw [hl] at h; simp at h
    · rw [hl] at h
      simp only [if_true] at h
      cases hv : varsOk (restOf ps)
      · rw [hv] at h; simp at h
      · rw [hv] at h
        simp only [if_true] at h
        obtain rfl := Option.some.inj h
        simp only [varsOk, Bool.and_eq_true, decide_eq_true_eq] at hv
        refine ⟨by rw [lang_low]; exact hl, low_idem p, ?_, ?_, ?_, hv.2⟩
        · rcases scrOf_cases ps with ⟨p', qs, _, h1, h2⟩ | ⟨_, h2⟩
          · rw [h2]; exact .inr ⟨by rw [script_title]; exact h1, title_idem p'⟩
          · rw [h2]; exact .inl rfl
        · rcases regOf_cases (scrOf ps).2 with ⟨p', qs, _, h1, h2⟩ | ⟨_, h2⟩
          · rw [h2]; exact .inr ⟨by rw [region_upp]; exact h1, upp_idem p'⟩
          · rw [h2]; exact .inl rfl
        · intro v hv'
          obtain ⟨u, hu, rfl⟩ := List.mem_map.1 hv'
          exact ⟨by rw [variant_low]; exact List.all_eq_true.1 hv.1 u hu, low_idem u⟩
theorem low_all {vs : List (List UInt8)} (h : ∀ v ∈ vs, variantB v = true ∧ low v = v) : vs.map low = vs := by
  conv => rhs; rw [← List.map_id vs]
  exact List.map_congr_left fun v hv => (h v hv).2
theorem varsOk_of {t : TagT} (g : t.Good) : varsOk t.vs = true := by
  unfold varsOk
  rw [low_all g.hv]
  simp only [Bool.and_eq_true, decide_eq_true_eq]
  exact ⟨List.all_eq_true.2 fun v hv => (g.hv v hv).1, g.nd⟩
theorem scr_vars {vs : List (List UInt8)} (h : ∀ v ∈ vs, variantB v = true ∧ low v = v) : scrOf vs = ([], vs) := by
  cases vs with
  | nil => rfl
  | cons v vs => simp [scrOf, variant_script (h v (by simp)).1]
theorem reg_vars {vs : List (List UInt8)} (h : ∀ v ∈ vs, variantB v = true ∧ low v = v) : regOf vs = ([], vs) := by
  cases vs with
  | nil => rfl
  | cons v vs => simp [regOf, variant_region (h v (by simp)).1]
theorem tagOf_pieces {t : TagT} (g : t.Good) : tagOf t.pieces = some t := by
  have hv := varsOk_of g
  have hlow := low_all g.hv
  have hL := lang_ne g.hL
  obtain ⟨L, S, R, vs⟩ := t
  have gL := g.hL; have gl := g.lL; have gv := g.hv
  simp only at hv hlow hL gL gl gv
  rcases g.hS with hS | ⟨hS, hSt⟩ <;> rcases g.hR with hR | ⟨hR, hRt⟩ <;> simp only at hS hR
  · subst hS hR
    have e : TagT.pieces ⟨L, [], [], vs⟩ = L :: vs := by simp [TagT.pieces, hL]
    rw [e]; simp [tagOf, restOf, gL, gl, scr_vars gv, reg_vars gv, hv, hlow]
  · subst hS
    simp only at hRt
    have e : TagT.pieces ⟨L, [], R, vs⟩ = L :: R :: vs := by simp [TagT.pieces, hL, region_ne hR]
    rw [e]
    have e1 : scrOf (R :: vs) = ([], R :: vs) := by simp [scrOf, region_script hR]
    have e2 : regOf (R :: vs) = (R, vs) := by simp [regOf, hR, hRt]
    simp [tagOf, restOf, gL, gl, e1, e2, hv, hlow]
  · subst hR
    simp only at hSt
    have e : TagT.pieces ⟨L, S, [], vs⟩ = L :: S :: vs := by simp [TagT.pieces, hL, script_ne hS]
    rw [e]
    have e1 : scrOf (S :: vs) = (S, vs) := by simp [scrOf, hS, hSt]
    simp [tagOf, restOf, gL, gl, e1, reg_vars gv, hv, hlow]
  · simp only at hSt hRt
    have e : TagT.pieces ⟨L, S, R, vs⟩ = L :: S :: R :: vs := by simp [TagT.pieces, hL, script_ne hS, region_ne hR]
    rw [e]
    have e1 : scrOf (S :: R :: vs) = (S, R :: vs) := by simp [scrOf, hS, hSt]
    have e2 : regOf (R :: vs) = (R, vs) := by simp [regOf, hR, hRt]
    simp [tagOf, restOf, gL, gl, e1, e2, hv, hlow]
theorem pieces_free {t : TagT} (g : t.Good) : ∀ p ∈ t.pieces, (45 : UInt8) ∉ p := by
  intro p hp
  unfold TagT.pieces at hp
  rcases List.mem_append.1 hp with hp | hp
  · have := (List.mem_filter.1 hp)
    have hne : p ≠ [] := by simpa using this.2
    simp only [List.mem_cons, List.not_mem_nil, or_false] at this
    rcases this.1 with rfl | rfl | rfl
    · exact lang_free g.hL
    · rcases g.hS with h | h
      · exact absurd h hne
      · exact script_free h.1
    · rcases g.hR with h | h
      · exact absurd h hne
      · exact region_free h.1
  · exact variant_free (g.hv p hp).1
theorem pieces_cons {t : TagT} (g : t.Good) : ∃ r, t.pieces = t.L :: r := by
  unfold TagT.pieces
  rw [List.filter_cons]
  simp [lang_ne g.hL]
theorem pieces_ne {t : TagT} (g : t.Good) : t.pieces ≠ [] := by obtain ⟨r, h⟩ := pieces_cons g; rw [h]; simp
def TagT.text (t : TagT) : List UInt8 := Lib.join t.pieces [45]
theorem split_text {t : TagT} (g : t.Good) : splitH t.text = t.pieces := splitH_join _ (pieces_ne g) (pieces_free g)
theorem tagOf_text {t : TagT} (g : t.Good) : tagOf (splitH t.text) = some t := by rw [split_text g, tagOf_pieces g]
theorem scrOf_low (ps : List (List UInt8)) : scrOf (ps.map low) = ((scrOf ps).1, (scrOf ps).2.map low) := by
  cases ps with
  | nil => rfl
  | cons p ps => simp only [List.map_cons, scrOf, script_low, title_low]; split <;> simp
theorem regOf_low (ps : List (List UInt8)) : regOf (ps.map low) = ((regOf ps).1, (regOf ps).2.map low) := by
  cases ps with
  | nil => rfl
  | cons p ps => simp only [List.map_cons, regOf, region_low, upp_of_low]; split <;> simp
theorem varsOk_low (ps : List (List UInt8)) : varsOk (ps.map low) = varsOk ps := by
  unfold varsOk
  rw [List.map_map, List.all_map]
  have e1 : (variantB ∘ low) = variantB := by funext l; exact variant_low l
  have e2 : (low ∘ low) = low := by funext l; exact low_idem l
  rw [e1, e2]
theorem tagOf_low (ps : List (List UInt8)) : tagOf (ps.map low) = tagOf ps := by
  cases ps with
  | nil => rfl
  | cons p ps =>
    have e2 : (low ∘ low) = low := by funext l; exact low_idem l
    have e3 : restOf (ps.map low) = (restOf ps).map low := by simp only [restOf, scrOf_low, regOf_low]
    rw [List.map_cons, tagOf_cons, tagOf_cons, lang_low, e3, varsOk_low, low_idem, List.map_map, e2]
    simp only [scrOf_low, regOf_low]
theorem low_upps (ps : List (List UInt8)) : (ps.map upp).map low = ps.map low := by
  rw [List.map_map]; congr 1; funext l; exact low_of_upp l
theorem tagOf_upp (ps : List (List UInt8)) : tagOf (ps.map upp) = tagOf ps := by
  rw [← tagOf_low (ps.map upp), low_upps, tagOf_low]
def lawR : Nat → List (List UInt8) → List (List UInt8) → Option (List (List UInt8))
  | _, _, [] => some []
  | st, seen, p :: ps =>
    if decide (st < 1) && scriptB p then (lawR 1 seen ps).map (title p :: ·)
    else if decide (st < 2) && regionB p then (lawR 2 seen ps).map (upp p :: ·)
    else if variantB p then (if low p ∈ seen then none else (lawR 3 (low p :: seen) ps).map (low p :: ·))
    else none
def lawP : List (List UInt8) → Option (List (List UInt8))
  | [] => none
  | p :: ps => if langB p then (lawR 0 [] ps).map (low p :: ·) else none
theorem lawR_vars : ∀ (ps : List (List UInt8)) (st : Nat) (seen : List (List UInt8)), 2 ≤ st →
    lawR st seen ps = if ps.all variantB && decide ((ps.map low).Nodup) && (ps.map low).all (fun x => decide (x ∉ seen)) then some (ps.map low) else none
  | [], st, seen, _ => by simp [lawR]
  | p :: ps, st, seen, h => by
    rw [lawR]
    have h1 : decide (st < 1) = false := by simp; omega
    have h2 : decide (st < 2) = false := by simp; omega
    rw [h1, h2]
    simp only [Bool.false_and, Bool.false_eq_true, if_false]
    cases hv : variantB p
    · simp [hv]
    · by_cases hs : low p ∈ seen
      · simp [hs]
      · simp only [reduceIte, hs]
        rw [lawR_vars ps 3 (low p :: seen) (by omega)]
        have key : ((p :: ps).all variantB && decide (((p :: ps).map low).Nodup) && ((p :: ps).map low).all (fun x => decide (x ∉ seen)))
            = (ps.all variantB && decide ((ps.map low).Nodup) && (ps.map low).all (fun x => decide (x ∉ low p :: seen))) := by
          rw [Bool.eq_iff_iff]
          simp only [Bool.and_eq_true, decide_eq_true_eq, List.all_eq_true, List.map_cons, List.nodup_cons, List.mem_cons, List.all_cons, hv, not_or, List.mem_map, true_and]
          constructor
          · rintro ⟨⟨h1, h2, h3⟩, h4, h5⟩
            refine ⟨⟨h1, h3⟩, fun x hx => ⟨fun e => h2 ?_, h5 x hx⟩⟩
            rw [← e]; exact hx
          · rintro ⟨⟨h1, h3⟩, h5⟩
            refine ⟨⟨h1, fun hm => ?_, h3⟩, hs, fun x hx => (h5 x hx).2⟩
            obtain ⟨u, hu, e⟩ := hm
            exact (h5 (low p) ⟨u, hu, e⟩).1 rfl
        rw [key]
        split <;> simp
theorem lawR_two (ps : List (List UInt8)) : lawR 2 [] ps = if varsOk ps then some (ps.map low) else none := by
  rw [lawR_vars ps 2 [] (by omega)]
  have : (ps.map low).all (fun x => decide (x ∉ ([] : List (List UInt8)))) = true := by simp
  rw [this]; simp [varsOk]
def ne1 (l : List UInt8) : List (List UInt8) := [l].filter (fun s => decide (s ≠ []))
theorem lawR_one (ps : List (List UInt8)) : lawR 1 [] ps = (lawR 2 [] (regOf ps).2).map (ne1 (regOf ps).1 ++ ·) := by
  rcases regOf_cases ps with ⟨p, qs, rfl, h1, h2⟩ | ⟨h1, h2⟩
  · rw [h2]
    have e : ne1 (upp p) = [upp p] := by
      have : upp p ≠ [] := region_ne (by rw [region_upp]; exact h1)
      simp [ne1, this]
    rw [e, lawR]
    simp [h1]
  · rw [h2]
    have e : ne1 [] = [] := rfl
    rw [e]
    cases ps with
    | nil => simp [lawR]
    | cons p qs => simp [lawR, h1 p qs rfl]
theorem lawR_zero (ps : List (List UInt8)) : lawR 0 [] ps = (lawR 1 [] (scrOf ps).2).map (ne1 (scrOf ps).1 ++ ·) := by
  rcases scrOf_cases ps with ⟨p, qs, rfl, h1, h2⟩ | ⟨h1, h2⟩
  · rw [h2]
    have e : ne1 (title p) = [title p] := by
      have : title p ≠ [] := script_ne (by rw [script_title]; exact h1)
      simp [ne1, this]
    rw [e, lawR]
    simp [h1]
  · rw [h2]
    have e : ne1 [] = [] := rfl
    rw [e]
    cases ps with
    | nil => simp [lawR]
    | cons p qs => simp [lawR, h1 p qs rfl]
theorem lawP_tag (ps : List (List UInt8)) : lawP ps = (tagOf ps).map TagT.pieces := by
  cases ps with
  | nil => rfl
  | cons p ps =>
    rw [tagOf_cons, show lawP (p :: ps) = if langB p then (lawR 0 [] ps).map (low p :: ·) else none from rfl]
    cases hl : langB p
    · rfl
    · simp only [if_true]
      rw [lawR_zero, lawR_one, lawR_two]
      have e : low p ≠ [] := lang_ne (by rw [lang_low]; exact hl)
      show _ = Option.map TagT.pieces (if varsOk (regOf (scrOf ps).2).2 = true then some ⟨low p, (scrOf ps).1, (regOf (scrOf ps).2).1, ((regOf (scrOf ps).2).2).map low⟩ else none)
      cases hv : varsOk (regOf (scrOf ps).2).2
      · rfl
      · simp only [if_true, Option.map_some, Option.some.injEq]
        generalize (scrOf ps).1 = S
        generalize (regOf (scrOf ps).2).1 = R
        by_cases hS : S = [] <;> by_cases hR : R = [] <;> simp [TagT.pieces, ne1, e, hS, hR]
end Go.Proofs.YthlccfjhgejlmaaGreatDoor

namespace Go.Proofs.YthlccfjhgejlmaaGreatDoor
open Go.RowKit
set_option linter.unusedVariables false
set_option linter.unusedSimpArgs false
def cntL (l : List UInt8) : Int := if l.all letDigB then ((l.filter letB).length : Int) else -1
def cntD (l : List UInt8) : Int := if l.all letDigB then ((l.filter digTB).length : Int) else -1
theorem filter_take {s : ByteArray} (p : UInt8 → Bool) (k : Nat) (h : k < s.size) : ((s.data.toList.take (k + 1)).filter p).length = ((s.data.toList.take k).filter p).length + (if p s[k] then 1 else 0) := by
  rw [take_succ s k h, List.filter_append, List.length_append]
  cases e : p s[k] <;> simp [e]
theorem letB_int (c : UInt8) : letB c = (decide (97 ≤ (c.toNat : Int)) && decide ((c.toNat : Int) ≤ 122) || decide (65 ≤ (c.toNat : Int)) && decide ((c.toNat : Int) ≤ 90)) := by
  unfold letB; rw [Bool.eq_iff_iff]; simp only [Bool.or_eq_true, Bool.and_eq_true, decide_eq_true_eq]; omega
theorem digTB_int (c : UInt8) : digTB c = (decide (48 ≤ (c.toNat : Int)) && decide ((c.toNat : Int) ≤ 57)) := by
  unfold digTB; rw [Bool.eq_iff_iff]; simp only [Bool.and_eq_true, decide_eq_true_eq]; omega
set_option maxHeartbeats 4000000 in
theorem count_any (s : ByteArray) (w : World) (hs : s.size ≤ maxLen) :
    Calls Tryz.prog 46 #[.string s] w fun e w' => e = .returned (.tuple #[.int .i64 (cntL s.data.toList), .int .i64 (cntD s.data.toList)]) ∧ w' = w := by
  unfold maxLen at hs
  go_enter Tryz.func46, Tryz.ntmps46
  go_wp2
  go_loop [4, 5, 6] (fun l d i => ∃ k : Nat, k ≤ s.size ∧ i = .int .i64 k ∧ (s.data.toList.take k).all letDigB = true ∧ l = .int .i64 ((s.data.toList.take k).filter letB).length ∧ d = .int .i64 ((s.data.toList.take k).filter digTB).length) (fun _ _ i => s.size - (intOf i).toNat)
  case atStart => exact ⟨0, Nat.zero_le _, rfl, rfl, rfl, rfl⟩
  case round =>
    obtain ⟨k, hk, rfl, hall, rfl, rfl⟩ := hrel
    have l1 : ((s.data.toList.take k).filter letB).length ≤ k := Nat.le_trans (List.length_filter_le _ _) (List.length_take_le _ _)
    have l2 : ((s.data.toList.take k).filter digTB).length ≤ k := Nat.le_trans (List.length_filter_le _ _) (List.length_take_le _ _)
    by_cases hlt : k < s.size
    · have f1 := filter_take letB k hlt
      have f2 := filter_take digTB k hlt
      have f3 := allB_take letDigB k hlt
      have f4 := fun h => allB_get letDigB k hlt h
      rw [hall, Bool.true_and] at f3
      obtain ⟨c, hc⟩ : ∃ c, s[k] = c := ⟨_, rfl⟩
      rw [hc] at f1 f2 f3 f4
      have e1 := letB_int c
      have e2 := digTB_int c
      by_cases h1 : (97 : Int) ≤ (c.toNat : Int) <;> by_cases h2 : (c.toNat : Int) ≤ 122 <;> by_cases h3 : (65 : Int) ≤ (c.toNat : Int) <;> by_cases h4 : (c.toNat : Int) ≤ 90 <;> by_cases h5 : (48 : Int) ≤ (c.toNat : Int) <;> by_cases h6 : (c.toNat : Int) ≤ 57
      all_goals first
        | (exfalso; omega)
        | (simp only [h1, h2, h3, h4, h5, h6, decide_true, decide_false, Bool.and_true, Bool.and_false, Bool.or_true, Bool.or_false, Bool.true_and, Bool.false_and] at e1 e2
           have e3 : letDigB c = (letB c || digTB c) := rfl
           rw [e1, e2] at e3
           simp only [Bool.or_false, Bool.or_true, Bool.false_or, Bool.true_or] at e3
           rw [e3] at f3 f4
           rw [e1] at f1
           rw [e2] at f2
           simp only [if_true, if_false, Bool.false_eq_true] at f1 f2
           have F1 := Lib.hid f1
           have F2 := Lib.hid f2
           have F3 := Lib.hid f3
           have F4 := Lib.hid f4
           have HA := Lib.hid hall
           clear f1 f2 f3 f4 e1 e2 e3 hall
           go_wp2
           first
             | (go_round
                case rel => exact ⟨k + 1, by omega, by go_num, F3.out, by rw [F1.out]; go_num, by rw [F2.out]; go_num⟩
                case measure => simp [intOf]; omega)
             | (go_ret2
                exact ⟨by rw [cntL, cntD, F4.out trivial]; rfl, rfl⟩))
    · obtain rfl : k = s.size := by omega
      have hall' := allB_end letDigB hall
      have ht : s.data.toList.take s.size = s.data.toList := List.take_of_length_le (by simp)
      rw [ht] at l1 l2 ⊢
      have HA := Lib.hid hall'
      clear hall hall' ht
      go_wp2
      go_ret2
      exact ⟨by rw [cntL, cntD, HA.out]; rfl, rfl⟩
end Go.Proofs.YthlccfjhgejlmaaGreatDoor

namespace Go.Proofs.YthlccfjhgejlmaaGreatDoor
open Go
set_option linter.unusedVariables false
theorem cnt_sum : ∀ l : List UInt8, l.all letDigB = true → (l.filter letB).length + (l.filter digTB).length = l.length
  | [], _ => rfl
  | c :: r, h => by
    rw [List.all_cons, Bool.and_eq_true] at h
    have ih := cnt_sum r h.2
    cases hd : digTB c
    · have hl : letB c = true := by have := h.1; simpa [letDigB, hd] using this
      rw [List.filter_cons, List.filter_cons, hl, hd]; simp; omega
    · rw [List.filter_cons, List.filter_cons, dig_let c hd, hd]; simp; omega
theorem all_let_iff : ∀ l : List UInt8, l.all letDigB = true → (l.all letB = true ↔ (l.filter digTB).length = 0)
  | [], _ => by simp
  | c :: r, h => by
    rw [List.all_cons, Bool.and_eq_true] at h
    have ih := all_let_iff r h.2
    cases hd : digTB c
    · have hl : letB c = true := by have := h.1; simpa [letDigB, hd] using this
      rw [List.filter_cons, List.all_cons, hl, hd]; simpa using ih
    · rw [List.filter_cons, List.all_cons, dig_let c hd, hd]; simp
theorem all_dig_iff : ∀ l : List UInt8, l.all letDigB = true → (l.all digTB = true ↔ (l.filter letB).length = 0)
  | [], _ => by simp
  | c :: r, h => by
    rw [List.all_cons, Bool.and_eq_true] at h
    have ih := all_dig_iff r h.2
    cases hd : digTB c
    · have hl : letB c = true := by have := h.1; simpa [letDigB, hd] using this
      rw [List.filter_cons, List.all_cons, hl, hd]; simp
    · rw [List.filter_cons, List.all_cons, dig_let c hd, hd]; simpa using ih
theorem cnt_facts (p : List UInt8) : (p.all letDigB = true ∧ ∃ nl nd : Nat, cntL p = nl ∧ cntD p = nd ∧ nl + nd = p.length ∧ (p.all letB = true ↔ nd = 0) ∧ (p.all digTB = true ↔ nl = 0)) ∨
    (p.all letDigB = false ∧ cntL p = -1 ∧ cntD p = -1 ∧ p.all letB = false ∧ p.all digTB = false) := by
  cases h : p.all letDigB
  · refine .inr ⟨rfl, by simp only [cntL, h]; rfl, by simp only [cntD, h]; rfl, ?_, ?_⟩
    · cases e : p.all letB
      · rfl
      · rw [List.all_eq_true.2 (fun c hc => let_ld c (List.all_eq_true.1 e c hc))] at h; cases h
    · cases e : p.all digTB
      · rfl
      · rw [List.all_eq_true.2 (fun c hc => dig_ld c (List.all_eq_true.1 e c hc))] at h; cases h
  · exact .inl ⟨rfl, _, _, by simp only [cntL, h]; rfl, by simp only [cntD, h]; rfl, cnt_sum p h, all_let_iff p h, all_dig_iff p h⟩
theorem lang_cnt (p : List UInt8) : langB p = true ↔ cntD p = 0 ∧ 2 ≤ cntL p ∧ cntL p ≤ 3 := by
  unfold langB
  simp only [Bool.and_eq_true, Bool.or_eq_true, beq_iff_eq]
  rcases cnt_facts p with ⟨_, nl, nd, h1, h2, h3, h4, h5⟩ | ⟨_, h1, h2, h3, h4⟩
  · rw [h4, h1, h2]; omega
  · rw [h3, h1, h2]; simp
theorem script_cnt (p : List UInt8) : scriptB p = true ↔ cntL p = 4 ∧ cntD p = 0 := by
  unfold scriptB
  simp only [Bool.and_eq_true, beq_iff_eq]
  rcases cnt_facts p with ⟨_, nl, nd, h1, h2, h3, h4, h5⟩ | ⟨_, h1, h2, h3, h4⟩
  · rw [h4, h1, h2]; omega
  · rw [h3, h1, h2]; simp
theorem region_cnt (p : List UInt8) : regionB p = true ↔ (cntL p = 2 ∧ cntD p = 0) ∨ (cntL p = 0 ∧ cntD p = 3) := by
  unfold regionB
  simp only [Bool.and_eq_true, Bool.or_eq_true, beq_iff_eq]
  rcases cnt_facts p with ⟨_, nl, nd, h1, h2, h3, h4, h5⟩ | ⟨_, h1, h2, h3, h4⟩
  · rw [h4, h5, h1, h2]; omega
  · rw [h3, h4, h1, h2]; simp
theorem ld_le (c : UInt8) (h : letDigB c = true) : digTB c = true ↔ c.toNat ≤ 57 := by
  have := all256 (fun c => !letDigB c || (digTB c == decide (c.toNat ≤ 57))) (by decide +kernel) c
  simp only [h, Bool.not_true, Bool.false_or, beq_iff_eq] at this
  rw [this]; simp
theorem variant_cnt (p : List UInt8) : variantB p = true ↔ (5 ≤ cntL p + cntD p ∧ cntL p + cntD p ≤ 8) ∨ (cntL p + cntD p = 4 ∧ 0 < cntD p ∧ (p.headD 0).toNat ≤ 57) := by
  unfold variantB
  simp only [Bool.and_eq_true, Bool.not_eq_true', Bool.and_eq_false_iff, decide_eq_true_eq, beq_eq_false_iff_ne, Bool.not_eq_false']
  rcases cnt_facts p with ⟨ha, nl, nd, h1, h2, h3, h4, h5⟩ | ⟨ha, h1, h2, h3, h4⟩
  · rw [ha, h1, h2]
    cases p with
    | nil => simp at h3 ⊢; omega
    | cons c r =>
      rw [List.all_cons, Bool.and_eq_true] at ha
      have hl := ld_le c ha.1
      simp only [List.headD_cons]
      have hd0 : digTB c = true → 0 < nd := by
        intro hd
        rcases Nat.eq_zero_or_pos nd with e | e
        · have := h4.2 e
          rw [List.all_cons, dig_let c hd] at this
          simp at this
        · exact e
      constructor
      · rintro ⟨h6, ⟨h7, h8⟩, _⟩
        rcases h6 with h6 | h6
        · left; omega
        · by_cases h9 : (c :: r).length = 4
          · right; exact ⟨by omega, by have := hd0 h6; omega, hl.1 h6⟩
          · left; omega
      · rintro (⟨h6, h7⟩ | ⟨h6, h7, h8⟩)
        · exact ⟨.inl (by omega), ⟨by omega, by omega⟩, trivial⟩
        · exact ⟨.inr (hl.2 h8), ⟨by omega, by omega⟩, trivial⟩
  · rw [ha, h1, h2]; simp
def LInv (P : List (List UInt8)) (k st : Nat) (seen : List (List UInt8)) (o : List UInt8) : Prop :=
  (k = 0 ∧ st = 0 ∧ seen = [] ∧ o = []) ∨ (0 < k ∧ ∃ D, D ≠ [] ∧ o = Lib.join D [45] ∧ lawP P = (lawR st seen (P.drop k)).map (D ++ ·))
theorem LInv.first {P : List (List UInt8)} {st : Nat} {seen : List (List UInt8)} {o p : List UInt8} (h : LInv P 0 st seen o) (hp : P[0]? = some p) (hl : langB p = true) : LInv P 1 st seen (low p) := by
  rcases h with ⟨_, rfl, rfl, rfl⟩ | ⟨h, _⟩
  · refine .inr ⟨by omega, [low p], by simp, (join_one _).symm, ?_⟩
    cases P with
    | nil => simp at hp
    | cons q ps =>
      simp only [List.getElem?_cons_zero, Option.some.injEq] at hp
      subst hp
      simp [lawP, hl]
  · omega
theorem LInv.not_lang {P : List (List UInt8)} {p : List UInt8} (hp : P[0]? = some p) (hl : langB p = false) : lawP P = none := by
  cases P with
  | nil => simp at hp
  | cons q ps =>
    simp only [List.getElem?_cons_zero, Option.some.injEq] at hp
    subst hp
    simp [lawP, hl]
theorem LInv.step {P : List (List UInt8)} {k st st' : Nat} {seen seen' : List (List UInt8)} {o p p' : List UInt8} (h : LInv P k st seen o) (hk : 0 < k) (hp : P[k]? = some p)
    (hs : ∀ ps, lawR st seen (p :: ps) = (lawR st' seen' ps).map (p' :: ·)) : LInv P (k + 1) st' seen' (o ++ [45] ++ p') := by
  rcases h with ⟨h, _⟩ | ⟨_, D, hD, rfl, h⟩
  · omega
  · refine .inr ⟨by omega, D ++ [p'], by simp, by rw [join_snoc D p' hD]; simp, ?_⟩
    obtain ⟨hlt, hq⟩ := List.getElem?_eq_some_iff.1 hp
    rw [h, List.drop_eq_getElem_cons hlt, hq, hs]
    cases lawR st' seen' (P.drop (k + 1)) <;> simp
theorem LInv.stop {P : List (List UInt8)} {k st : Nat} {seen : List (List UInt8)} {o p : List UInt8} (h : LInv P k st seen o) (hk : 0 < k) (hp : P[k]? = some p)
    (hs : ∀ ps, lawR st seen (p :: ps) = none) : lawP P = none := by
  rcases h with ⟨h, _⟩ | ⟨_, D, hD, rfl, h⟩
  · omega
  · obtain ⟨hlt, hq⟩ := List.getElem?_eq_some_iff.1 hp
    rw [h, List.drop_eq_getElem_cons hlt, hq, hs]; rfl
theorem LInv.done {P : List (List UInt8)} {st : Nat} {seen : List (List UInt8)} {o : List UInt8} (h : LInv P P.length st seen o) (hP : P ≠ []) : ∃ D, lawP P = some D ∧ o = Lib.join D [45] := by
  rcases h with ⟨h, _⟩ | ⟨_, D, hD, rfl, h⟩
  · exact absurd (List.eq_nil_of_length_eq_zero h) hP
  · refine ⟨D, ?_, rfl⟩
    rw [h, List.drop_length]; simp [lawR]
theorem lawR_script {st : Nat} {seen : List (List UInt8)} {p : List UInt8} (h1 : st < 1) (h2 : scriptB p = true) (ps : List (List UInt8)) : lawR st seen (p :: ps) = (lawR 1 seen ps).map (title p :: ·) := by
  rw [lawR]; simp [h2]; omega
theorem lawR_region {st : Nat} {seen : List (List UInt8)} {p : List UInt8} (h0 : ¬ (st < 1 ∧ scriptB p = true)) (h1 : st < 2) (h2 : regionB p = true) (ps : List (List UInt8)) : lawR st seen (p :: ps) = (lawR 2 seen ps).map (upp p :: ·) := by
  rw [lawR, region_script h2]; simp [h2, h1]
theorem lawR_variant {st : Nat} {seen : List (List UInt8)} {p : List UInt8} (h2 : variantB p = true) (hs : low p ∉ seen) (ps : List (List UInt8)) : lawR st seen (p :: ps) = (lawR 3 (low p :: seen) ps).map (low p :: ·) := by
  rw [lawR, variant_script h2, variant_region h2]; simp [h2, hs]
theorem lawR_twice {st : Nat} {seen : List (List UInt8)} {p : List UInt8} (h2 : variantB p = true) (hs : low p ∈ seen) (ps : List (List UInt8)) : lawR st seen (p :: ps) = none := by
  rw [lawR, variant_script h2, variant_region h2]; simp [h2, hs]
theorem lawR_none {st : Nat} {seen : List (List UInt8)} {p : List UInt8} (h0 : ¬ (st < 1 ∧ scriptB p = true)) (h1 : ¬ (st < 2 ∧ regionB p = true)) (h2 : variantB p = false) (ps : List (List UInt8)) : lawR st seen (p :: ps) = none := by
  rw [lawR]
  have e0 : (decide (st < 1) && scriptB p) = false := by
    cases e : (decide (st < 1) && scriptB p)
    · rfl
    · simp only [Bool.and_eq_true, decide_eq_true_eq] at e; exact absurd e h0
  have e1 : (decide (st < 2) && regionB p) = false := by
    cases e : (decide (st < 2) && regionB p)
    · rfl
    · simp only [Bool.and_eq_true, decide_eq_true_eq] at e; exact absurd e h1
  rw [e0, e1, h2]; simp
end Go.Proofs.YthlccfjhgejlmaaGreatDoor
