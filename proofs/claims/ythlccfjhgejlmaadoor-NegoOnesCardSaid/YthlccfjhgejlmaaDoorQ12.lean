/-
  Several texts put together (part 12): what the law and the program call, walked; their contracts.
-/
import Derived.Test.YthlccfjhgejlmaaDoorQ10
import Derived.Test.YthlccfjhgejlmaaDoorQ11
import Derived.Lib.Case
namespace Go.Proofs.YthlccfjhgejlmaaDoor
open Go
theorem all256 (p : UInt8 → Bool) (h : ∀ i : Fin 256, p (UInt8.ofNat i.val) = true) (c : UInt8) : p c = true := by
  have := h ⟨c.toNat, c.toNat_lt⟩
  simpa using this
theorem low_let (c : UInt8) : letB (Lib.lowerB c) = letB c := by
  have := all256 (fun c => letB (Lib.lowerB c) == letB c) (by decide +kernel) c; simpa using this
theorem upp_let (c : UInt8) : letB (Lib.upperB c) = letB c := by
  have := all256 (fun c => letB (Lib.upperB c) == letB c) (by decide +kernel) c; simpa using this
theorem low_dig (c : UInt8) : digTB (Lib.lowerB c) = digTB c := by
  have := all256 (fun c => digTB (Lib.lowerB c) == digTB c) (by decide +kernel) c; simpa using this
theorem upp_dig (c : UInt8) : digTB (Lib.upperB c) = digTB c := by
  have := all256 (fun c => digTB (Lib.upperB c) == digTB c) (by decide +kernel) c; simpa using this
theorem low_ld (c : UInt8) : letDigB (Lib.lowerB c) = letDigB c := by unfold letDigB; rw [low_let, low_dig]
theorem upp_ld (c : UInt8) : letDigB (Lib.upperB c) = letDigB c := by unfold letDigB; rw [upp_let, upp_dig]
theorem low_low (c : UInt8) : Lib.lowerB (Lib.lowerB c) = Lib.lowerB c := by
  have := all256 (fun c => Lib.lowerB (Lib.lowerB c) == Lib.lowerB c) (by decide +kernel) c; simpa using this
theorem upp_upp (c : UInt8) : Lib.upperB (Lib.upperB c) = Lib.upperB c := by
  have := all256 (fun c => Lib.upperB (Lib.upperB c) == Lib.upperB c) (by decide +kernel) c; simpa using this
theorem low_upp (c : UInt8) : Lib.lowerB (Lib.upperB c) = Lib.lowerB c := by
  have := all256 (fun c => Lib.lowerB (Lib.upperB c) == Lib.lowerB c) (by decide +kernel) c; simpa using this
theorem upp_low (c : UInt8) : Lib.upperB (Lib.lowerB c) = Lib.upperB c := by
  have := all256 (fun c => Lib.upperB (Lib.lowerB c) == Lib.upperB c) (by decide +kernel) c; simpa using this
theorem low_hy (c : UInt8) : Lib.lowerB c = 45 ↔ c = 45 := by
  have := all256 (fun c => (Lib.lowerB c == 45) == (c == 45)) (by decide +kernel) c
  simp only [beq_iff_eq] at this
  rw [Bool.eq_iff_iff] at this; simpa using this
theorem upp_hy (c : UInt8) : Lib.upperB c = 45 ↔ c = 45 := by
  have := all256 (fun c => (Lib.upperB c == 45) == (c == 45)) (by decide +kernel) c
  simp only [beq_iff_eq] at this
  rw [Bool.eq_iff_iff] at this; simpa using this
theorem ld_hy : letDigB 45 = false := by decide
theorem let_hy : letB 45 = false := by decide
theorem dig_hy : digTB 45 = false := by decide
theorem ld_128 (c : UInt8) (h : letDigB c = true) : c.toNat < 128 := by
  have := all256 (fun c => !letDigB c || decide (c.toNat < 128)) (by decide +kernel) c; simpa [h] using this
theorem let_ld (c : UInt8) (h : letB c = true) : letDigB c = true := by simp [letDigB, h]
theorem dig_ld (c : UInt8) (h : digTB c = true) : letDigB c = true := by simp [letDigB, h]
theorem dig_let (c : UInt8) (h : digTB c = true) : letB c = false := by
  have := all256 (fun c => !digTB c || !letB c) (by decide +kernel) c; simpa [h] using this
def low (l : List UInt8) : List UInt8 := Lib.toLowerA l
def upp (l : List UInt8) : List UInt8 := Lib.toUpperA l
def title (l : List UInt8) : List UInt8 := upp (l.take 1) ++ low (l.drop 1)
theorem low_length (l : List UInt8) : (low l).length = l.length := by simp [low, Lib.toLowerA]
theorem upp_length (l : List UInt8) : (upp l).length = l.length := by simp [upp, Lib.toUpperA]
theorem title_length (l : List UInt8) : (title l).length = l.length := by
  rw [title, List.length_append, upp_length, low_length]; simp; omega
theorem all_map (p : UInt8 → Bool) (f : UInt8 → UInt8) (h : ∀ c, p (f c) = p c) (l : List UInt8) : (l.map f).all p = l.all p := by
  rw [List.all_map]; congr 1; funext c; exact h c
theorem all_low (p : UInt8 → Bool) (h : ∀ c, p (Lib.lowerB c) = p c) (l : List UInt8) : (low l).all p = l.all p := all_map p _ h l
theorem all_upp (p : UInt8 → Bool) (h : ∀ c, p (Lib.upperB c) = p c) (l : List UInt8) : (upp l).all p = l.all p := all_map p _ h l
theorem all_title (p : UInt8 → Bool) (h : ∀ c, p (Lib.lowerB c) = p c) (h2 : ∀ c, p (Lib.upperB c) = p c) (l : List UInt8) : (title l).all p = l.all p := by
  rw [title, List.all_append, all_low p h, all_upp p h2, ← List.all_append, List.take_append_drop]
theorem low_idem (l : List UInt8) : low (low l) = low l := by simp [low, Lib.toLowerA, low_low]
theorem upp_idem (l : List UInt8) : upp (upp l) = upp l := by simp [upp, Lib.toUpperA, upp_upp]
theorem low_of_upp (l : List UInt8) : low (upp l) = low l := by simp [low, upp, Lib.toLowerA, Lib.toUpperA, low_upp]
theorem upp_of_low (l : List UInt8) : upp (low l) = upp l := by simp [low, upp, Lib.toLowerA, Lib.toUpperA, upp_low]
theorem low_take (l : List UInt8) (n : Nat) : (low l).take n = low (l.take n) := by simp [low, Lib.toLowerA, List.map_take]
theorem low_drop (l : List UInt8) (n : Nat) : (low l).drop n = low (l.drop n) := by simp [low, Lib.toLowerA, List.map_drop]
theorem upp_take (l : List UInt8) (n : Nat) : (upp l).take n = upp (l.take n) := by simp [upp, Lib.toUpperA, List.map_take]
theorem upp_drop (l : List UInt8) (n : Nat) : (upp l).drop n = upp (l.drop n) := by simp [upp, Lib.toUpperA, List.map_drop]
theorem title_low (l : List UInt8) : title (low l) = title l := by rw [title, title, low_take, low_drop, low_idem, upp_of_low]
theorem title_upp (l : List UInt8) : title (upp l) = title l := by rw [title, title, upp_take, upp_drop, upp_idem, low_of_upp]
theorem title_idem (l : List UInt8) : title (title l) = title l := by
  cases l with
  | nil => rfl
  | cons c r =>
    have : title (c :: r) = Lib.upperB c :: low r := rfl
    rw [this]
    show Lib.upperB (Lib.upperB c) :: low (low r) = _
    rw [upp_upp, low_idem]
theorem lang_low (l : List UInt8) : langB (low l) = langB l := by unfold langB; rw [low_length, all_low _ low_let]
theorem lang_upp (l : List UInt8) : langB (upp l) = langB l := by unfold langB; rw [upp_length, all_upp _ upp_let]
theorem script_low (l : List UInt8) : scriptB (low l) = scriptB l := by unfold scriptB; rw [low_length, all_low _ low_let]
theorem script_upp (l : List UInt8) : scriptB (upp l) = scriptB l := by unfold scriptB; rw [upp_length, all_upp _ upp_let]
theorem script_title (l : List UInt8) : scriptB (title l) = scriptB l := by unfold scriptB; rw [title_length, all_title _ low_let upp_let]
theorem region_low (l : List UInt8) : regionB (low l) = regionB l := by unfold regionB; rw [low_length, all_low _ low_let, all_low _ low_dig]
theorem region_upp (l : List UInt8) : regionB (upp l) = regionB l := by unfold regionB; rw [upp_length, all_upp _ upp_let, all_upp _ upp_dig]
theorem head_low (l : List UInt8) : digTB ((low l).headD 0) = digTB (l.headD 0) := by
  cases l with
  | nil => rfl
  | cons c r => exact low_dig c
theorem head_upp (l : List UInt8) : digTB ((upp l).headD 0) = digTB (l.headD 0) := by
  cases l with
  | nil => rfl
  | cons c r => exact upp_dig c
theorem variant_low (l : List UInt8) : variantB (low l) = variantB l := by unfold variantB; rw [low_length, all_low _ low_ld, head_low]
theorem variant_upp (l : List UInt8) : variantB (upp l) = variantB l := by unfold variantB; rw [upp_length, all_upp _ upp_ld, head_upp]
theorem region_script {l : List UInt8} (h : regionB l = true) : scriptB l = false := by
  unfold regionB at h; unfold scriptB
  have : l.length ≠ 4 := by
    intro e; simp [e] at h
  simp [this]
theorem variant_region {l : List UInt8} (h : variantB l = true) : regionB l = false := by
  unfold variantB at h; unfold regionB
  simp only [Bool.and_eq_true, decide_eq_true_eq] at h
  have h2 : l.length ≠ 2 := by omega
  have h3 : l.length ≠ 3 := by omega
  simp [h2, h3]
theorem variant_script {l : List UInt8} (h : variantB l = true) : scriptB l = false := by
  unfold variantB at h; unfold scriptB
  cases l with
  | nil => rfl
  | cons c r =>
    by_cases hl : (c :: r).length = 4
    · simp only [hl, List.headD_cons, Bool.and_eq_true, Bool.not_eq_true', decide_eq_true_eq, beq_self_eq_true, Bool.true_and, Bool.not_eq_false'] at h
      rw [List.all_cons, dig_let c h.1]; simp
    · simp [show ¬ r.length = 3 from fun e => hl (by simp [e])]
theorem free_of_all {p : UInt8 → Bool} (hp : p 45 = false) {l : List UInt8} (h : l.all p = true) : (45 : UInt8) ∉ l := by
  intro hm
  have := List.all_eq_true.1 h 45 hm
  rw [hp] at this; cases this
theorem lang_free {l : List UInt8} (h : langB l = true) : (45 : UInt8) ∉ l := by
  unfold langB at h; simp only [Bool.and_eq_true] at h; exact free_of_all let_hy h.2
theorem script_free {l : List UInt8} (h : scriptB l = true) : (45 : UInt8) ∉ l := by
  unfold scriptB at h; simp only [Bool.and_eq_true] at h; exact free_of_all let_hy h.2
theorem region_free {l : List UInt8} (h : regionB l = true) : (45 : UInt8) ∉ l := by
  unfold regionB at h; simp only [Bool.or_eq_true, Bool.and_eq_true] at h
  rcases h with h | h
  · exact free_of_all let_hy h.2
  · exact free_of_all dig_hy h.2
theorem variant_free {l : List UInt8} (h : variantB l = true) : (45 : UInt8) ∉ l := by
  unfold variantB at h; simp only [Bool.and_eq_true] at h; exact free_of_all ld_hy h.2.2
theorem lang_ne {l : List UInt8} (h : langB l = true) : l ≠ [] := by rintro rfl; exact absurd h (by decide)
theorem script_ne {l : List UInt8} (h : scriptB l = true) : l ≠ [] := by rintro rfl; exact absurd h (by decide)
theorem region_ne {l : List UInt8} (h : regionB l = true) : l ≠ [] := by rintro rfl; exact absurd h (by decide)
theorem variant_ne {l : List UInt8} (h : variantB l = true) : l ≠ [] := by rintro rfl; exact absurd h (by decide)
structure TagT where
  L : List UInt8
  S : List UInt8
  R : List UInt8
  vs : List (List UInt8)
def scrOf : List (List UInt8) → List UInt8 × List (List UInt8)
  | [] => ([], [])
  | p :: ps => if scriptB p then (title p, ps) else ([], p :: ps)
def regOf : List (List UInt8) → List UInt8 × List (List UInt8)
  | [] => ([], [])
  | p :: ps => if regionB p then (upp p, ps) else ([], p :: ps)
def varsOk (r : List (List UInt8)) : Bool := r.all variantB && decide ((r.map low).Nodup)
def restOf (ps : List (List UInt8)) : List (List UInt8) := (regOf (scrOf ps).2).2
def tagOf : List (List UInt8) → Option TagT
  | [] => none
  | p :: ps => if langB p then (if varsOk (restOf ps) then some ⟨low p, (scrOf ps).1, (regOf (scrOf ps).2).1, (restOf ps).map low⟩ else none) else none
theorem tagOf_cons (p : List UInt8) (ps : List (List UInt8)) : tagOf (p :: ps) = if langB p then (if varsOk (restOf ps) then some ⟨low p, (scrOf ps).1, (regOf (scrOf ps).2).1, (restOf ps).map low⟩ else none) else none := rfl
def TagT.pieces (t : TagT) : List (List UInt8) := [t.L, t.S, t.R].filter (fun s => decide (s ≠ [])) ++ t.vs
structure TagT.Good (t : TagT) : Prop where
  hL : langB t.L = true
  lL : low t.L = t.L
  hS : t.S = [] ∨ (scriptB t.S = true ∧ title t.S = t.S)
  hR : t.R = [] ∨ (regionB t.R = true ∧ upp t.R = t.R)
  hv : ∀ v ∈ t.vs, variantB v = true ∧ low v = v
  nd : t.vs.Nodup
theorem scrOf_cases (ps : List (List UInt8)) : (∃ p qs, ps = p :: qs ∧ scriptB p = true ∧ scrOf ps = (title p, qs)) ∨ ((∀ p qs, ps = p :: qs → scriptB p = false) ∧ scrOf ps = ([], ps)) := by
  cases ps with
  | nil => exact .inr ⟨fun p qs h => by simp at h, rfl⟩
  | cons p qs =>
    cases h : scriptB p
    · exact .inr ⟨fun p' qs' e => by cases e; exact h, by simp [scrOf, h]⟩
    · exact .inl ⟨p, qs, rfl, h, by simp [scrOf, h]⟩
theorem regOf_cases (ps : List (List UInt8)) : (∃ p qs, ps = p :: qs ∧ regionB p = true ∧ regOf ps = (upp p, qs)) ∨ ((∀ p qs, ps = p :: qs → regionB p = false) ∧ regOf ps = ([], ps)) := by
  cases ps with
  | nil => exact .inr ⟨fun p qs h => by simp at h, rfl⟩
  | cons p qs =>
    cases h : regionB p
    · exact .inr ⟨fun p' qs' e => by cases e; exact h, by simp [regOf, h]⟩
    · exact .inl ⟨p, qs, rfl, h, by simp [regOf, h]⟩
theorem tagOf_good {ps : List (List UInt8)} {t : TagT} (h : tagOf ps = some t) : t.Good := by
  cases ps with
  | nil => simp [tagOf] at h
  | cons p ps =>
    rw [tagOf_cons] at h
    cases hl : langB p
    · rw [hl] at h; simp at h
    · rw [hl] at h
      simp only [if_true] at h
      cases hv : varsOk (restOf ps)
      · rw [hv] at h; simp at h
      · rw [hv] at h
        simp only [if_true] at h
        obtain rfl := Option.some.inj h
        simp only [varsOk, Bool.and_eq_true, decide_eq_true_eq] at hv
        refine ⟨by rw [lang_low]; exact hl, low_idem p, ?_, ?_, ?_, hv.2⟩
        · rcases scrOf_cases ps with ⟨p', qs, _, h1, h2⟩ | ⟨_, h2⟩
          · rw [h2]; exact .inr ⟨by rw [script_title]; exact h1, title_idem p'⟩
          · rw [h2]; exact .inl rfl
        · rcases regOf_cases (scrOf ps).2 with ⟨p', qs, _, h1, h2⟩ | ⟨_, h2⟩
          · rw [h2]; exact .inr ⟨by rw [region_upp]; exact h1, upp_idem p'⟩
          · rw [h2]; exact .inl rfl
        · intro v hv'
          obtain ⟨u, hu, rfl⟩ := List.mem_map.1 hv'
          exact ⟨by rw [variant_low]; exact List.all_eq_true.1 hv.1 u hu, low_idem u⟩
theorem low_all {vs : List (List UInt8)} (h : ∀ v ∈ vs, variantB v = true ∧ low v = v) : vs.map low = vs := by
  conv => rhs; rw [← List.map_id vs]
  exact List.map_congr_left fun v hv => (h v hv).2
theorem varsOk_of {t : TagT} (g : t.Good) : varsOk t.vs = true := by
  unfold varsOk
  rw [low_all g.hv]
  simp only [Bool.and_eq_true, decide_eq_true_eq]
  exact ⟨List.all_eq_true.2 fun v hv => (g.hv v hv).1, g.nd⟩
theorem scr_vars {vs : List (List UInt8)} (h : ∀ v ∈ vs, variantB v = true ∧ low v = v) : scrOf vs = ([], vs) := by
  cases vs with
  | nil => rfl
  | cons v vs => simp [scrOf, variant_script (h v (by simp)).1]
theorem reg_vars {vs : List (List UInt8)} (h : ∀ v ∈ vs, variantB v = true ∧ low v = v) : regOf vs = ([], vs) := by
  cases vs with
  | nil => rfl
  | cons v vs => simp [regOf, variant_region (h v (by simp)).1]
theorem tagOf_pieces {t : TagT} (g : t.Good) : tagOf t.pieces = some t := by
  have hv := varsOk_of g
  have hlow := low_all g.hv
  have hL := lang_ne g.hL
  obtain ⟨L, S, R, vs⟩ := t
  have gL := g.hL; have gl := g.lL; have gv := g.hv
  simp only at hv hlow hL gL gl gv
  rcases g.hS with hS | ⟨hS, hSt⟩ <;> rcases g.hR with hR | ⟨hR, hRt⟩ <;> simp only at hS hR
  · subst hS hR
    have e : TagT.pieces ⟨L, [], [], vs⟩ = L :: vs := by simp [TagT.pieces, hL]
    rw [e]; simp [tagOf, restOf, gL, gl, scr_vars gv, reg_vars gv, hv, hlow]
  · subst hS
    simp only at hRt
    have e : TagT.pieces ⟨L, [], R, vs⟩ = L :: R :: vs := by simp [TagT.pieces, hL, region_ne hR]
    rw [e]
    have e1 : scrOf (R :: vs) = ([], R :: vs) := by simp [scrOf, region_script hR]
    have e2 : regOf (R :: vs) = (R, vs) := by simp [regOf, hR, hRt]
    simp [tagOf, restOf, gL, gl, e1, e2, hv, hlow]
  · subst hR
    simp only at hSt
    have e : TagT.pieces ⟨L, S, [], vs⟩ = L :: S :: vs := by simp [TagT.pieces, hL, script_ne hS]
    rw [e]
    have e1 : scrOf (S :: vs) = (S, vs) := by simp [scrOf, hS, hSt]
    simp [tagOf, restOf, gL, gl, e1, reg_vars gv, hv, hlow]
  · simp only at hSt hRt
    have e : TagT.pieces ⟨L, S, R, vs⟩ = L :: S :: R :: vs := by simp [TagT.pieces, hL, script_ne hS, region_ne hR]
    rw [e]
    have e1 : scrOf (S :: R :: vs) = (S, R :: vs) := by simp [scrOf, hS, hSt]
    have e2 : regOf (R :: vs) = (R, vs) := by simp [regOf, hR, hRt]
    simp [tagOf, restOf, gL, gl, e1, e2, hv, hlow]
theorem pieces_free {t : TagT} (g : t.Good) : ∀ p ∈ t.pieces, (45 : UInt8) ∉ p := by
  intro p hp
  unfold TagT.pieces at hp
  rcases List.mem_append.1 hp with hp | hp
  · have := (List.mem_filter.1 hp)
    have hne : p ≠ [] := by simpa using this.2
    simp only [List.mem_cons, List.not_mem_nil, or_false] at this
    rcases this.1 with rfl | rfl | rfl
    · exact lang_free g.hL
    · rcases g.hS with h | h
      · exact absurd h hne
      · exact script_free h.1
    · rcases g.hR with h | h
      · exact absurd h hne
      · exact region_free h.1
  · exact variant_free (g.hv p hp).1
theorem pieces_cons {t : TagT} (g : t.Good) : ∃ r, t.pieces = t.L :: r := by
  unfold TagT.pieces
  rw [List.filter_cons]
  simp [lang_ne g.hL]
theorem pieces_ne {t : TagT} (g : t.Good) : t.pieces ≠ [] := by obtain ⟨r, h⟩ := pieces_cons g; rw [h]; simp
def TagT.text (t : TagT) : List UInt8 := Lib.join t.pieces [45]
theorem split_text {t : TagT} (g : t.Good) : splitH t.text = t.pieces := splitH_join _ (pieces_ne g) (pieces_free g)
theorem tagOf_text {t : TagT} (g : t.Good) : tagOf (splitH t.text) = some t := by rw [split_text g, tagOf_pieces g]
theorem scrOf_low (ps : List (List UInt8)) : scrOf (ps.map low) = ((scrOf ps).1, (scrOf ps).2.map low) := by
  cases ps with
  | nil => rfl
  | cons p ps => simp only [List.map_cons, scrOf, script_low, title_low]; split <;> simp
theorem regOf_low (ps : List (List UInt8)) : regOf (ps.map low) = ((regOf ps).1, (regOf ps).2.map low) := by
  cases ps with
  | nil => rfl
  | cons p ps => simp only [List.map_cons, regOf, region_low, upp_of_low]; split <;> simp
theorem varsOk_low (ps : List (List UInt8)) : varsOk (ps.map low) = varsOk ps := by
  unfold varsOk
  rw [List.map_map, List.all_map]
  have e1 : (variantB ∘ low) = variantB := by funext l; exact variant_low l
  have e2 : (low ∘ low) = low := by funext l; exact low_idem l
  rw [e1, e2]
theorem tagOf_low (ps : List (List UInt8)) : tagOf (ps.map low) = tagOf ps := by
  cases ps with
  | nil => rfl
  | cons p ps =>
    have e2 : (low ∘ low) = low := by funext l; exact low_idem l
    have e3 : restOf (ps.map low) = (restOf ps).map low := by simp only [restOf, scrOf_low, regOf_low]
    rw [List.map_cons, tagOf_cons, tagOf_cons, lang_low, e3, varsOk_low, low_idem, List.map_map, e2]
    simp only [scrOf_low, regOf_low]
theorem low_upps (ps : List (List UInt8)) : (ps.map upp).map low = ps.map low := by
  rw [List.map_map]; congr 1; funext l; exact low_of_upp l
theorem tagOf_upp (ps : List (List UInt8)) : tagOf (ps.map upp) = tagOf ps := by
  rw [← tagOf_low (ps.map upp), low_upps, tagOf_low]
def lawR : Nat → List (List UInt8) → List (List UInt8) → Option (List (List UInt8))
  | _, _, [] => some []
  | st, seen, p :: ps =>
    if decide (st < 1) && scriptB p then (lawR 1 seen ps).map (title p :: ·)
    else if decide (st < 2) && regionB p then (lawR 2 seen ps).map (upp p :: ·)
    else if variantB p then (if low p ∈ seen then none else (lawR 3 (low p :: seen) ps).map (low p :: ·))
    else none
def lawP : List (List UInt8) → Option (List (List UInt8))
  | [] => none
  | p :: ps => if langB p then (lawR 0 [] ps).map (low p :: ·) else none
theorem lawR_vars : ∀ (ps : List (List UInt8)) (st : Nat) (seen : List (List UInt8)), 2 ≤ st →
    lawR st seen ps = if ps.all variantB && decide ((ps.map low).Nodup) && (ps.map low).all (fun x => decide (x ∉ seen)) then some (ps.map low) else none
  | [], st, seen, _ => by simp [lawR]
  | p :: ps, st, seen, h => by
    rw [lawR]
    have h1 : decide (st < 1) = false := by simp; omega
    have h2 : decide (st < 2) = false := by simp; omega
    rw [h1, h2]
    simp only [Bool.false_and, Bool.false_eq_true, if_false]
    cases hv : variantB p
    · simp [hv]
    · by_cases hs : low p ∈ seen
      · simp [hs]
      · simp only [reduceIte, hs]
        rw [lawR_vars ps 3 (low p :: seen) (by omega)]
        have key : ((p :: ps).all variantB && decide (((p :: ps).map low).Nodup) && ((p :: ps).map low).all (fun x => decide (x ∉ seen)))
            = (ps.all variantB && decide ((ps.map low).Nodup) && (ps.map low).all (fun x => decide (x ∉ low p :: seen))) := by
          rw [Bool.eq_iff_iff]
          simp only [Bool.and_eq_true, decide_eq_true_eq, List.all_eq_true, List.map_cons, List.nodup_cons, List.mem_cons, List.all_cons, hv, not_or, List.mem_map, true_and]
          constructor
          · rintro ⟨⟨h1, h2, h3⟩, h4, h5⟩
            refine ⟨⟨h1, h3⟩, fun x hx => ⟨fun e => h2 ?_, h5 x hx⟩⟩
            rw [← e]; exact hx
          · rintro ⟨⟨h1, h3⟩, h5⟩
            refine ⟨⟨h1, fun hm => ?_, h3⟩, hs, fun x hx => (h5 x hx).2⟩
            obtain ⟨u, hu, e⟩ := hm
            exact (h5 (low p) ⟨u, hu, e⟩).1 rfl
        rw [key]
        split <;> simp
theorem lawR_two (ps : List (List UInt8)) : lawR 2 [] ps = if varsOk ps then some (ps.map low) else none := by
  rw [lawR_vars ps 2 [] (by omega)]
  have : (ps.map low).all (fun x => decide (x ∉ ([] : List (List UInt8)))) = true := by simp
  rw [this]; simp [varsOk]
def ne1 (l : List UInt8) : List (List UInt8) := [l].filter (fun s => decide (s ≠ []))
theorem lawR_one (ps : List (List UInt8)) : lawR 1 [] ps = (lawR 2 [] (regOf ps).2).map (ne1 (regOf ps).1 ++ ·) := by
  rcases regOf_cases ps with ⟨p, qs, rfl, h1, h2⟩ | ⟨h1, h2⟩
  · rw [h2]
    have e : ne1 (upp p) = [upp p] := by
      have : upp p ≠ [] := region_ne (by rw [region_upp]; exact h1)
      simp [ne1, this]
    rw [e, lawR]
    simp [h1]
  · rw [h2]
    have e : ne1 [] = [] := rfl
    rw [e]
    cases ps with
    | nil => simp [lawR]
    | cons p qs => simp [lawR, h1 p qs rfl]
theorem lawR_zero (ps : List (List UInt8)) : lawR 0 [] ps = (lawR 1 [] (scrOf ps).2).map (ne1 (scrOf ps).1 ++ ·) := by
  rcases scrOf_cases ps with ⟨p, qs, rfl, h1, h2⟩ | ⟨h1, h2⟩
  · rw [h2]
    have e : ne1 (title p) = [title p] := by
      have : title p ≠ [] := script_ne (by rw [script_title]; exact h1)
      simp [ne1, this]
    rw [e, lawR]
    simp [h1]
  · rw [h2]
    have e : ne1 [] = [] := rfl
    rw [e]
    cases ps with
    | nil => simp [lawR]
    | cons p qs => simp [lawR, h1 p qs rfl]
theorem lawP_tag (ps : List (List UInt8)) : lawP ps = (tagOf ps).map TagT.pieces := by
  cases ps with
  | nil => rfl
  | cons p ps =>
    rw [tagOf_cons, show lawP (p :: ps) = if langB p then (lawR 0 [] ps).map (low p :: ·) else none from rfl]
    cases hl : langB p
    · rfl
    · simp only [if_true]
      rw [lawR_zero, lawR_one, lawR_two]
      have e : low p ≠ [] := lang_ne (by rw [lang_low]; exact hl)
      show _ = Option.map TagT.pieces (if varsOk (regOf (scrOf ps).2).2 = true then some ⟨low p, (scrOf ps).1, (regOf (scrOf ps).2).1, ((regOf (scrOf ps).2).2).map low⟩ else none)
      cases hv : varsOk (regOf (scrOf ps).2).2
      · rfl
      · simp only [if_true, Option.map_some, Option.some.injEq]
        generalize (scrOf ps).1 = S
        generalize (regOf (scrOf ps).2).1 = R
        by_cases hS : S = [] <;> by_cases hR : R = [] <;> simp [TagT.pieces, ne1, e, hS, hR]
end Go.Proofs.YthlccfjhgejlmaaDoor
