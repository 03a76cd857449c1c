/-
  Plain mathematics of TagMore: a variant more, big or small letters.
-/
import Derived.Test.YtldmldgkjkgkcaaDoorTgTag
namespace Go.Proofs.YtldmldgkjkgkcaaDoor
open Go
set_option linter.unusedVariables false

def zz : List UInt8 := [122, 122, 122, 122, 122, 122, 122, 57]
theorem zz_variant : variantB zz = true := by decide
theorem zz_low : low zz = zz := by decide
theorem zz_free : (45 : UInt8) ∉ zz := by decide
/-- A tag with one variant more. -/
def TagT.more (t : TagT) : TagT := ⟨t.L, t.S, t.R, t.vs ++ [zz]⟩
theorem scr_snoc (ps : List (List UInt8)) : scrOf (ps ++ [zz]) = ((scrOf ps).1, (scrOf ps).2 ++ [zz]) := by
  cases ps with
  | nil => simp [scrOf, variant_script zz_variant]
  | cons p qs => simp only [List.cons_append, scrOf]; split <;> simp
theorem reg_snoc (ps : List (List UInt8)) : regOf (ps ++ [zz]) = ((regOf ps).1, (regOf ps).2 ++ [zz]) := by
  cases ps with
  | nil => simp [regOf, variant_region zz_variant]
  | cons p qs => simp only [List.cons_append, regOf]; split <;> simp
theorem rest_snoc (ps : List (List UInt8)) : restOf (ps ++ [zz]) = restOf ps ++ [zz] := by
  unfold restOf; rw [scr_snoc]; simp only; rw [reg_snoc]
theorem varsOk_snoc {r : List (List UInt8)} (h : varsOk r = true) (hz : zz ∉ r.map low) : varsOk (r ++ [zz]) = true := by
  unfold varsOk at *
  simp only [Bool.and_eq_true, decide_eq_true_eq] at *
  refine ⟨by rw [List.all_append, h.1]; simp [zz_variant], ?_⟩
  rw [List.map_append, List.nodup_append]
  refine ⟨h.2, by simp, ?_⟩
  intro a ha b hb e
  simp only [List.map_cons, List.map_nil, List.mem_singleton] at hb
  rw [zz_low] at hb
  subst hb
  subst e
  exact hz ha
theorem tagOf_more {l : List UInt8} {t : TagT} (h : tagOf (splitH l) = some t) (hz : zz ∉ t.vs) : tagOf (splitH (l ++ 45 :: zz)) = some t.more := by
  rw [splitH_app2, splitH_one zz zz_free]
  cases e : splitH l with
  | nil => exact absurd e (splitH_ne l)
  | cons p ps =>
    rw [e] at h
    rw [List.cons_append, tagOf_cons]
    rw [tagOf_cons] at h
    cases hl : langB p
    · rw [hl] at h; simp at h
    · rw [hl] at h
      simp only [if_true] at h ⊢
      cases hv : varsOk (restOf ps)
      · rw [hv] at h; simp at h
      · rw [hv] at h
        simp only [if_true, Option.some.injEq] at h
        subst h
        rw [rest_snoc, varsOk_snoc hv hz]
        simp only [if_true, Option.some.injEq]
        unfold TagT.more
        rw [scr_snoc]
        simp only
        rw [reg_snoc]
        simp [zz_low]
theorem more_pieces (t : TagT) : t.more.pieces = t.pieces ++ [zz] := by simp [TagT.pieces, TagT.more]
theorem more_fits (t : TagT) : fitsT t.more t = true := by
  unfold fitsT; rw [more_pieces]; simp
theorem more_not (t : TagT) : fitsT t t.more = false := by
  unfold fitsT; rw [more_pieces, List.length_append, decide_eq_false (by simp), Bool.false_and]
theorem more_drop (t : TagT) : t.more.vs.dropLast = t.vs := by simp [TagT.more]
theorem tagOf_big (l : List UInt8) : tagOf (splitH (upp l)) = tagOf (splitH l) := by
  have : splitH (upp l) = (splitH l).map upp := splitH_map _ upp_hy l
  rw [this, tagOf_upp]
theorem tagOf_small (l : List UInt8) : tagOf (splitH (low l)) = tagOf (splitH l) := by
  have : splitH (low l) = (splitH l).map low := splitH_map _ low_hy l
  rw [this, tagOf_low]
end Go.Proofs.YtldmldgkjkgkcaaDoor
