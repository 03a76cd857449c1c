/-
  Several texts put together (part T1): what the law and the program call, walked; their contracts.
-/
import Derived.Test.YtamghpleajbonaaGreatDoorQ21
namespace Go.Proofs.YtamghpleajbonaaGreatDoor
open Go.RowKit Go.ChangeMaps
set_option linter.unusedVariables false
set_option linter.unusedSimpArgs false
def nms (L : List VE) : List ByteArray := L.map (·.x.nm)
def lookL (n : ByteArray) : List VE → Option VE
  | [] => none
  | y :: r => if y.x.nm = n then some y else lookL n r
def putS (ty : Int) (over : Bool) : List VE → List VE → List VE
  | [], L => L
  | e :: r, L => putS ty over r (if e.x.ty = ty then (putL over e L).1 else L)
theorem addS_m (over : Bool) : ∀ (vs : List VE) (z : BS), (addS over vs z).m = putS 1 over vs z.m
  | [], z => rfl
  | e :: r, z => by
    rw [addS, putS, addS_m over r]
    unfold addE
    split
    · rfl
    · split
      · rfl
      · split <;> rfl
theorem addS_t (over : Bool) : ∀ (vs : List VE) (z : BS), (addS over vs z).t = putS 2 over vs z.t
  | [], z => rfl
  | e :: r, z => by
    rw [addS, putS, addS_t over r]
    unfold addE
    split
    · next h => rw [if_neg (show ¬ e.x.ty = 2 by omega)]
    · split
      · rfl
      · split <;> rfl
open Classical in
theorem put_nms (over : Bool) (e : VE) : ∀ L : List VE, nms (putL over e L).1 = (if e.x.nm ∈ nms L then nms L else nms L ++ [e.x.nm]) ∧ (putL over e L).2 = decide (e.x.nm ∈ nms L)
  | [] => by
    have h0 : e.x.nm ∉ nms [] := by simp [nms]
    rw [if_neg h0, decide_eq_false h0]
    exact ⟨rfl, rfl⟩
  | y :: L => by
    rw [putL]
    by_cases h : y.x.nm = e.x.nm
    · rw [if_pos h]
      have hm : e.x.nm ∈ nms (y :: L) := by rw [← h]; exact List.mem_cons_self ..
      rw [if_pos hm, decide_eq_true hm]
      refine ⟨?_, rfl⟩
      unfold nms
      cases over
      · rfl
      · show e.x.nm :: _ = y.x.nm :: _
        rw [h]
    · rw [if_neg h]
      obtain ⟨h1, h2⟩ := put_nms over e L
      have hc : e.x.nm ∈ nms (y :: L) ↔ e.x.nm ∈ nms L := by
        unfold nms
        rw [List.map_cons, List.mem_cons]
        exact ⟨fun g => g.resolve_left (fun g => h g.symm), Or.inr⟩
      refine ⟨?_, by rw [h2]; exact decide_eq_decide.2 hc.symm⟩
      show y.x.nm :: nms (putL over e L).1 = _
      rw [h1]
      by_cases g : e.x.nm ∈ nms L
      · rw [if_pos g, if_pos (hc.2 g)]; rfl
      · rw [if_neg g, if_neg (fun k => g (hc.1 k))]; rfl
theorem look_none {n : ByteArray} : ∀ {L : List VE}, lookL n L = none ↔ n ∉ nms L
  | [] => by simp [lookL, nms]
  | y :: L => by
    rw [lookL]
    have := look_none (n := n) (L := L)
    unfold nms at *
    rw [List.map_cons, List.mem_cons]
    split
    · next h => simp [h]
    · next h =>
      rw [this]
      exact ⟨fun g k => k.elim (fun k => h k.symm) g, fun g k => g (Or.inr k)⟩
theorem look_some {n : ByteArray} : ∀ {L : List VE} {e : VE}, lookL n L = some e → e ∈ L ∧ e.x.nm = n
  | y :: L, e, h => by
    rw [lookL] at h
    split at h
    · next hn => cases h; exact ⟨List.mem_cons_self .., hn⟩
    · obtain ⟨h1, h2⟩ := look_some h
      exact ⟨List.mem_cons_of_mem _ h1, h2⟩
theorem look_is {n : ByteArray} {L : List VE} (h : n ∈ nms L) : ∃ e, lookL n L = some e ∧ e ∈ L ∧ e.x.nm = n := by
  cases h1 : lookL n L with
  | none => exact absurd h (look_none.1 h1)
  | some e => exact ⟨e, rfl, look_some h1⟩
theorem put_look (over : Bool) (e : VE) (n : ByteArray) : ∀ L : List VE, lookL n (putL over e L).1 = if e.x.nm = n then (if over = true then some e else (lookL n L).or (some e)) else lookL n L
  | [] => by
    show lookL n [e] = _
    rw [lookL, lookL]
    split
    · cases over <;> rfl
    · rfl
  | y :: L => by
    rw [putL]
    by_cases h : y.x.nm = e.x.nm
    · rw [if_pos h]
      show lookL n ((if over then e else y) :: L) = _
      by_cases hn : e.x.nm = n
      · cases over <;> simp [lookL, hn, h.trans hn]
      · rw [if_neg hn, lookL, lookL, if_neg (fun k => hn (h ▸ k))]
        rw [if_neg (by cases over <;> simp [h, hn])]
    · rw [if_neg h]
      show lookL n (y :: (putL over e L).1) = _
      rw [lookL, lookL, put_look over e n L]
      by_cases hy : y.x.nm = n
      · rw [if_pos hy, if_pos hy, if_neg (fun k => h (hy.trans k.symm))]
      · rw [if_neg hy, if_neg hy]
open Classical in
theorem putS_mem (ty : Int) (over : Bool) (n : ByteArray) : ∀ (vs L : List VE), n ∈ nms (putS ty over vs L) ↔ n ∈ nms L ∨ ∃ e ∈ vs, e.x.ty = ty ∧ e.x.nm = n
  | [], L => by rw [putS]; simp
  | e :: r, L => by
    rw [putS, putS_mem ty over n r]
    have hp := (put_nms over e L).1
    constructor
    · rintro (h | ⟨f, hf, h⟩)
      · split at h
        · next ht =>
          rw [hp] at h
          split at h
          · exact .inl h
          · rcases List.mem_append.1 h with h | h
            · exact .inl h
            · rw [List.mem_singleton] at h
              exact .inr ⟨e, List.mem_cons_self .., ht, h.symm⟩
        · exact .inl h
      · exact .inr ⟨f, List.mem_cons_of_mem _ hf, h⟩
    · rintro (h | ⟨f, hf, h⟩)
      · left
        split
        · rw [hp]
          split
          · exact h
          · exact List.mem_append_left _ h
        · exact h
      · rcases List.mem_cons.1 hf with rfl | hf
        · left
          rw [if_pos h.1, hp]
          split
          · next g => rw [← h.2]; exact g
          · rw [← h.2]; exact List.mem_append_right _ (List.mem_singleton.2 rfl)
        · exact .inr ⟨f, hf, h⟩
open Classical in
theorem put_nodup {over : Bool} {e : VE} {L : List VE} (h : (nms L).Nodup) : (nms (putL over e L).1).Nodup := by
  rw [(put_nms over e L).1]
  split
  · exact h
  · next g => exact List.nodup_append.2 ⟨h, by simp, fun a ha b hb k => by rw [List.mem_singleton] at hb; subst hb; subst k; exact g ha⟩
theorem putS_nodup (ty : Int) (over : Bool) : ∀ (vs L : List VE), (nms L).Nodup → (nms (putS ty over vs L)).Nodup
  | [], L, h => h
  | e :: r, L, h => by
    rw [putS]
    refine putS_nodup ty over r _ ?_
    split
    · exact put_nodup h
    · exact h
theorem putS_all (ty : Int) (over : Bool) (Q : VE → Prop) : ∀ (vs L : List VE), (∀ e ∈ vs, Q e) → (∀ e ∈ L, Q e) → ∀ e ∈ putS ty over vs L, Q e
  | [], L, _, h => h
  | e :: r, L, h1, h2 => by
    rw [putS]
    refine putS_all ty over Q r _ (fun f hf => h1 f (List.mem_cons_of_mem _ hf)) ?_
    have he := h1 e (List.mem_cons_self ..)
    have hput : ∀ L : List VE, (∀ f ∈ L, Q f) → ∀ f ∈ (putL over e L).1, Q f := by
      intro L
      induction L with
      | nil => intro _ f hf; rw [putL, List.mem_singleton] at hf; rw [hf]; exact he
      | cons y L ih =>
        intro hL f hf
        rw [putL] at hf
        split at hf
        · rcases List.mem_cons.1 hf with hf | hf
          · rw [hf]
            cases over
            · exact hL y (List.mem_cons_self ..)
            · exact he
          · exact hL f (List.mem_cons_of_mem _ hf)
        · rcases List.mem_cons.1 hf with hf | hf
          · rw [hf]; exact hL y (List.mem_cons_self ..)
          · exact ih (fun f hf => hL f (List.mem_cons_of_mem _ hf)) f hf
    split
    · exact hput L h2
    · exact h2
open Classical in
theorem putS_len (ty : Int) (over : Bool) : ∀ (vs L : List VE), (putS ty over vs L).length ≤ L.length + vs.length
  | [], L => by rw [putS]; simp
  | e :: r, L => by
    rw [putS]
    have h := putS_len ty over r (if e.x.ty = ty then (putL over e L).1 else L)
    have h2 : (if e.x.ty = ty then (putL over e L).1 else L).length ≤ L.length + 1 := by
      split
      · have := congrArg List.length (put_nms over e L).1
        unfold nms at this
        rw [List.length_map] at this
        split at this <;> simp at this <;> omega
      · omega
    rw [List.length_cons]
    omega
def lastT (ty : Int) (n : ByteArray) : List EN → Option EN → Option EN
  | [], z => z
  | x :: r, z => lastT ty n r (if x.ty = ty ∧ x.nm = n then some x else z)
def firstT (ty : Int) (n : ByteArray) : List EN → Option EN
  | [] => none
  | x :: r => if x.ty = ty ∧ x.nm = n then some x else firstT ty n r
theorem last_is (ty : Int) (n : ByteArray) : ∀ (l : List EN) (z : Option EN), (lastT ty n l z = z ∧ ∀ x ∈ l, ¬ (x.ty = ty ∧ x.nm = n)) ∨ ∀ z', lastT ty n l z' = lastT ty n l z ∧ ∃ x, lastT ty n l z = some x
  | [], z => .inl ⟨rfl, fun x h => by simp at h⟩
  | x :: r, z => by
    simp only [lastT]
    by_cases h : x.ty = ty ∧ x.nm = n
    · right
      intro z'
      rw [if_pos h, if_pos h]
      refine ⟨rfl, ?_⟩
      rcases last_is ty n r (some x) with ⟨h1, _⟩ | h1
      · exact ⟨x, h1⟩
      · exact (h1 none).2
    · rw [if_neg h]
      rcases last_is ty n r z with ⟨h1, h2⟩ | h1
      · exact .inl ⟨h1, fun y hy => by
          rcases List.mem_cons.1 hy with rfl | hy
          · exact h
          · exact h2 y hy⟩
      · right
        intro z'
        rw [if_neg h]
        exact h1 z'
theorem look_over (ty : Int) (n : ByteArray) : ∀ (vs L : List VE), (lookL n (putS ty true vs L)).map (·.x) = lastT ty n (vs.map (·.x)) ((lookL n L).map (·.x))
  | [], L => rfl
  | e :: r, L => by
    rw [putS, look_over ty n r, List.map_cons, lastT]
    congr 1
    by_cases ht : e.x.ty = ty
    · rw [if_pos ht, put_look]
      by_cases hn : e.x.nm = n
      · rw [if_pos hn, if_pos rfl, if_pos (show e.x.ty = ty ∧ e.x.nm = n from ⟨ht, hn⟩)]; rfl
      · rw [if_neg hn, if_neg (fun k => hn k.2)]
    · rw [if_neg ht, if_neg (fun k => ht k.1)]
theorem look_kept (ty : Int) (n : ByteArray) : ∀ (vs L : List VE), (lookL n (putS ty false vs L)).map (·.x) = ((lookL n L).map (·.x)).or (firstT ty n (vs.map (·.x)))
  | [], L => by rw [putS, List.map_nil, firstT, Option.or_none]
  | e :: r, L => by
    rw [putS, look_kept ty n r, List.map_cons, firstT]
    by_cases ht : e.x.ty = ty
    · rw [if_pos ht, put_look]
      by_cases hn : e.x.nm = n
      · rw [if_pos hn, if_neg (show ¬ false = true by simp), if_pos (show e.x.ty = ty ∧ e.x.nm = n from ⟨ht, hn⟩)]
        cases lookL n L <;> rfl
      · rw [if_neg hn, if_neg (fun k => hn k.2)]
    · rw [if_neg ht, if_neg (fun k => ht k.1)]
theorem last_some {ty : Int} {n : ByteArray} : ∀ {l : List EN} {z : Option EN} {x : EN}, lastT ty n l z = some x → x ∈ l ∨ z = some x
  | [], z, x, h => .inr h
  | y :: r, z, x, h => by
    rw [lastT] at h
    rcases last_some h with h | h
    · exact .inl (List.mem_cons_of_mem _ h)
    · split at h
      · cases h; exact .inl (List.mem_cons_self ..)
      · exact .inr h
def ofTwo : List EN → Nat
  | [] => 0
  | x :: r => (if x.ty = 1 ∨ x.ty = 2 then 1 else 0) + ofTwo r
def ofJunk : List EN → Nat
  | [] => 0
  | x :: r => (if x.ty = 3 then 1 else 0) + ofJunk r
theorem addS_jk (over : Bool) : ∀ (vs : List VE) (z : BS), (addS over vs z).jk = z.jk + ofJunk (vs.map (·.x))
  | [], z => rfl
  | e :: r, z => by
    rw [addS, addS_jk over r, List.map_cons, ofJunk]
    have h : (addE over e z).jk = z.jk + (if e.x.ty = 3 then 1 else 0) := by
      unfold addE
      by_cases h1 : e.x.ty = 1
      · rw [if_pos h1, if_neg (show ¬ e.x.ty = 3 by omega)]; rfl
      · rw [if_neg h1]
        by_cases h2 : e.x.ty = 2
        · rw [if_pos h2, if_neg (show ¬ e.x.ty = 3 by omega)]; rfl
        · rw [if_neg h2]
          by_cases h3 : e.x.ty = 3
          · rw [if_pos h3, if_pos h3]
          · rw [if_neg h3, if_neg h3]; rfl
    rw [h]
    omega
open Classical in
theorem addS_tw (over : Bool) : ∀ (vs : List VE) (z : BS), (∀ e ∈ vs, (e.x.ty = 1 → e.x.nm ∈ nms z.m) ∧ (e.x.ty = 2 → e.x.nm ∈ nms z.t)) → (addS over vs z).tw.length = z.tw.length + ofTwo (vs.map (·.x))
  | [], z, _ => rfl
  | e :: r, z, h => by
    have he := h e (List.mem_cons_self ..)
    have hr : ∀ f ∈ r, (f.x.ty = 1 → f.x.nm ∈ nms (addE over e z).m) ∧ (f.x.ty = 2 → f.x.nm ∈ nms (addE over e z).t) := by
      intro f hf
      have hf := h f (List.mem_cons_of_mem _ hf)
      have m1 : ∀ n, n ∈ nms z.m → n ∈ nms (addE over e z).m := fun n hn => by
        have := (putS_mem 1 over n [e] z.m).2 (.inl hn)
        have e2 := addS_m over [e] z
        rw [← e2] at this
        exact this
      have m2 : ∀ n, n ∈ nms z.t → n ∈ nms (addE over e z).t := fun n hn => by
        have := (putS_mem 2 over n [e] z.t).2 (.inl hn)
        have e2 := addS_t over [e] z
        rw [← e2] at this
        exact this
      exact ⟨fun k => m1 _ (hf.1 k), fun k => m2 _ (hf.2 k)⟩
    rw [addS, addS_tw over r _ hr, List.map_cons, ofTwo]
    have h1 := (put_nms over e z.m).2
    have h2 := (put_nms over e z.t).2
    have h : (addE over e z).tw.length = z.tw.length + (if e.x.ty = 1 ∨ e.x.ty = 2 then 1 else 0) := by
      unfold addE
      by_cases t1 : e.x.ty = 1
      · rw [decide_eq_true (he.1 t1)] at h1
        rw [if_pos t1, if_pos (show e.x.ty = 1 ∨ e.x.ty = 2 from .inl t1), h1]
        simp
      · rw [if_neg t1]
        by_cases t2 : e.x.ty = 2
        · rw [decide_eq_true (he.2 t2)] at h2
          rw [if_pos t2, if_pos (show e.x.ty = 1 ∨ e.x.ty = 2 from .inr t2), h2]
          simp
        · rw [if_neg t2, if_neg (show ¬ (e.x.ty = 1 ∨ e.x.ty = 2) from fun k => k.elim t1 t2)]
          split <;> rfl
    rw [h]
    omega
theorem addS_tw_le (over : Bool) : ∀ (vs : List VE) (z : BS), (addS over vs z).tw.length ≤ z.tw.length + vs.length
  | [], z => by rw [addS]; simp
  | e :: r, z => by
    rw [addS]
    have h := addS_tw_le over r (addE over e z)
    have h2 : (addE over e z).tw.length ≤ z.tw.length + 1 := by
      unfold addE
      split
      · dsimp only; split <;> simp
      · split
        · dsimp only; split <;> simp
        · split <;> simp
    rw [List.length_cons]
    omega
end Go.Proofs.YtamghpleajbonaaGreatDoor
