/-
  Several texts put together (part T5): what the law and the program call, walked; their contracts.
-/
import Derived.Test.YtamghpleajbonaaGreatDoorQ36
import Derived.Test.YtamghpleajbonaaGreatDoorQT1
import Derived.Test.YtamghpleajbonaaGreatDoorQT2
import Derived.Test.YtamghpleajbonaaGreatDoorQT4
import Derived.Test.YtamghpleajbonaaGreatDoorQ39
import Derived.Test.YtamghpleajbonaaGreatDoorQ4
import Derived.Deep.RegionHeld3
namespace Go.Proofs.YtamghpleajbonaaGreatDoor
open Go.RowKit Go.ChangeMaps
set_option linter.unusedVariables false
set_option linter.unusedSimpArgs false
def docS (s : ByteArray) : List EN := parseS ⟨(decAll s).toArray⟩
structure EnOk (x : EN) : Prop where
  nm : x.nm.size ≤ 1000000
  sz : sizeEs x.val + sizeTs x.ats ≤ 1000000
  le : x.ty = 1 ∨ x.ty = 2 → leB (at0 x.nm.data.toList 0) = true ∧ 0 < x.nm.size
  ty : 0 ≤ x.ty ∧ x.ty ≤ 3
theorem dec_size (s : ByteArray) : (⟨(decAll s).toArray⟩ : ByteArray).size ≤ 4 * s.size := by
  have := decFrom_length s s.size 0
  show (decAll s).toArray.size ≤ _
  unfold decAll
  simpa using this
theorem doc_ok {s : ByteArray} (h : s.size ≤ 1500) : (∀ x ∈ docS s, EnOk x) ∧ (docS s).length ≤ 6000 := by
  have h1 := dec_size s
  obtain ⟨h2, h3⟩ := parse_good ⟨(decAll s).toArray⟩
  refine ⟨fun x hx => ?_, by unfold docS; omega⟩
  have h4 := h2 x hx
  exact ⟨by have := h4.nm; omega, by have := h4.sz; omega, h4.le, h4.ty⟩
def NotIn (W : World) (b mb tb : Nat) : Nat → Prop := fun k => k < W.heap.size ∧ k ≠ b ∧ k ≠ mb ∧ k ≠ tb
structure BunAt (W : World) (b mb tb : Nat) (l sc rg : ByteArray) (M T : List VE) : Prop where
  box : BoxAt W b (bunC l sc rg (.map (some mb)) (.map (some tb))) 68
  mm : MapAt W mb (mapOf M) M.length
  tm : MapAt W tb (mapOf T) T.length
  lo : b < mb ∧ b < tb ∧ mb ≠ tb
  tr : ∀ e, e ∈ M ∨ e ∈ T → PatF W (NotIn W b mb tb) e.x.val (.slice e.A e.x.val.length e.c) ∧ AtsF W (NotIn W b mb tb) e.x.ats (.slice e.B e.x.ats.length e.d)
theorem BunAt.later {W W' : World} {b mb tb : Nat} {l sc rg : ByteArray} {M T : List VE} (h : BunAt W b mb tb l sc rg M T) (g : Below W.heap.size W W') : BunAt W' b mb tb l sc rg M T :=
  ⟨h.box.later g, h.mm.later g, h.tm.later g, h.lo, fun e he => by
    obtain ⟨h1, h2⟩ := h.tr e he
    have hc : ∀ k, NotIn W b mb tb k → NotIn W' b mb tb k ∧ W'.heap[k]? = W.heap[k]? := fun k hk => ⟨⟨Nat.lt_of_lt_of_le hk.1 g.size, hk.2⟩, g.block k hk.1⟩
    exact ⟨PatF.carry hc h1, AtsF.carry hc h2⟩⟩
def BunIs (W : World) (b : Nat) (l sc rg : ByteArray) (M T : List VE) : Prop :=
  (BoxAt W b (bunC l sc rg (.map none) (.map none)) 68 ∧ M = [] ∧ T = []) ∨ ∃ mb tb, BunAt W b mb tb l sc rg M T
theorem BunIs.later {W W' : World} {b : Nat} {l sc rg : ByteArray} {M T : List VE} (h : BunIs W b l sc rg M T) (g : Below W.heap.size W W') : BunIs W' b l sc rg M T := by
  rcases h with ⟨h1, h2⟩ | ⟨mb, tb, h⟩
  · exact .inl ⟨h1.later g, h2⟩
  · exact .inr ⟨mb, tb, h.later g⟩
theorem BunIs.lt {W : World} {b : Nat} {l sc rg : ByteArray} {M T : List VE} (h : BunIs W b l sc rg M T) : b < W.heap.size := by
  rcases h with ⟨h1, h2⟩ | ⟨mb, tb, h⟩
  · exact h1.lt
  · exact h.box.lt
set_option maxHeartbeats 2000000 in
set_option maxRecDepth 100000 in
theorem makeMaps_old (b mb : Nat) (l sc rg : ByteArray) (t : Value) (w : World) (h : BoxAt w b (bunC l sc rg (.map (some mb)) t) 68) :
    Calls Tryz.prog 26 #[.pointer (some ⟨b, 0, none⟩)] w fun e w' => e = .returned (.tuple #[]) ∧ Below w.heap.size w w' := by
  have c4 : w.cell? ⟨b, 4, none⟩ = some (.map (some mb)) := h.cell 4
  have hl := h.lt
  have hq := map_some mb
  clear h
  go_enter Tryz.func26, Tryz.ntmps26
  go_wp2
  go_end0
  first | exact ⟨rfl, Below.refl _ _⟩ | exact ⟨rfl, (Below.refl _ _).drew⟩
def ResAt (w0 : World) (A : Option Addr) (s : ByteArray) (c : Nat) : Prop := ∀ W, Below w0.heap.size w0 W → (convert 35 9 (.slice A s.size c)).run Tryz.prog W = .ok (.string s) W
def AddedB (w : World) (b : Nat) (l sc rg : ByteArray) (over : Bool) (s : ByteArray) (M T : List VE) (e : Ending) (w' : World) : Prop :=
  ∃ (vs : List VE) (A' : Option Addr) (c' : Nat), vs.map (·.x) = docS s ∧ (∃ mb tb, BunAt w' b mb tb l sc rg (putS 1 over vs M) (putS 2 over vs T)) ∧
    e = .returned (.tuple #[.slice A' (addS over vs ⟨M, T, [], 0⟩).tw.length c', .int .i64 (addS over vs ⟨M, T, [], 0⟩).jk]) ∧ Below b w w'
def AddedAt (w : World) (b mb tb : Nat) (l sc rg : ByteArray) (over : Bool) (s : ByteArray) (M T : List VE) (e : Ending) (w' : World) : Prop :=
  ∃ (vs : List VE) (A' : Option Addr) (c' : Nat), vs.map (·.x) = docS s ∧ BunAt w' b mb tb l sc rg (putS 1 over vs M) (putS 2 over vs T) ∧
    e = .returned (.tuple #[.slice A' (addS over vs ⟨M, T, [], 0⟩).tw.length c', .int .i64 (addS over vs ⟨M, T, [], 0⟩).jk]) ∧ Below b w w' ∧ ∀ k, NotIn w b mb tb k → w'.heap[k]? = w.heap[k]?
theorem row_slice {W : World} {B : Nat} {e : TypeId} {v : Value} {n : Nat} {xs : List Value} (h : W.ownsRow B e 1 v n xs) : ∃ A c, v = .slice A n c := by
  rcases h.2 with ⟨rfl, rfl⟩ | ⟨g, cap, cur, rfl, _⟩
  · exact ⟨none, 0, rfl⟩
  · exact ⟨_, _, rfl⟩
theorem addB_core {w0 : World} {A : Option Addr} {s : ByteArray} {c : Nat} (hr : ResAt w0 A s c) (hs : s.size ≤ 1500) (b : Nat) (over : Bool) (l sc rg : ByteArray) (M T : List VE) (w : World) (h0 : Below w0.heap.size w0 w) (hlow : w0.heap.size ≤ b) (mb tb : Nat) (hne : b < mb ∧ b < tb ∧ mb ≠ tb) (htr : ∀ e, e ∈ M ∨ e ∈ T → PatF w (NotIn w b mb tb) e.x.val (.slice e.A e.x.val.length e.c) ∧ AtsF w (NotIn w b mb tb) e.x.ats (.slice e.B e.x.ats.length e.d))
    (hMk : Calls Tryz.prog 26 #[.pointer (some ⟨b, 0, none⟩)] w (fun e w' => e = .returned (.tuple #[]) ∧ BoxAt w' b (bunC l sc rg (.map (some mb)) (.map (some tb))) 68 ∧ MapAt w' mb (mapOf M) M.length ∧ MapAt w' tb (mapOf T) T.length ∧ Kp b w w')) :
    Calls Tryz.prog 14 #[.pointer (some ⟨b, 0, none⟩), .slice A s.size c, .bool over] w (AddedAt w b mb tb l sc rg over s M T) := by
  have hds := dec_size s
  obtain ⟨hok, hlen⟩ := doc_ok hs
  have hD : ∀ W, Kp b w W → Calls Tryz.prog 17 #[.slice A s.size c] W fun e w' => e = .returned (.string ⟨(decAll s).toArray⟩) ∧ Below W.heap.size W w' := fun W hK =>
    decode_any A c s W (by omega) (fun W' hW => hr W' ((h0.trans (hK.below.mono hlow)).trans (hW.mono (by have := h0.size; have := hK.size; omega))))
  have hP : ∀ W, Calls Tryz.prog 16 #[.string ⟨(decAll s).toArray⟩] W (GotEs W (parseS ⟨(decAll s).toArray⟩)) := fun W => parse_call (pat_calls (by omega)) (by omega) W
  have core := fun mb tb hMk hne => add_core b mb tb (.slice A s.size c) ⟨(decAll s).toArray⟩ over l sc rg M T w (by omega) (by have : (docS s).length ≤ 6000 := hlen; unfold docS at this; omega) (fun x hx => (hok x hx).nm) hMk hne hD hP
  refine (core mb tb hMk ⟨by omega, by omega, hne.2.2⟩).mono ?_
  rintro e w' ⟨vs, v, w1, w2, hvs, hk, ⟨l1, l2, l3⟩, hb, hk3, hts, rfl, hown, hbx, hmm, htm⟩
  obtain ⟨A', c', rfl⟩ := row_slice hown
  rw [addS_m] at hmm
  rw [addS_t] at htm
  have hsz2 : w1.heap.size ≤ w2.heap.size := hb.size
  have hsz3 : w2.heap.size ≤ w'.heap.size := hk3.low.size
  refine ⟨vs, A', c', hvs, ⟨hbx, hmm, htm, hne, ?_⟩, rfl, ?_, fun k hkk => ?_⟩
  · have hnew : ∀ e ∈ vs, PatF w' (NotIn w' b mb tb) e.x.val (.slice e.A e.x.val.length e.c) ∧ AtsF w' (NotIn w' b mb tb) e.x.ats (.slice e.B e.x.ats.length e.d) := fun e he => by
      obtain ⟨h1, h2⟩ := hts e he
      have hc : ∀ k, Since w1.heap.size w2 k → NotIn w' b mb tb k ∧ w'.heap[k]? = w2.heap[k]? := fun k hk => by
        obtain ⟨g1, g2⟩ := hk
        exact ⟨⟨by omega, by omega, by omega, by omega⟩, hk3.others k g2 (by omega) (by omega)⟩
      exact ⟨PatF.carry hc h1, AtsF.carry hc h2⟩
    have hold : ∀ e, e ∈ M ∨ e ∈ T → PatF w' (NotIn w' b mb tb) e.x.val (.slice e.A e.x.val.length e.c) ∧ AtsF w' (NotIn w' b mb tb) e.x.ats (.slice e.B e.x.ats.length e.d) := fun e he => by
      obtain ⟨h1, h2⟩ := htr e he
      have hc : ∀ k, NotIn w b mb tb k → NotIn w' b mb tb k ∧ w'.heap[k]? = w.heap[k]? := fun k hkk => by
        obtain ⟨g1, g2, g3, g4⟩ := hkk
        have := hk.size
        exact ⟨⟨by omega, g2, g3, g4⟩, (hk3.others k (by omega) g3 g4).trans ((hb.block k (by omega)).trans (hk.others k g1 g2))⟩
      exact ⟨PatF.carry hc h1, AtsF.carry hc h2⟩
    intro e he
    rcases he with he | he
    · exact putS_all 1 over (fun e => PatF w' (NotIn w' b mb tb) e.x.val (.slice e.A e.x.val.length e.c) ∧ AtsF w' (NotIn w' b mb tb) e.x.ats (.slice e.B e.x.ats.length e.d)) vs M hnew (fun e h => hold e (.inl h)) e he
    · exact putS_all 2 over (fun e => PatF w' (NotIn w' b mb tb) e.x.val (.slice e.A e.x.val.length e.c) ∧ AtsF w' (NotIn w' b mb tb) e.x.ats (.slice e.B e.x.ats.length e.d)) vs T hnew (fun e h => hold e (.inr h)) e he
  · have a1 : Below b w w1 := hk.below
    have a2 : Below b w1 w2 := hb.mono (by omega)
    have a3 : Below b w2 w' := ⟨hk3.low.os, hk3.low.tape, hk3.low.output, hk3.low.size, fun k hk => hk3.others k (by omega) (by omega) (by omega)⟩
    exact (a1.trans a2).trans a3
  · obtain ⟨g1, g2, g3, g4⟩ := hkk
    have := hk.size
    exact (hk3.others k (by omega) g3 g4).trans ((hb.block k (by omega)).trans (hk.others k g1 g2))
theorem addB_at {w0 : World} {A : Option Addr} {s : ByteArray} {c : Nat} (hr : ResAt w0 A s c) (hs : s.size ≤ 1500) (b mb tb : Nat) (over : Bool) (l sc rg : ByteArray) (M T : List VE) (w : World) (h0 : Below w0.heap.size w0 w) (hlow : w0.heap.size ≤ b) (h : BunAt w b mb tb l sc rg M T) :
    Calls Tryz.prog 14 #[.pointer (some ⟨b, 0, none⟩), .slice A s.size c, .bool over] w (AddedAt w b mb tb l sc rg over s M T) := by
  have hlt := h.box.lt
  refine addB_core hr hs b over l sc rg M T w h0 hlow mb tb h.lo h.tr ((makeMaps_old b mb l sc rg _ w h.box).mono ?_)
  rintro e w' ⟨rfl, hb⟩
  exact ⟨rfl, h.box.later hb, h.mm.later hb, h.tm.later hb, Kp.of_below hb (Nat.le_of_lt hlt)⟩
theorem addB_any {w0 : World} {A : Option Addr} {s : ByteArray} {c : Nat} (hr : ResAt w0 A s c) (hs : s.size ≤ 1500) (b : Nat) (over : Bool) (l sc rg : ByteArray) (M T : List VE) (w : World) (h0 : Below w0.heap.size w0 w) (hlow : w0.heap.size ≤ b) (hB : BunIs w b l sc rg M T) :
    Calls Tryz.prog 14 #[.pointer (some ⟨b, 0, none⟩), .slice A s.size c, .bool over] w (AddedB w b l sc rg over s M T) := by
  rcases hB with ⟨h1, rfl, rfl⟩ | ⟨mb, tb, h⟩
  · have hlt := h1.lt
    refine (addB_core hr hs b over l sc rg [] [] w h0 hlow w.heap.size (w.heap.size + 1) ⟨hlt, by omega, by omega⟩ (fun e he => by rcases he with he | he <;> simp at he) (makeMaps_new b l sc rg w h1)).mono ?_
    rintro e w' ⟨vs, A', c', h2, h3, h4, h5, _⟩
    exact ⟨vs, A', c', h2, ⟨_, _, h3⟩, h4, h5⟩
  · refine (addB_at hr hs b mb tb over l sc rg M T w h0 hlow h).mono ?_
    rintro e w' ⟨vs, A', c', h2, h3, h4, h5, _⟩
    exact ⟨vs, A', c', h2, ⟨_, _, h3⟩, h4, h5⟩
def sortN (l : List ByteArray) : List ByteArray := ((l.map (·.data.toList)).mergeSort Go.leB).map (fun x => ⟨x.toArray⟩)
theorem sortN_enc (l : List ByteArray) : ((l.map (·.data.toList)).mergeSort Go.leB).map encStr = (sortN l).map Value.string := by
  unfold sortN
  rw [List.map_map]
  rfl
theorem sortN_perm {l l' : List ByteArray} (h : l.Perm l') : sortN l = sortN l' := by
  unfold sortN
  rw [mergeSort_of_perm (h.map _)]
theorem sortN_mem (l : List ByteArray) : (sortN l).Perm l := by
  unfold sortN
  refine ((List.mergeSort_perm _ _).map _).trans ?_
  rw [List.map_map]
  exact List.Perm.of_eq (by
    have : ((fun x : List UInt8 => (⟨x.toArray⟩ : ByteArray)) ∘ fun x : ByteArray => x.data.toList) = id := by
      funext x
      simp
    rw [this, List.map_id])
theorem names_bun {w : World} {b mb tb : Nat} {l sc rg : ByteArray} {M T : List VE} (h : BunAt w b mb tb l sc rg M T) (hd : (nms M).Nodup) (hs : ∀ e ∈ M, EnOk e.x) (hl : M.length ≤ 1000000) :
    Calls Tryz.prog 12 #[.pointer (some ⟨b, 0, none⟩)] w fun e w' => ∃ g cap, e = .returned (.slice (some ⟨g, 0, none⟩) M.length cap) ∧
      (∀ i x, (sortN (nms M))[i]? = some x → w'.cell? ⟨g, i, none⟩ = some (.string x)) ∧ (w.heap.size ≤ g ∧ g < w'.heap.size) ∧ Below w.heap.size w w' := by
  have hm := h.mm
  rw [mapOf_V] at hm
  have hk1 : (M.map fun e => (e.x.nm, e.v)).map (·.1) = nms M := by rw [List.map_map]; rfl
  have hk2 : (M.map fun e => (e.x.nm, e.v)).map (·.1.data.toList) = (nms M).map (·.data.toList) := by rw [List.map_map]; unfold nms; rw [List.map_map]; rfl
  have hlm : (M.map fun e => (e.x.nm, e.v)).length = M.length := List.length_map _
  rw [← hlm] at hm
  refine (names_any b mb l sc rg _ _ w h.box hm (by rw [hk1]; exact hd) (fun p hp => ?_) (by rw [hlm]; exact hl)).mono ?_
  · obtain ⟨e, he, rfl⟩ := List.mem_map.1 hp
    exact (hs e he).nm
  · rintro e w' ⟨g, cap, rfl, hown, hb⟩
    rw [hlm] at hown
    rw [hk2, sortN_enc] at hown
    refine ⟨g, cap, by rw [hlm], fun i x hx => ?_, ?_, hb⟩
    · have := hown.cells (g := g) rfl i (.string x) (by rw [List.getElem?_map, hx]; rfl)
      rw [Addr.add_mid] at this
      simpa using this
    · exact hown.lt g rfl
end Go.Proofs.YtamghpleajbonaaGreatDoor

namespace Go.Proofs.YtamghpleajbonaaGreatDoor
open Go.RowKit Go.ChangeMaps
set_option linter.unusedVariables false
set_option linter.unusedSimpArgs false
structure SR where
  A : Option Addr
  s : ByteArray
  c : Nat
  over : Bool
def SrcsAt (W : World) (g : Nat) (L : List SR) : Prop := ∀ j e, L[j]? = some e → W.cell? ⟨g, j * 2, none⟩ = some (.slice e.A e.s.size e.c) ∧ W.cell? ⟨g, j * 2 + 1, none⟩ = some (.bool e.over)
def totS : List SR → Nat
  | [] => 0
  | e :: r => e.s.size + totS r
theorem totS_take (L : List SR) {i : Nat} {e : SR} (h : L[i]? = some e) : totS (L.take (i + 1)) = totS (L.take i) + e.s.size := by
  induction L generalizing i with
  | nil => simp at h
  | cons y L ih =>
    cases i with
    | zero =>
      simp at h
      subst h
      simp [totS]
    | succ i =>
      rw [List.take_succ_cons, List.take_succ_cons, totS, totS, ih (by simpa using h)]
      omega
theorem totS_le (L : List SR) (i : Nat) : totS (L.take i) ≤ totS L := by
  induction L generalizing i with
  | nil => simp
  | cons y L ih =>
    cases i with
    | zero => simp [totS]
    | succ i => rw [List.take_succ_cons, totS, totS]; have := ih i; omega
theorem totS_mem {L : List SR} {e : SR} (h : e ∈ L) : e.s.size ≤ totS L := by
  induction L with
  | nil => simp at h
  | cons y L ih =>
    rw [totS]
    rcases List.mem_cons.1 h with rfl | h
    · omega
    · have := ih h; omega
abbrev zSr : Array Value := #[.slice none 0 0, .bool false]
theorem srZero (w : World) : (zeroValue 38).run Tryz.prog w = .ok (.agg zSr) w := (zero_of_info (show (Tryz.prog.info? 38).map (fun i => (i.zero, i.size)) = some (some (.agg zSr), 2) by kernel_rfl)).1 w
set_option maxHeartbeats 4000000 in
set_option maxRecDepth 100000 in
theorem few_any (g c : Nat) (L : List SR) (w : World) (hg : g < w.heap.size) (hc : SrcsAt w g L) (ht : totS L ≤ 9223372036854775807) (hL : L.length ≤ 10) :
    Calls Tryz.prog 10 #[.slice (some ⟨g, 0, none⟩) L.length c] w fun e w' => e = .returned (.bool (decide (totS L ≤ 1500))) ∧ Below w.heap.size w w' := by
  have HC := Lib.hid hc
  have hl10 : decide ((L.length : Int) ≤ 10) = true := decide_eq_true (by omega)
  have hl11 : decide (L.length ≤ 10) = true := decide_eq_true hL
  have hL0 : (L.length : Int) ≤ 10 := by omega
  clear hc
  go_enter Tryz.func10, Tryz.ntmps10
  go_wp2
  go_loopw [3, 8] (fun t3 t8 wr => ∃ i : Nat, t3 = .int .i64 (totS (L.take i) : Nat) ∧ t8 = .int .i64 i ∧ i ≤ L.length ∧ Hid (Below w.heap.size w wr)) (fun _ t8 _ => L.length - (intOf t8).toNat)
  case atStart => exact ⟨0, by simp [totS], rfl, Nat.zero_le _, Lib.hid (Below.refl _ _)⟩
  case round =>
    obtain ⟨i, rfl, rfl, hi, HB⟩ := hrel
    by_cases hlt : i < L.length
    · have f1 : decide ((i : Int) < (L.length : Int)) = true := decide_eq_true (by omega)
      obtain ⟨e, he⟩ : ∃ e, L[i]? = some e := ⟨L[i], List.getElem?_eq_getElem hlt⟩
      obtain ⟨h0, h1⟩ := HC.out i e he
      have htk := Lib.hid (totS_take L he)
      have hle := totS_le L (i + 1)
      have hle2 : totS (L.take i) + e.s.size ≤ 9223372036854775807 := by have := htk.out; omega
      have hi0 : (i : Int) ≤ 10 := by omega
      have b0 := (HB.out.cell (p := ⟨g, i * 2, none⟩) hg).trans h0
      have b1 := (HB.out.cell (p := ⟨g, i * 2 + 1, none⟩) hg).trans h1
      have hgr : g < wr.heap.size := Nat.lt_of_lt_of_le hg HB.out.size
      generalize hQ : totS (L.take i) = Qt at *
      have hq2 : ((Qt : Int) + (e.s.size : Int)) ≤ 9223372036854775807 := by omega
      generalize hZ : e.s.size = zz at *
      clear h0 h1 he hle
      go_wp2
      go_roundw
      case rel => exact ⟨i + 1, by rw [htk.out]; go_num, by go_num, hlt, Lib.hid (below_new HB.out (Nat.le_refl _) _)⟩
      case measure => simp [intOf]; omega
    · obtain rfl : i = L.length := by omega
      have f1 : decide ((L.length : Int) < (L.length : Int)) = false := decide_eq_false (by omega)
      have hte : totS (L.take L.length) = totS L := by rw [List.take_length]
      rw [hte]
      have f2 : decide ((totS L : Int) ≤ 1500) = decide (totS L ≤ 1500) := by rw [decide_eq_decide]; omega
      generalize hQL : totS L = Qt at *
      have HQL := Lib.hid hQL
      clear hQL hte
      go_wp2
      go_ret
      exact ⟨by rw [HQL.out]; rfl, HB.out⟩
inductive Fills : List (Bool × ByteArray) → List VE → List VE → Prop
  | nil : Fills [] [] []
  | snoc {l : List (Bool × ByteArray)} {M T vs : List VE} {o : Bool} {s : ByteArray} : Fills l M T → vs.map (·.x) = docS s → Fills (l ++ [(o, s)]) (putS 1 o vs M) (putS 2 o vs T)
def srcOf (e : SR) : Bool × ByteArray := (e.over, e.s)
set_option maxHeartbeats 4000000 in
set_option maxRecDepth 100000 in
theorem build_any {w0 : World} (g c : Nat) (L : List SR) (l sc rg : ByteArray) (w : World) (hg : g < w.heap.size) (hc : SrcsAt w g L) (ht : totS L ≤ 1500) (hL : L.length ≤ 10) (hr : ∀ e ∈ L, ResAt w0 e.A e.s e.c) (h0 : Below w0.heap.size w0 w) :
    Calls Tryz.prog 11 #[.agg #[.string l, .string sc, .string rg, .slice none 0 0], .slice (some ⟨g, 0, none⟩) L.length c] w fun e w' =>
      ∃ b M T, e = .returned (.pointer (some ⟨b, 0, none⟩)) ∧ w.heap.size ≤ b ∧ (0 < L.length → ∃ mb tb, BunAt w' b mb tb l sc rg M T) ∧ Fills (L.map srcOf) M T ∧ Below w.heap.size w w' := by
  have HC := Lib.hid hc
  have HR := Lib.hid hr
  have H0 := Lib.hid h0
  have hL0 : (L.length : Int) ≤ 10 := by omega
  have hN := fun W => new_any l sc rg W
  have h0z := h0.size
  clear hc hr h0
  go_enter Tryz.func11, Tryz.ntmps11
  go_wp2_with (go_at_call 13; refine (hN _).mono ?_; rintro e w1 ⟨b, rfl, hb0, hB, hbel⟩)
  have HB1 := Lib.hid hB
  have HBe := Lib.hid ((Below.refl w.heap.size w).alloc (Nat.le_refl _) (.cells #[.string l, .string sc, .string rg, .slice none 0 0] 42) |>.trans (hbel.mono (by simp)))
  have hb0' : w.heap.size < b := by have : (w.alloc (.cells #[.string l, .string sc, .string rg, .slice none 0 0] 42)).heap.size ≤ b := hb0; simp at this; omega
  clear hB hbel hN hb0
  go_loopw [12] (fun t12 wr => ∃ (i : Nat) (M T : List VE), t12 = .int .i64 i ∧ i ≤ L.length ∧ Hid (BunIs wr b l sc rg M T) ∧ Hid (0 < i → ∃ mb tb, BunAt wr b mb tb l sc rg M T) ∧ Hid (Fills ((L.take i).map srcOf) M T) ∧ Hid (Below w.heap.size w wr)) (fun t12 _ => L.length - (intOf t12).toNat)
  case atStart => exact ⟨0, [], [], rfl, Nat.zero_le _, Lib.hid (.inl ⟨HB1.out, rfl, rfl⟩), Lib.hid (fun h => absurd h (by omega)), Lib.hid Fills.nil, HBe⟩
  case round =>
    obtain ⟨i, M, T, rfl, hi, HI, HI2, HF, HBl⟩ := hrel
    by_cases hlt : i < L.length
    · have f1 : decide ((i : Int) < (L.length : Int)) = true := decide_eq_true (by omega)
      obtain ⟨e, he⟩ : ∃ e, L[i]? = some e := ⟨L[i], List.getElem?_eq_getElem hlt⟩
      obtain ⟨h0, h1⟩ := HC.out i e he
      have hmem := List.mem_of_getElem? he
      have hes : e.s.size ≤ 1500 := by have := totS_mem hmem; omega
      have hi0 : (i : Int) ≤ 10 := by omega
      have b0 := (HBl.out.cell (p := ⟨g, i * 2, none⟩) hg).trans h0
      have b1 := (HBl.out.cell (p := ⟨g, i * 2 + 1, none⟩) hg).trans h1
      have hgr : g < wr.heap.size := Nat.lt_of_lt_of_le hg HBl.out.size
      have HAd := Lib.hid (fun W (hW : Below wr.heap.size wr W) => addB_any (w0 := w0) (HR.out e hmem) hes b e.over l sc rg M T W ((H0.out.trans (HBl.out.mono h0z)).trans (hW.mono (by have := HBl.out.size; omega))) (by omega) (HI.out.later hW))
      have HTk := Lib.hid (show (L.take (i + 1)).map srcOf = (L.take i).map srcOf ++ [(e.over, e.s)] by
        rw [List.take_add_one, he, List.map_append]; rfl)
      obtain ⟨EA, ES, EC, EO⟩ := e
      dsimp only at *
      generalize hZ : ES.size = zz at *
      have HZ := Lib.hid hZ
      clear h0 h1 he hZ hes hmem
      have HBx := Lib.hid ((Below.refl wr.heap.size wr).alloc (Nat.le_refl _) (.cells #[.slice EA zz EC, .bool EO] 38))
      go_wp2_with (go_at_call 14; refine (HAd.out _ HBx.out).mono ?_; rintro e w2 ⟨vs, A', c', hvs, hbn, rfl, hbl⟩)
      have HV := Lib.hid hvs
      have HN := Lib.hid hbn
      have HL := Lib.hid hbl
      clear hvs hbn hbl
      go_wp2_with fail
      go_roundw
      case rel =>
        refine ⟨i + 1, _, _, by go_num, hlt, Lib.hid (.inr HN.out), Lib.hid (fun _ => HN.out), Lib.hid (by rw [HTk.out]; exact Fills.snoc HF.out HV.out), Lib.hid ((below_new HBl.out (Nat.le_refl _) _).trans (HL.out.mono (by omega)))⟩
      case measure => simp [intOf]; omega
    · obtain rfl : i = L.length := by omega
      have f1 : decide ((L.length : Int) < (L.length : Int)) = false := decide_eq_false (by omega)
      have HF2 := Lib.hid (show Fills (L.map srcOf) M T by have := HF.out; rw [List.take_length] at this; exact this)
      go_wp2
      go_ret
      exact ⟨b, M, T, rfl, by omega, HI2.out, HF2.out, HBl.out⟩
theorem fills_snoc {K : List (Bool × ByteArray)} {M T : List VE} (h : Fills K M T) {l : List (Bool × ByteArray)} {o : Bool} {s : ByteArray} (e : K = l ++ [(o, s)]) : ∃ M' T' vs, Fills l M' T' ∧ vs.map (·.x) = docS s ∧ M = putS 1 o vs M' ∧ T = putS 2 o vs T' := by
  cases h with
  | nil => simp at e
  | snoc h1 h2 =>
    obtain ⟨e1, e2⟩ := List.append_inj' e rfl
    simp at e2
    obtain ⟨rfl, rfl⟩ := e2
    subst e1
    exact ⟨_, _, _, h1, h2, rfl, rfl⟩
theorem fills_nil {M T : List VE} (h : Fills [] M T) : M = [] ∧ T = [] := by
  generalize e : ([] : List (Bool × ByteArray)) = K at h
  cases h with
  | nil => exact ⟨rfl, rfl⟩
  | snoc h1 h2 => simp at e
theorem fills_one {o : Bool} {s : ByteArray} {M T : List VE} (h : Fills [(o, s)] M T) : ∃ vs, vs.map (·.x) = docS s ∧ M = putS 1 o vs [] ∧ T = putS 2 o vs [] := by
  obtain ⟨M', T', vs, h1, h2, h3, h4⟩ := fills_snoc h (l := []) rfl
  obtain ⟨rfl, rfl⟩ := fills_nil h1
  exact ⟨vs, h2, h3, h4⟩
theorem fills_two {o1 o2 : Bool} {s1 s2 : ByteArray} {M T : List VE} (h : Fills [(o1, s1), (o2, s2)] M T) : ∃ vs1 vs2, vs1.map (·.x) = docS s1 ∧ vs2.map (·.x) = docS s2 ∧ M = putS 1 o2 vs2 (putS 1 o1 vs1 []) ∧ T = putS 2 o2 vs2 (putS 2 o1 vs1 []) := by
  obtain ⟨M', T', vs, h1, h2, h3, h4⟩ := fills_snoc h (l := [(o1, s1)]) rfl
  obtain ⟨vs1, k1, rfl, rfl⟩ := fills_one h1
  exact ⟨vs1, vs, k1, h2, h3, h4⟩
theorem find_look (n : ByteArray) (M : List VE) : ∃ r, Instr.findNow .string (.string n) (mapOf M).toList 0 = some r ∧ r.map (·.2) = (lookL n M).map (·.v) := by
  rw [mapOf_V]
  refine ⟨_, find_map n _, ?_⟩
  rw [lookI_V]
  induction M with
  | nil => rfl
  | cons y M ih =>
    rw [List.map_cons, lookV, lookL]
    split
    · rfl
    · exact ih
theorem message_is {w : World} {b mb tb : Nat} {l sc rg : ByteArray} {M T : List VE} (h : BunAt w b mb tb l sc rg M T) {n : ByteArray} {x : EN} {A B : Option Addr} {c d : Nat} (hl : lookL n M = some ⟨x, A, c, B, d⟩) :
    Calls Tryz.prog 15 #[.pointer (some ⟨b, 0, none⟩), .string n] w fun e w' => e = .returned (.tuple #[.agg #[.int .i64 x.ty, .int .i64 x.lv, .string x.tx, .string x.nm, .slice A x.val.length c, .slice B x.ats.length d, .int .i64 x.fr, .int .i64 x.tu], .bool true]) ∧ Below w.heap.size w w' := by
  obtain ⟨r, h1, h2⟩ := find_look n M
  rw [hl] at h2
  have h3 : r.isSome = true := by cases r with | none => cases h2 | some p => rfl
  have := message_any b mb M.length (mapOf M) l sc rg n _ r _ _ _ _ _ _ _ _ _ _ _ _ w h.box h.mm h1 (by rw [h2]; rfl)
  rw [h3] at this
  exact this
theorem message_no {w : World} {b mb tb : Nat} {l sc rg : ByteArray} {M T : List VE} (h : BunAt w b mb tb l sc rg M T) {n : ByteArray} (hl : lookL n M = none) :
    Calls Tryz.prog 15 #[.pointer (some ⟨b, 0, none⟩), .string n] w fun e w' => e = .returned (.tuple #[.agg #[.int .i64 0, .int .i64 0, .string ⟨#[]⟩, .string ⟨#[]⟩, .slice none 0 0, .slice none 0 0, .int .i64 0, .int .i64 0], .bool false]) ∧ Below w.heap.size w w' := by
  obtain ⟨r, h1, h2⟩ := find_look n M
  rw [hl] at h2
  have h3 : r.isSome = false := by cases r with | none => rfl | some p => cases h2
  have := message_any b mb M.length (mapOf M) l sc rg n _ r _ _ _ _ _ _ _ _ _ _ _ _ w h.box h.mm h1 (by rw [h2]; rfl)
  rw [h3] at this
  exact this
end Go.Proofs.YtamghpleajbonaaGreatDoor

namespace Go.Proofs.YtamghpleajbonaaGreatDoor
open Go.RowKit Go.ChangeMaps
set_option linter.unusedVariables false
set_option linter.unusedSimpArgs false
theorem srcs_new2 (w : World) (A : Option Addr) (s : ByteArray) (c : Nat) (o : Bool) (A' : Option Addr) (s' : ByteArray) (c' : Nat) (o' : Bool) :
    SrcsAt (w.alloc (.cells #[.slice A s.size c, .bool o, .slice A' s'.size c', .bool o'] 38)) w.heap.size [⟨A, s, c, o⟩, ⟨A', s', c', o'⟩] := by
  have hb : BoxAt (w.alloc (.cells #[.slice A s.size c, .bool o, .slice A' s'.size c', .bool o'] 38)) w.heap.size #[.slice A s.size c, .bool o, .slice A' s'.size c', .bool o'] 38 := BoxAt.new _ _ _
  intro j e h
  match j, h with
  | 0, h => simp at h; subst h; exact ⟨hb.cell 0, hb.cell 1⟩
  | 1, h => simp at h; subst h; exact ⟨hb.cell 2, hb.cell 3⟩
theorem nodup_nil9 : (nms []).Nodup := List.nodup_nil
theorem allok_put {ty : Int} {o : Bool} {s : ByteArray} {vs L : List VE} (hs : s.size ≤ 1500) (hv : vs.map (·.x) = docS s) (hL : ∀ e ∈ L, EnOk e.x) : ∀ e ∈ putS ty o vs L, EnOk e.x :=
  putS_all ty o (fun e => EnOk e.x) vs L (fun e he => (doc_ok hs).1 e.x (by rw [← hv]; exact List.mem_map.2 ⟨e, he, rfl⟩)) hL
theorem len_put {ty : Int} {o : Bool} {s : ByteArray} {vs L : List VE} (hs : s.size ≤ 1500) (hv : vs.map (·.x) = docS s) : (putS ty o vs L).length ≤ L.length + 6000 := by
  have h1 := putS_len ty o vs L
  have h2 := (doc_ok hs).2
  rw [← hv, List.length_map] at h2
  omega
theorem mem_doc {ty : Int} {n : ByteArray} {s : ByteArray} {vs : List VE} (hv : vs.map (·.x) = docS s) : (∃ e ∈ vs, e.x.ty = ty ∧ e.x.nm = n) ↔ ∃ x ∈ docS s, x.ty = ty ∧ x.nm = n := by
  rw [← hv]
  constructor
  · rintro ⟨e, he, h⟩
    exact ⟨e.x, List.mem_map.2 ⟨e, he, rfl⟩, h⟩
  · rintro ⟨x, hx, h⟩
    obtain ⟨e, he, rfl⟩ := List.mem_map.1 hx
    exact ⟨e, he, h⟩
theorem TsF.at9 {W : World} {F : Nat → Prop} (g : ∀ b, F b → b < W.heap.size) : ∀ (l : List AT) (b o : Nat), TsF W F l b o → TsAt W l b o
  | [], b, o, _ => by rw [TsAt]; trivial
  | .mk n v :: r, b, o, h => by
    rw [TsF] at h
    rw [TsAt]
    obtain ⟨hb, h1, ⟨u, h3, h5⟩, h4⟩ := h
    exact ⟨g b hb, h1, ⟨u, h3, LieAt.imp h5 (fun b o => EsF.at_ g v b o)⟩, TsF.at9 g r b _ h4⟩
theorem AtsF.at9 {W : World} {F : Nat → Prop} (g : ∀ b, F b → b < W.heap.size) {l : List AT} {v : Value} (h : AtsF W F l v) : LieAt (TsAt W l) v l.length := LieAt.imp h (fun b o => TsF.at9 g l b o)
theorem PatF.at9 {W : World} {F : Nat → Prop} (g : ∀ b, F b → b < W.heap.size) {l : List EL} {v : Value} (h : PatF W F l v) : PatAt W l v := LieAt.imp h (fun b o => EsF.at_ g l b o)
set_option maxHeartbeats 16000000 in
set_option maxRecDepth 100000 in
theorem lawOver (Aa : Option Addr) (sa : ByteArray) (ca : Nat) (Ab : Option Addr) (sb : ByteArray) (cb : Nat) (w0 : World) (ha : ResAt w0 Aa sa ca) (hb : ResAt w0 Ab sb cb) (hsz : sa.size + sb.size ≤ 9223372036854775807) :
    Calls Tryz.prog 4 #[.slice Aa sa.size ca, .slice Ab sb.size cb] w0 fun e w' => e = .returned (.bool true) ∧ Below w0.heap.size w0 w' := by
  have HA := Lib.hid ha
  have HB := Lib.hid hb
  clear ha hb
  go_enter Tryz.func4, Tryz.ntmps4
  go_wp2_with fail
  go_at_call 6
  refine (head15_any _).mono ?_
  rintro e w1 ⟨rfl, b1⟩
  have B1 := Lib.hid b1
  clear b1
  go_wp2_with fail
  go_at_call 10
  refine (few_any w1.heap.size 2 [⟨Aa, sa, ca, false⟩, ⟨Ab, sb, cb, false⟩] _ (by simp) (srcs_new2 w1 Aa sa ca false Ab sb cb false) (by simp only [totS]; omega) (by simp)).mono ?_
  rintro e w2 ⟨rfl, b2⟩
  have B2 := Lib.hid ((below_new B1.out (Nat.le_refl _) (.cells #[.slice Aa sa.size ca, .bool false, .slice Ab sb.size cb, .bool false] 38)).trans (b2.mono (by have := B1.out.size; simp; omega)))
  clear b2 B1
  by_cases ht : totS [⟨Aa, sa, ca, false⟩, ⟨Ab, sb, cb, false⟩] ≤ 1500
  case neg =>
    have f0 : decide (totS [⟨Aa, sa, ca, false⟩, ⟨Ab, sb, cb, false⟩] ≤ 1500) = false := decide_eq_false ht
    go_wp2
    go_ret
    exact ⟨rfl, B2.out⟩
  have f0 : decide (totS [⟨Aa, sa, ca, false⟩, ⟨Ab, sb, cb, false⟩] ≤ 1500) = true := decide_eq_true ht
  have ht2 : sa.size + sb.size ≤ 1500 := by simp only [totS] at ht; omega
  have hsa : sa.size ≤ 1500 := by omega
  have hsb : sb.size ≤ 1500 := by omega
  have HT := Lib.hid ht2
  have HSA := Lib.hid hsa
  have HSB := Lib.hid hsb
  rw [f0]
  clear ht ht2 f0 hsa hsb
  have hw2 := B2.out.size
  have T2 := Lib.hid (BoxAt.new w2 #[.string ⟨#[101, 110]⟩, .string ⟨#[]⟩, .string ⟨#[]⟩, .slice none 0 0] 42)
  go_wp2_with fail
  go_at_call 11
  have T3a := Lib.hid (T2.out.alloc (.cells #[.slice Aa sa.size ca, .bool false, .slice Ab sb.size cb, .bool false] 38))
  have B3a := Lib.hid (below_new (below_new B2.out (Nat.le_refl _) (.cells #[.string ⟨#[101, 110]⟩, .string ⟨#[]⟩, .string ⟨#[]⟩, .slice none 0 0] 42)) (Nat.le_refl _) (.cells #[.slice Aa sa.size ca, .bool false, .slice Ab sb.size cb, .bool false] 38))
  have eV : (w2.alloc (.cells #[.string ⟨#[101, 110]⟩, .string ⟨#[]⟩, .string ⟨#[]⟩, .slice none 0 0] 42)).heap.size = w2.heap.size + 1 := by simp
  have HS3 := srcs_new2 (w2.alloc (.cells #[.string ⟨#[101, 110]⟩, .string ⟨#[]⟩, .string ⟨#[]⟩, .slice none 0 0] 42)) Aa sa ca false Ab sb cb false
  rw [eV] at HS3
  generalize w2.alloc (.cells #[.string ⟨#[101, 110]⟩, .string ⟨#[]⟩, .string ⟨#[]⟩, .slice none 0 0] 42) = V at *
  refine (build_any (w0 := w0) (w2.heap.size + 1) 2 [⟨Aa, sa, ca, false⟩, ⟨Ab, sb, cb, false⟩] _ _ _ _ (by simp; omega) HS3 (by have := HT.out; simp only [totS]; omega) (by simp) (fun e he => by
    rcases List.mem_cons.1 he with rfl | he
    · exact HA.out
    · rw [List.mem_singleton] at he; subst he; exact HB.out) B3a.out).mono ?_
  rintro e w3 ⟨bo, M1, T1, rfl, hbo, hbun, hf, b3⟩
  obtain ⟨mb1, tb1, hO⟩ := hbun (by simp)
  obtain ⟨va, vb, hva, hvb, eM1, _⟩ := fills_two hf
  have HO3 := Lib.hid hO
  have B3 := Lib.hid (B3a.out.trans (b3.mono B3a.out.size))
  have T3 := Lib.hid (T3a.out.later b3)
  have HM1 := Lib.hid eM1
  have HVA := Lib.hid hva
  have HVB := Lib.hid hvb
  have hbo0 : w0.heap.size ≤ bo := Nat.le_trans B3a.out.size hbo
  have hw23 : w2.heap.size < w3.heap.size := T3.out.lt
  clear hO hbun hf b3 eM1 hva hvb HS3 eV T2 T3a B3a hbo B2
  obtain ⟨t0, t1, t2, t3⟩ : w3.cell? ⟨w2.heap.size, 0, none⟩ = some (.string ⟨#[101, 110]⟩) ∧ w3.cell? ⟨w2.heap.size, 1, none⟩ = some (.string ⟨#[]⟩) ∧ w3.cell? ⟨w2.heap.size, 2, none⟩ = some (.string ⟨#[]⟩) ∧ w3.cell? ⟨w2.heap.size, 3, none⟩ = some (.slice none 0 0) := ⟨T3.out.cell 0, T3.out.cell 1, T3.out.cell 2, T3.out.cell 3⟩
  go_wp2_with fail
  go_at_call 11
  have HS4 := srcs_new2 w3 Ab sb cb true Aa sa ca true
  have B4a := Lib.hid (below_new B3.out (Nat.le_refl _) (.cells #[.slice Ab sb.size cb, .bool true, .slice Aa sa.size ca, .bool true] 38))
  refine (build_any (w0 := w0) w3.heap.size 2 [⟨Ab, sb, cb, true⟩, ⟨Aa, sa, ca, true⟩] _ _ _ _ (by simp) HS4 (by have := HT.out; simp only [totS]; omega) (by simp) (fun e he => by
    rcases List.mem_cons.1 he with rfl | he
    · exact HB.out
    · rw [List.mem_singleton] at he; subst he; exact HA.out) B4a.out).mono ?_
  rintro e w4 ⟨bt, M2, T2, rfl, hbt, hbun, hf, b4⟩
  obtain ⟨mb2, tb2, hW⟩ := hbun (by simp)
  obtain ⟨ub, ua, hub, hua, eM2, _⟩ := fills_two hf
  have b4' := Lib.hid ((Below.refl w3.heap.size w3).alloc (Nat.le_refl _) (.cells #[.slice Ab sb.size cb, .bool true, .slice Aa sa.size ca, .bool true] 38) |>.trans (b4.mono (by simp)))
  have HW4 := Lib.hid hW
  have B4 := Lib.hid (B4a.out.trans (b4.mono B4a.out.size))
  have T4 := Lib.hid (T3.out.later b4'.out)
  have HO4 := Lib.hid (HO3.out.later b4'.out)
  have HM2 := Lib.hid eM2
  have HUA := Lib.hid hua
  have HUB := Lib.hid hub
  have hw34 := b4'.out.size
  clear hW hbun hf b4 eM2 hua hub HS4 b4' B4a T3 HO3 B3 t0 t1 t2 t3
  -- the names of the one are those of the other
  have hd1 : (nms M1).Nodup := by rw [HM1.out]; exact putS_nodup _ _ _ _ (putS_nodup _ _ _ _ nodup_nil9)
  have hd2 : (nms M2).Nodup := by rw [HM2.out]; exact putS_nodup _ _ _ _ (putS_nodup _ _ _ _ nodup_nil9)
  have ok1 : ∀ e ∈ M1, EnOk e.x := by rw [HM1.out]; exact allok_put HSB.out HVB.out (allok_put HSA.out HVA.out (fun e h => by simp at h))
  have ok2 : ∀ e ∈ M2, EnOk e.x := by rw [HM2.out]; exact allok_put HSA.out HUA.out (allok_put HSB.out HUB.out (fun e h => by simp at h))
  have hl1 : M1.length ≤ 1000000 := by
    rw [HM1.out]
    have k1 := len_put (ty := 1) (o := false) (L := putS 1 false va []) HSB.out HVB.out
    have k2 := len_put (ty := 1) (o := false) (L := []) HSA.out HVA.out
    simp at k2
    omega
  have hpm : (nms M1).Perm (nms M2) := (List.perm_ext_iff_of_nodup hd1 hd2).2 fun n => by
    rw [HM1.out, HM2.out, putS_mem, putS_mem, putS_mem, putS_mem, mem_doc HVA.out, mem_doc HVB.out, mem_doc HUA.out, mem_doc HUB.out]
    constructor
    · rintro ((h | h) | h)
      · exact .inl (.inl h)
      · exact .inr h
      · exact .inl (.inr h)
    · rintro ((h | h) | h)
      · exact .inl (.inl h)
      · exact .inr h
      · exact .inl (.inr h)
  have hlen : M2.length = M1.length := by have := hpm.length_eq; unfold nms at this; rw [List.length_map, List.length_map] at this; exact this.symm
  have N1 := fun W (h : Below w4.heap.size w4 W) => names_bun (HO4.out.later h) hd1 ok1 hl1
  have N2 := fun W (h : Below w4.heap.size w4 W) => names_bun (HW4.out.later h) hd2 ok2 (by rw [hlen]; exact hl1)
  rw [hlen, ← sortN_perm hpm] at N2
  have hXm : ∀ i, i < M1.length → ∃ x, (sortN (nms M1))[i]? = some x ∧ x ∈ nms M1 := fun i hi => by
    have hp := sortN_mem (nms M1)
    have hl : (sortN (nms M1)).length = M1.length := by rw [hp.length_eq]; unfold nms; rw [List.length_map]
    refine ⟨(sortN (nms M1))[i]'(by omega), List.getElem?_eq_getElem _, ?_⟩
    exact hp.mem_iff.1 (List.getElem_mem _)
  have HN1 := Lib.hid N1
  have HN2 := Lib.hid N2
  have HXM := Lib.hid hXm
  have HOK1 := Lib.hid ok1
  have hl0 : (M1.length : Int) ≤ 1000000 := by omega
  clear N1 N2 hXm hd1 hd2 ok1 ok2 hpm hlen
  generalize sortN (nms M1) = X at *
  go_wp2_with fail
  go_at_call 12
  refine (HN1.out _ (Below.refl _ _)).mono ?_
  rintro e w5 ⟨g1, cap1, rfl, hc1, ⟨_, hg1⟩, b5⟩
  have C5 := Lib.hid hc1
  have B5 := Lib.hid b5
  clear hc1 b5
  go_wp2_with fail
  go_at_call 12
  refine (HN2.out _ B5.out).mono ?_
  rintro e w6 ⟨g2, cap2, rfl, hc2, ⟨_, hg2⟩, b6⟩
  have D6 := Lib.hid hc2
  have B6 := Lib.hid (B5.out.trans (b6.mono B5.out.size))
  have C6 := Lib.hid (fun i x (h : X[i]? = some x) => (b6.cell (p := ⟨g1, i, none⟩) hg1).trans (C5.out i x h))
  have hg1' := Nat.lt_of_lt_of_le hg1 b6.size
  have T6 := Lib.hid (T4.out.later B6.out)
  clear hc2 b6 C5 B5 hg1 T4 HN1 HN2
  obtain ⟨t0, t1, t2, t3⟩ : w6.cell? ⟨w2.heap.size, 0, none⟩ = some (.string ⟨#[101, 110]⟩) ∧ w6.cell? ⟨w2.heap.size, 1, none⟩ = some (.string ⟨#[]⟩) ∧ w6.cell? ⟨w2.heap.size, 2, none⟩ = some (.string ⟨#[]⟩) ∧ w6.cell? ⟨w2.heap.size, 3, none⟩ = some (.slice none 0 0) := ⟨T6.out.cell 0, T6.out.cell 1, T6.out.cell 2, T6.out.cell 3⟩
  have hw26 := T6.out.lt
  go_wp2_with fail
  go_at_call 13
  refine (new_any _ _ _ _).mono ?_
  rintro e w7 ⟨bf, rfl, hbf, hBx, b7⟩
  have B7 := Lib.hid (B6.out.trans (b7.mono B6.out.size))
  have HX7 := Lib.hid hBx
  have C7 := Lib.hid (fun i x (h : X[i]? = some x) => (b7.cell (p := ⟨g1, i, none⟩) hg1').trans (C6.out i x h))
  have D7 := Lib.hid (fun i x (h : X[i]? = some x) => (b7.cell (p := ⟨g2, i, none⟩) hg2).trans (D6.out i x h))
  have hw47 := B7.out.size
  have hw46 := B6.out.size
  have hbf7 := hBx.lt
  clear hBx b7 C6 D6 T6 t0 t1 t2 t3
  go_wp2_with fail
  go_at_call 14
  refine (addB_any (w0 := w0) HA.out HSA.out bf false _ _ _ [] [] w7 (B4.out.trans (B7.out.mono B4.out.size)) (by have := B4.out.size; omega) (.inl ⟨HX7.out, rfl, rfl⟩)).mono ?_
  rintro e w8 ⟨vf, A8, c8, hvf, ⟨mbf, tbf, hF⟩, rfl, b8⟩
  have HF8 := Lib.hid hF
  have HVF := Lib.hid hvf
  have B8 := Lib.hid (B7.out.trans (b8.mono (by omega)))
  have C8 := Lib.hid (fun i x (h : X[i]? = some x) => (b8.cell (p := ⟨g1, i, none⟩) (by show g1 < bf; omega)).trans (C7.out i x h))
  have D8 := Lib.hid (fun i x (h : X[i]? = some x) => (b8.cell (p := ⟨g2, i, none⟩) (by show g2 < bf; omega)).trans (D7.out i x h))
  have hg18 : g1 < w8.heap.size := by have := B8.out.size; have := b8.size; omega
  have hg28 : g2 < w8.heap.size := by have := B8.out.size; have := b8.size; omega
  have HO8 := Lib.hid (HO4.out.later B8.out)
  have BW := Lib.hid (B4.out.trans (B8.out.mono B4.out.size))
  clear hF hvf b8 C7 D7 HX7 B7 B6 HW4 HO4 B8
  generalize hvj : (addS false vf ⟨[], [], [], 0⟩).tw.length = tl at *
  generalize hvk : (addS false vf ⟨[], [], [], 0⟩).jk = jl at *
  clear hvj hvk
  generalize hFM : putS 1 false vf [] = MF at *
  generalize hFT : putS 2 false vf [] = TF at *
  have HFM := Lib.hid hFM
  have hlk : ∀ (x : ByteArray) (p q : VE), lookL x M1 = some p → lookL x MF = some q → p.x = q.x := fun x p q hp hq => by
    have e1 := look_kept 1 x vf []
    rw [HFM.out, HVF.out, hq] at e1
    have e2 := look_kept 1 x vb (putS 1 false va [])
    rw [← HM1.out, hp, look_kept 1 x va [], HVA.out] at e2
    have e3 : (lookL x ([] : List VE)).map (·.x) = none := rfl
    rw [e3] at e1 e2
    simp only [Option.none_or] at e1 e2
    rw [← e1] at e2
    simp only [Option.map_some, Option.some_or, Option.some.injEq] at e2
    exact e2
  have HLK := Lib.hid hlk
  clear hFM hFT hlk
  go_wp2_with fail
  go_loopw [57] (fun t57 wr => ∃ i : Nat, t57 = .int .i64 i ∧ i ≤ M1.length ∧ Hid (Below w8.heap.size w8 wr)) (fun t57 _ => M1.length - (intOf t57).toNat)
  case atStart => exact ⟨0, rfl, Nat.zero_le _, Lib.hid (Below.refl _ _)⟩
  case round =>
    obtain ⟨i, rfl, hi, HBl⟩ := hrel
    have hi0 : (i : Int) ≤ 1000000 := by omega
    by_cases hlt : i < M1.length
    · have f1 : decide ((i : Int) < (M1.length : Int)) = true := decide_eq_true (by omega)
      have f2 : (i : Int) < (M1.length : Int) := by omega
      obtain ⟨x, hx, hxm⟩ := HXM.out i hlt
      obtain ⟨⟨PX, PA, PC, PB, PD⟩, hp, hpm, hnn⟩ := look_is hxm
      clear hnn
      have k1 := (HBl.out.cell (p := ⟨g1, i, none⟩) hg18).trans (C8.out i x hx)
      have k2 := (HBl.out.cell (p := ⟨g2, i, none⟩) hg28).trans (D8.out i x hx)
      have hgr1 : g1 < wr.heap.size := Nat.lt_of_lt_of_le hg18 HBl.out.size
      have hgr2 : g2 < wr.heap.size := Nat.lt_of_lt_of_le hg28 HBl.out.size
      have zx : (x.toList != x.toList) = false := bne_self_eq_false _
      have HMp := Lib.hid (fun W (h : Below wr.heap.size wr W) => message_is ((HO8.out.later HBl.out).later h) hp)
      have hOk := HOK1.out _ hpm
      have HPt := Lib.hid (HO8.out.later HBl.out |>.tr _ (.inl hpm))
      clear hpm hxm
      go_wp2_with fail
      go_at_call 15
      refine (HMp.out _ (by first | exact Below.refl _ _ | exact (Below.refl _ _).drew)).mono ?_
      rintro e w9 ⟨rfl, b9⟩
      have E9 := Lib.hid (BoxAt.new w9 #[.int .i64 PX.ty, .int .i64 PX.lv, .string PX.tx, .string PX.nm, .slice PA PX.val.length PC, .slice PB PX.ats.length PD, .int .i64 PX.fr, .int .i64 PX.tu] 26)
      have b9' : Below wr.heap.size wr w9 := by first | exact b9 | exact (Below.refl _ _).drew.trans b9
      have B9 := Lib.hid b9'
      clear b9 b9' k1 k2
      cases hq : lookL x MF with
      | none =>
        have HMq := Lib.hid (fun W (h : Below wr.heap.size wr W) => message_no ((HF8.out.later HBl.out).later h) hq)
        clear hq hp
        go_wp2_with fail
        go_at_call 15
        refine (HMq.out _ (below_new B9.out (Nat.le_refl _) _)).mono ?_
        rintro e w10 ⟨rfl, b10⟩
        have B10 := Lib.hid ((below_new B9.out (Nat.le_refl _) (.cells #[.int .i64 PX.ty, .int .i64 PX.lv, .string PX.tx, .string PX.nm, .slice PA PX.val.length PC, .slice PB PX.ats.length PD, .int .i64 PX.fr, .int .i64 PX.tu] 26)).trans (b10.mono (Nat.le_trans B9.out.size (by simp))))
        clear b10
        go_wp2_with fail
        refine ⟨⟨i + 1, by go_num, hlt, Lib.hid (HBl.out.trans ((below_new B10.out (Nat.le_refl _) _).mono HBl.out.size))⟩, by simp [intOf]; omega⟩
      | some q =>
        obtain ⟨QX, QA, QC, QB, QD⟩ := q
        obtain rfl : PX = QX := HLK.out x _ _ hp hq
        have HMq := Lib.hid (fun W (h : Below wr.heap.size wr W) => message_is ((HF8.out.later HBl.out).later h) hq)
        have hqm := (look_some hq).1
        have hq2 := HF8.out.later HBl.out |>.tr _ (.inl hqm)
        have HE := fun W (h : Below wr.heap.size wr W) => entry_same (W0 := wr) PX.ty PX.lv PX.tx PX.nm PX.val PX.ats PX.fr PX.tu PX.fr PX.tu (PatF.at9 (fun k hk => hk.1) HPt.out.1) (PatF.at9 (fun k hk => hk.1) hq2.1) (AtsF.at9 (fun k hk => hk.1) HPt.out.2) (AtsF.at9 (fun k hk => hk.1) hq2.2) (by have := hOk.sz; omega) (by have := hOk.sz; omega) W h
        unfold entV at HE
        have HEE := Lib.hid HE
        clear hq hp HE hq2 hqm
        go_wp2_with fail
        go_at_call 15
        refine (HMq.out _ (below_new B9.out (Nat.le_refl _) _)).mono ?_
        rintro e w10 ⟨rfl, b10⟩
        have B10 := Lib.hid ((below_new B9.out (Nat.le_refl _) (.cells #[.int .i64 PX.ty, .int .i64 PX.lv, .string PX.tx, .string PX.nm, .slice PA PX.val.length PC, .slice PB PX.ats.length PD, .int .i64 PX.fr, .int .i64 PX.tu] 26)).trans (b10.mono (Nat.le_trans B9.out.size (by simp))))
        have E10 := Lib.hid (E9.out.later b10)
        have hw910 : w9.heap.size < w10.heap.size := E10.out.lt
        clear b10 E9
        obtain ⟨q0, q1, q2, q3, q4, q5, q6, q7, _⟩ := cellsE E10.out
        have B11 := Lib.hid (below_new B10.out (Nat.le_refl _) (.cells #[.int .i64 PX.ty, .int .i64 PX.lv, .string PX.tx, .string PX.nm, .slice QA PX.val.length QC, .slice QB PX.ats.length QD, .int .i64 PX.fr, .int .i64 PX.tu] 26))
        go_wp2_with fail
        go_at_call 9
        refine (HEE.out _ (by first | exact B11.out | exact B11.out.drew)).mono ?_
        rintro e w11 ⟨rfl, b11⟩
        all_goals
          have b11' : Below wr.heap.size wr w11 := by first | exact B11.out.trans (b11.mono B11.out.size) | exact B11.out.drew.trans (b11.mono B11.out.size)
          have B12 := Lib.hid b11'
          clear b11 b11'
          go_wp2_with fail
          refine ⟨⟨i + 1, by go_num, hlt, Lib.hid (HBl.out.trans (B12.out.mono HBl.out.size))⟩, by simp [intOf]; omega⟩
    · obtain rfl : i = M1.length := by omega
      have f1 : decide ((M1.length : Int) < (M1.length : Int)) = false := decide_eq_false (by omega)
      go_wp2
      go_ret
      exact ⟨rfl, BW.out.trans (HBl.out.mono BW.out.size)⟩
end Go.Proofs.YtamghpleajbonaaGreatDoor

namespace Go.Proofs.YtamghpleajbonaaGreatDoor
open Go.RowKit Go.ChangeMaps
set_option linter.unusedVariables false
set_option linter.unusedSimpArgs false
theorem vs_of {w2 : World} {B : Nat} {l : List EN} {A' : Option Addr} {c' : Nat} (h : ListF w2 (Since B w2) l (.slice A' l.length c')) : ∃ vs : List VE, vs.map (·.x) = l ∧
    (∀ e ∈ vs, PatF w2 (Since B w2) e.x.val (.slice e.A e.x.val.length e.c) ∧ AtsF w2 (Since B w2) e.x.ats (.slice e.B e.x.ats.length e.d)) ∧
      (0 < l.length → ∃ bq oq, A' = some ⟨bq, oq, none⟩ ∧ B ≤ bq ∧ bq < w2.heap.size ∧ ∀ j e, vs[j]? = some e → w2.cell? ⟨bq, oq + j * 8, none⟩ = some (.int .i64 e.x.ty) ∧ w2.cell? ⟨bq, oq + j * 8 + 1, none⟩ = some (.int .i64 e.x.lv) ∧ w2.cell? ⟨bq, oq + j * 8 + 2, none⟩ = some (.string e.x.tx) ∧ w2.cell? ⟨bq, oq + j * 8 + 3, none⟩ = some (.string e.x.nm) ∧
    w2.cell? ⟨bq, oq + j * 8 + 4, none⟩ = some (.slice e.A e.x.val.length e.c) ∧ w2.cell? ⟨bq, oq + j * 8 + 5, none⟩ = some (.slice e.B e.x.ats.length e.d) ∧ w2.cell? ⟨bq, oq + j * 8 + 6, none⟩ = some (.int .i64 e.x.fr) ∧ w2.cell? ⟨bq, oq + j * 8 + 7, none⟩ = some (.int .i64 e.x.tu)) := by
  by_cases h0 : 0 < l.length
  · obtain ⟨bq, oq, rfl, hN⟩ := list_at h h0
    obtain ⟨vs, h1, h2⟩ := ns_list _ oq hN
    have hF : Since B w2 bq := (NsF.get 0 hN (List.getElem?_eq_getElem h0)).1
    refine ⟨vs, h1, fun e he => ?_, fun _ => ⟨bq, oq, rfl, hF.1, hF.2, fun j e he => ?_⟩⟩
    · obtain ⟨j, hj, rfl⟩ := List.mem_iff_getElem.1 he
      obtain ⟨_, _, _, _, _, _, _, _, g1, g2⟩ := h2 j _ (List.getElem?_eq_getElem hj)
      exact ⟨g1, g2⟩
    · obtain ⟨g0, g1, g2, g3, g4, g5, g6, g7, _, _⟩ := h2 j e he
      exact ⟨g0, g1, g2, g3, g4, g5, g6, g7⟩
  · have : l = [] := List.eq_nil_of_length_eq_zero (by omega)
    subst this
    exact ⟨[], rfl, fun e he => by simp at he, fun h => absurd h h0⟩
theorem dec_doc {w0 : World} {A : Option Addr} {s : ByteArray} {c : Nat} (hr : ResAt w0 A s c) (hs : s.size ≤ 1500) (W : World) (h0 : Below w0.heap.size w0 W) :
    Calls Tryz.prog 17 #[.slice A s.size c] W fun e w' => e = .returned (.string ⟨(decAll s).toArray⟩) ∧ Below W.heap.size W w' :=
  decode_any A c s W (by omega) (fun W' hW => hr W' (h0.trans (hW.mono h0.size)))
theorem par_doc {s : ByteArray} (hs : s.size ≤ 1500) (W : World) : Calls Tryz.prog 16 #[.string ⟨(decAll s).toArray⟩] W (GotEs W (docS s)) := by
  have := dec_size s
  exact parse_call (pat_calls (by omega)) (by omega) W
abbrev KE := ByteArray × VE
def keyM (x : EN) : ByteArray := if x.ty = 2 then ⟨#[45]⟩ ++ x.nm else x.nm
def valM (K : List KE) : List (ByteArray × Value) := K.map fun p => (p.1, p.2.v)
def lookM (n : ByteArray) : List KE → Option VE
  | [] => none
  | y :: r => if y.1 = n then some y.2 else lookM n r
def putM (n : ByteArray) (e : VE) : List KE → List KE
  | [] => [(n, e)]
  | y :: r => if y.1 = n then (n, e) :: r else y :: putM n e r
def modE (e : VE) (K : List KE) : List KE := if e.x.ty = 1 ∨ e.x.ty = 2 then putM (keyM e.x) e K else K
def modS : List VE → List KE → List KE
  | [], K => K
  | e :: r, K => modS r (modE e K)
theorem put_valM (n : ByteArray) (e : VE) : ∀ K : List KE, putV n e.v (valM K) = valM (putM n e K)
  | [] => rfl
  | y :: r => by
    have h := put_valM n e r
    unfold valM at h ⊢
    rw [List.map_cons, putV, putM]
    split
    · rfl
    · rw [List.map_cons, h]
theorem look_valM (n : ByteArray) : ∀ K : List KE, lookV n (valM K) = (lookM n K).map VE.v
  | [] => rfl
  | y :: r => by
    have h := look_valM n r
    unfold valM at h ⊢
    rw [List.map_cons, lookV, lookM]
    split
    · rfl
    · exact h
theorem look_putM (n m : ByteArray) (e : VE) : ∀ K : List KE, lookM n (putM m e K) = if m = n then some e else lookM n K
  | [] => rfl
  | y :: r => by
    rw [putM]
    by_cases h : y.1 = m
    · rw [if_pos h, lookM, lookM, h]
      split <;> rfl
    · rw [if_neg h, lookM, lookM, look_putM n m e r]
      by_cases hy : y.1 = n
      · rw [if_pos hy, if_pos hy, if_neg (fun k => h (hy.trans k.symm))]
      · rw [if_neg hy, if_neg hy]
theorem putM_mem {n : ByteArray} {e : VE} : ∀ {K : List KE} {p : KE}, p ∈ putM n e K → p = (n, e) ∨ p ∈ K
  | [], p, h => by rw [putM, List.mem_singleton] at h; exact .inl h
  | y :: r, p, h => by
    rw [putM] at h
    split at h
    · rcases List.mem_cons.1 h with h | h
      · exact .inl h
      · exact .inr (List.mem_cons_of_mem _ h)
    · rcases List.mem_cons.1 h with h | h
      · exact .inr (by rw [h]; exact List.mem_cons_self ..)
      · rcases putM_mem h with h | h
        · exact .inl h
        · exact .inr (List.mem_cons_of_mem _ h)
theorem modS_mem : ∀ (vs : List VE) (K : List KE) (p : KE), p ∈ modS vs K → p ∈ K ∨ p.2 ∈ vs
  | [], K, p, h => .inl h
  | e :: r, K, p, h => by
    rw [modS] at h
    rcases modS_mem r _ p h with h | h
    · unfold modE at h
      split at h
      · rcases putM_mem h with h | h
        · exact .inr (by rw [h]; exact List.mem_cons_self ..)
        · exact .inl h
      · exact .inl h
    · exact .inr (List.mem_cons_of_mem _ h)
theorem lookM_mem {n : ByteArray} : ∀ {K : List KE} {e : VE}, lookM n K = some e → ∃ k, (k, e) ∈ K
  | y :: r, e, h => by
    rw [lookM] at h
    split at h
    · cases h; exact ⟨y.1, List.mem_cons_self ..⟩
    · obtain ⟨k, hk⟩ := lookM_mem h
      exact ⟨k, List.mem_cons_of_mem _ hk⟩
theorem look_modS {n : ByteArray} (hn : leB (at0 n.data.toList 0) = true) : ∀ (vs : List VE) (K : List KE), (∀ e ∈ vs, EnOk e.x) → (lookM n (modS vs K)).map (·.x) = lastT 1 n (vs.map (·.x)) ((lookM n K).map (·.x))
  | [], K, _ => rfl
  | e :: r, K, h => by
    rw [modS, look_modS hn r _ (fun f hf => h f (List.mem_cons_of_mem _ hf)), List.map_cons, lastT]
    congr 1
    unfold modE
    by_cases h1 : e.x.ty = 1
    · have hk : keyM e.x = e.x.nm := by unfold keyM; rw [if_neg (by omega)]
      rw [if_pos (show e.x.ty = 1 ∨ e.x.ty = 2 from .inl h1), look_putM, hk]
      by_cases hm : e.x.nm = n
      · rw [if_pos hm, if_pos (show e.x.ty = 1 ∧ e.x.nm = n from ⟨h1, hm⟩)]; rfl
      · rw [if_neg hm, if_neg (fun k => hm k.2)]
    · rw [if_neg (show ¬ (e.x.ty = 1 ∧ e.x.nm = n) from fun k => h1 k.1)]
      by_cases h2 : e.x.ty = 2
      · have hk : keyM e.x = ⟨#[45]⟩ ++ e.x.nm := by unfold keyM; rw [if_pos h2]
        rw [if_pos (show e.x.ty = 1 ∨ e.x.ty = 2 from .inr h2), look_putM, hk, if_neg]
        intro hm
        rw [← hm] at hn
        have : ((⟨#[45]⟩ : ByteArray) ++ e.x.nm).data.toList = 45 :: e.x.nm.data.toList := by simp
        rw [this] at hn
        exact absurd hn (by unfold at0; rw [List.getD_cons_zero]; decide)
      · rw [if_neg (show ¬ (e.x.ty = 1 ∨ e.x.ty = 2) from fun k => k.elim h1 h2)]
theorem modS_len : ∀ (vs : List VE) (K : List KE), (modS vs K).length ≤ K.length + vs.length
  | [], K => by rw [modS]; simp
  | e :: r, K => by
    rw [modS]
    have h1 := modS_len r (modE e K)
    have h2 : (modE e K).length ≤ K.length + 1 := by
      unfold modE
      split
      · have : ∀ K : List KE, (putM (keyM e.x) e K).length ≤ K.length + 1 := by
          intro K
          induction K with
          | nil => simp [putM]
          | cons y K ih => rw [putM]; split <;> simp <;> omega
        exact this K
      · omega
    rw [List.length_cons]
    omega
end Go.Proofs.YtamghpleajbonaaGreatDoor
