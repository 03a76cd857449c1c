/-
  Several texts put together (part 33): what the law and the program call, walked; their contracts.
-/
import Derived.Test.YtpgiboblonlddaaGreatDoorQ29
import Derived.Test.YtpgiboblonlddaaGreatDoorQ28
import Derived.Test.YtpgiboblonlddaaGreatDoorQ31
import Derived.Test.YtpgiboblonlddaaGreatDoorQ32
namespace Go.Proofs.YtpgiboblonlddaaGreatDoor
open Go.RowKit Go.ChangeMaps
set_option linter.unusedVariables false
set_option linter.unusedSimpArgs false
def docS (s : ByteArray) : List EN := parseS ⟨(decAll s).toArray⟩
structure EnOk (x : EN) : Prop where
  nm : x.nm.size ≤ 1000000
  sz : sizeEs x.val + sizeTs x.ats ≤ 1000000
  le : x.ty = 1 ∨ x.ty = 2 → leB (at0 x.nm.data.toList 0) = true ∧ 0 < x.nm.size
  ty : 0 ≤ x.ty ∧ x.ty ≤ 3
theorem dec_size (s : ByteArray) : (⟨(decAll s).toArray⟩ : ByteArray).size ≤ 4 * s.size := by
  have := decFrom_length s s.size 0
  show (decAll s).toArray.size ≤ _
  unfold decAll
  simpa using this
theorem doc_ok {s : ByteArray} (h : s.size ≤ 1500) : (∀ x ∈ docS s, EnOk x) ∧ (docS s).length ≤ 6000 := by
  have h1 := dec_size s
  obtain ⟨h2, h3⟩ := parse_good ⟨(decAll s).toArray⟩
  refine ⟨fun x hx => ?_, by unfold docS; omega⟩
  have h4 := h2 x hx
  exact ⟨by have := h4.nm; omega, by have := h4.sz; omega, h4.le, h4.ty⟩
def NotIn (W : World) (b mb tb : Nat) : Nat → Prop := fun k => k < W.heap.size ∧ k ≠ b ∧ k ≠ mb ∧ k ≠ tb
structure BunAt (W : World) (b mb tb : Nat) (l sc rg : ByteArray) (M T : List VE) : Prop where
  box : BoxAt W b (bunC l sc rg (.map (some mb)) (.map (some tb))) 115
  mm : MapAt W mb (mapOf M) M.length
  tm : MapAt W tb (mapOf T) T.length
  lo : b < mb ∧ b < tb ∧ mb ≠ tb
  tr : ∀ e, e ∈ M ∨ e ∈ T → PatF W (NotIn W b mb tb) e.x.val (.slice e.A e.x.val.length e.c) ∧ AtsF W (NotIn W b mb tb) e.x.ats (.slice e.B e.x.ats.length e.d)
theorem BunAt.later {W W' : World} {b mb tb : Nat} {l sc rg : ByteArray} {M T : List VE} (h : BunAt W b mb tb l sc rg M T) (g : Below W.heap.size W W') : BunAt W' b mb tb l sc rg M T :=
  ⟨h.box.later g, h.mm.later g, h.tm.later g, h.lo, fun e he => by
    obtain ⟨h1, h2⟩ := h.tr e he
    have hc : ∀ k, NotIn W b mb tb k → NotIn W' b mb tb k ∧ W'.heap[k]? = W.heap[k]? := fun k hk => ⟨⟨Nat.lt_of_lt_of_le hk.1 g.size, hk.2⟩, g.block k hk.1⟩
    exact ⟨PatF.carry hc h1, AtsF.carry hc h2⟩⟩
def BunIs (W : World) (b : Nat) (l sc rg : ByteArray) (M T : List VE) : Prop :=
  (BoxAt W b (bunC l sc rg (.map none) (.map none)) 115 ∧ M = [] ∧ T = []) ∨ ∃ mb tb, BunAt W b mb tb l sc rg M T
theorem BunIs.later {W W' : World} {b : Nat} {l sc rg : ByteArray} {M T : List VE} (h : BunIs W b l sc rg M T) (g : Below W.heap.size W W') : BunIs W' b l sc rg M T := by
  rcases h with ⟨h1, h2⟩ | ⟨mb, tb, h⟩
  · exact .inl ⟨h1.later g, h2⟩
  · exact .inr ⟨mb, tb, h.later g⟩
theorem BunIs.lt {W : World} {b : Nat} {l sc rg : ByteArray} {M T : List VE} (h : BunIs W b l sc rg M T) : b < W.heap.size := by
  rcases h with ⟨h1, h2⟩ | ⟨mb, tb, h⟩
  · exact h1.lt
  · exact h.box.lt
set_option maxHeartbeats 2000000 in
set_option maxRecDepth 100000 in
theorem makeMaps_old (b mb : Nat) (l sc rg : ByteArray) (t : Value) (w : World) (h : BoxAt w b (bunC l sc rg (.map (some mb)) t) 115) :
    Calls Tryz.prog 40 #[.pointer (some ⟨b, 0, none⟩)] w fun e w' => e = .returned (.tuple #[]) ∧ Below w.heap.size w w' := by
  have c4 : w.cell? ⟨b, 4, none⟩ = some (.map (some mb)) := h.cell 4
  have hl := h.lt
  have hq := map_some mb
  clear h
  go_enter Tryz.func40, Tryz.ntmps40
  go_wp2
  go_end0
  first | exact ⟨rfl, Below.refl _ _⟩ | exact ⟨rfl, (Below.refl _ _).drew⟩
def ResAt (w0 : World) (A : Option Addr) (s : ByteArray) (c : Nat) : Prop := ∀ W, Below w0.heap.size w0 W → (convert 24 9 (.slice A s.size c)).run Tryz.prog W = .ok (.string s) W
def AddedB (w : World) (b : Nat) (l sc rg : ByteArray) (over : Bool) (s : ByteArray) (M T : List VE) (e : Ending) (w' : World) : Prop :=
  ∃ (vs : List VE) (A' : Option Addr) (c' : Nat), vs.map (·.x) = docS s ∧ (∃ mb tb, BunAt w' b mb tb l sc rg (putS 1 over vs M) (putS 2 over vs T)) ∧
    e = .returned (.tuple #[.slice A' (addS over vs ⟨M, T, [], 0⟩).tw.length c', .int .i64 (addS over vs ⟨M, T, [], 0⟩).jk]) ∧ Below b w w'
def AddedAt (w : World) (b mb tb : Nat) (l sc rg : ByteArray) (over : Bool) (s : ByteArray) (M T : List VE) (e : Ending) (w' : World) : Prop :=
  ∃ (vs : List VE) (A' : Option Addr) (c' : Nat), vs.map (·.x) = docS s ∧ BunAt w' b mb tb l sc rg (putS 1 over vs M) (putS 2 over vs T) ∧
    e = .returned (.tuple #[.slice A' (addS over vs ⟨M, T, [], 0⟩).tw.length c', .int .i64 (addS over vs ⟨M, T, [], 0⟩).jk]) ∧ Below b w w' ∧ ∀ k, NotIn w b mb tb k → w'.heap[k]? = w.heap[k]?
theorem row_slice {W : World} {B : Nat} {e : TypeId} {v : Value} {n : Nat} {xs : List Value} (h : W.ownsRow B e 1 v n xs) : ∃ A c, v = .slice A n c := by
  rcases h.2 with ⟨rfl, rfl⟩ | ⟨g, cap, cur, rfl, _⟩
  · exact ⟨none, 0, rfl⟩
  · exact ⟨_, _, rfl⟩
theorem addB_core {w0 : World} {A : Option Addr} {s : ByteArray} {c : Nat} (hr : ResAt w0 A s c) (hs : s.size ≤ 1500) (b : Nat) (over : Bool) (l sc rg : ByteArray) (M T : List VE) (w : World) (h0 : Below w0.heap.size w0 w) (hlow : w0.heap.size ≤ b) (mb tb : Nat) (hne : b < mb ∧ b < tb ∧ mb ≠ tb) (htr : ∀ e, e ∈ M ∨ e ∈ T → PatF w (NotIn w b mb tb) e.x.val (.slice e.A e.x.val.length e.c) ∧ AtsF w (NotIn w b mb tb) e.x.ats (.slice e.B e.x.ats.length e.d))
    (hMk : Calls Tryz.prog 40 #[.pointer (some ⟨b, 0, none⟩)] w (fun e w' => e = .returned (.tuple #[]) ∧ BoxAt w' b (bunC l sc rg (.map (some mb)) (.map (some tb))) 115 ∧ MapAt w' mb (mapOf M) M.length ∧ MapAt w' tb (mapOf T) T.length ∧ Kp b w w')) :
    Calls Tryz.prog 21 #[.pointer (some ⟨b, 0, none⟩), .slice A s.size c, .bool over] w (AddedAt w b mb tb l sc rg over s M T) := by
  have hds := dec_size s
  obtain ⟨hok, hlen⟩ := doc_ok hs
  have hD : ∀ W, Kp b w W → Calls Tryz.prog 42 #[.slice A s.size c] W fun e w' => e = .returned (.string ⟨(decAll s).toArray⟩) ∧ Below W.heap.size W w' := fun W hK =>
    decode_any A c s W (by omega) (fun W' hW => hr W' ((h0.trans (hK.below.mono hlow)).trans (hW.mono (by have := h0.size; have := hK.size; omega))))
  have hP : ∀ W, Calls Tryz.prog 41 #[.string ⟨(decAll s).toArray⟩] W (GotEs W (parseS ⟨(decAll s).toArray⟩)) := fun W => parse_call (pat_calls (by omega)) (by omega) W
  have core := fun mb tb hMk hne => add_core b mb tb (.slice A s.size c) ⟨(decAll s).toArray⟩ over l sc rg M T w (by omega) (by have : (docS s).length ≤ 6000 := hlen; unfold docS at this; omega) (fun x hx => (hok x hx).nm) hMk hne hD hP
  refine (core mb tb hMk ⟨by omega, by omega, hne.2.2⟩).mono ?_
  rintro e w' ⟨vs, v, w1, w2, hvs, hk, ⟨l1, l2, l3⟩, hb, hk3, hts, rfl, hown, hbx, hmm, htm⟩
  obtain ⟨A', c', rfl⟩ := row_slice hown
  rw [addS_m] at hmm
  rw [addS_t] at htm
  have hsz2 : w1.heap.size ≤ w2.heap.size := hb.size
  have hsz3 : w2.heap.size ≤ w'.heap.size := hk3.low.size
  refine ⟨vs, A', c', hvs, ⟨hbx, hmm, htm, hne, ?_⟩, rfl, ?_, fun k hkk => ?_⟩
  · have hnew : ∀ e ∈ vs, PatF w' (NotIn w' b mb tb) e.x.val (.slice e.A e.x.val.length e.c) ∧ AtsF w' (NotIn w' b mb tb) e.x.ats (.slice e.B e.x.ats.length e.d) := fun e he => by
      obtain ⟨h1, h2⟩ := hts e he
      have hc : ∀ k, Since w1.heap.size w2 k → NotIn w' b mb tb k ∧ w'.heap[k]? = w2.heap[k]? := fun k hk => by
        obtain ⟨g1, g2⟩ := hk
        exact ⟨⟨by omega, by omega, by omega, by omega⟩, hk3.others k g2 (by omega) (by omega)⟩
      exact ⟨PatF.carry hc h1, AtsF.carry hc h2⟩
    have hold : ∀ e, e ∈ M ∨ e ∈ T → PatF w' (NotIn w' b mb tb) e.x.val (.slice e.A e.x.val.length e.c) ∧ AtsF w' (NotIn w' b mb tb) e.x.ats (.slice e.B e.x.ats.length e.d) := fun e he => by
      obtain ⟨h1, h2⟩ := htr e he
      have hc : ∀ k, NotIn w b mb tb k → NotIn w' b mb tb k ∧ w'.heap[k]? = w.heap[k]? := fun k hkk => by
        obtain ⟨g1, g2, g3, g4⟩ := hkk
        have := hk.size
        exact ⟨⟨by omega, g2, g3, g4⟩, (hk3.others k (by omega) g3 g4).trans ((hb.block k (by omega)).trans (hk.others k g1 g2))⟩
      exact ⟨PatF.carry hc h1, AtsF.carry hc h2⟩
    intro e he
    rcases he with he | he
    · exact putS_all 1 over (fun e => PatF w' (NotIn w' b mb tb) e.x.val (.slice e.A e.x.val.length e.c) ∧ AtsF w' (NotIn w' b mb tb) e.x.ats (.slice e.B e.x.ats.length e.d)) vs M hnew (fun e h => hold e (.inl h)) e he
    · exact putS_all 2 over (fun e => PatF w' (NotIn w' b mb tb) e.x.val (.slice e.A e.x.val.length e.c) ∧ AtsF w' (NotIn w' b mb tb) e.x.ats (.slice e.B e.x.ats.length e.d)) vs T hnew (fun e h => hold e (.inr h)) e he
  · have a1 : Below b w w1 := hk.below
    have a2 : Below b w1 w2 := hb.mono (by omega)
    have a3 : Below b w2 w' := ⟨hk3.low.os, hk3.low.tape, hk3.low.output, hk3.low.size, fun k hk => hk3.others k (by omega) (by omega) (by omega)⟩
    exact (a1.trans a2).trans a3
  · obtain ⟨g1, g2, g3, g4⟩ := hkk
    have := hk.size
    exact (hk3.others k (by omega) g3 g4).trans ((hb.block k (by omega)).trans (hk.others k g1 g2))
theorem addB_at {w0 : World} {A : Option Addr} {s : ByteArray} {c : Nat} (hr : ResAt w0 A s c) (hs : s.size ≤ 1500) (b mb tb : Nat) (over : Bool) (l sc rg : ByteArray) (M T : List VE) (w : World) (h0 : Below w0.heap.size w0 w) (hlow : w0.heap.size ≤ b) (h : BunAt w b mb tb l sc rg M T) :
    Calls Tryz.prog 21 #[.pointer (some ⟨b, 0, none⟩), .slice A s.size c, .bool over] w (AddedAt w b mb tb l sc rg over s M T) := by
  have hlt := h.box.lt
  refine addB_core hr hs b over l sc rg M T w h0 hlow mb tb h.lo h.tr ((makeMaps_old b mb l sc rg _ w h.box).mono ?_)
  rintro e w' ⟨rfl, hb⟩
  exact ⟨rfl, h.box.later hb, h.mm.later hb, h.tm.later hb, Kp.of_below hb (Nat.le_of_lt hlt)⟩
theorem addB_any {w0 : World} {A : Option Addr} {s : ByteArray} {c : Nat} (hr : ResAt w0 A s c) (hs : s.size ≤ 1500) (b : Nat) (over : Bool) (l sc rg : ByteArray) (M T : List VE) (w : World) (h0 : Below w0.heap.size w0 w) (hlow : w0.heap.size ≤ b) (hB : BunIs w b l sc rg M T) :
    Calls Tryz.prog 21 #[.pointer (some ⟨b, 0, none⟩), .slice A s.size c, .bool over] w (AddedB w b l sc rg over s M T) := by
  rcases hB with ⟨h1, rfl, rfl⟩ | ⟨mb, tb, h⟩
  · have hlt := h1.lt
    refine (addB_core hr hs b over l sc rg [] [] w h0 hlow w.heap.size (w.heap.size + 1) ⟨hlt, by omega, by omega⟩ (fun e he => by rcases he with he | he <;> simp at he) (makeMaps_new b l sc rg w h1)).mono ?_
    rintro e w' ⟨vs, A', c', h2, h3, h4, h5, _⟩
    exact ⟨vs, A', c', h2, ⟨_, _, h3⟩, h4, h5⟩
  · refine (addB_at hr hs b mb tb over l sc rg M T w h0 hlow h).mono ?_
    rintro e w' ⟨vs, A', c', h2, h3, h4, h5, _⟩
    exact ⟨vs, A', c', h2, ⟨_, _, h3⟩, h4, h5⟩
end Go.Proofs.YtpgiboblonlddaaGreatDoor

namespace Go.Proofs.YtpgiboblonlddaaGreatDoor
open Go.RowKit Go.ChangeMaps
set_option linter.unusedVariables false
set_option linter.unusedSimpArgs false
structure SR where
  A : Option Addr
  s : ByteArray
  c : Nat
  over : Bool
def SrcsAt (W : World) (g : Nat) (L : List SR) : Prop := ∀ j e, L[j]? = some e → W.cell? ⟨g, j * 2, none⟩ = some (.slice e.A e.s.size e.c) ∧ W.cell? ⟨g, j * 2 + 1, none⟩ = some (.bool e.over)
def totS : List SR → Nat
  | [] => 0
  | e :: r => e.s.size + totS r
theorem totS_mem {L : List SR} {e : SR} (h : e ∈ L) : e.s.size ≤ totS L := by
  induction L with
  | nil => simp at h
  | cons y L ih =>
    rw [totS]
    rcases List.mem_cons.1 h with rfl | h
    · omega
    · have := ih h; omega
inductive Fills : List (Bool × ByteArray) → List VE → List VE → Prop
  | nil : Fills [] [] []
  | snoc {l : List (Bool × ByteArray)} {M T vs : List VE} {o : Bool} {s : ByteArray} : Fills l M T → vs.map (·.x) = docS s → Fills (l ++ [(o, s)]) (putS 1 o vs M) (putS 2 o vs T)
def srcOf (e : SR) : Bool × ByteArray := (e.over, e.s)
set_option maxHeartbeats 4000000 in
set_option maxRecDepth 100000 in
theorem build_any {w0 : World} (g c : Nat) (L : List SR) (l sc rg : ByteArray) (w : World) (hg : g < w.heap.size) (hc : SrcsAt w g L) (ht : totS L ≤ 1500) (hL : L.length ≤ 10) (hr : ∀ e ∈ L, ResAt w0 e.A e.s e.c) (h0 : Below w0.heap.size w0 w) :
    Calls Tryz.prog 9 #[.agg #[.string l, .string sc, .string rg, .slice none 0 0], .slice (some ⟨g, 0, none⟩) L.length c] w fun e w' =>
      ∃ b M T, e = .returned (.pointer (some ⟨b, 0, none⟩)) ∧ w.heap.size ≤ b ∧ (0 < L.length → ∃ mb tb, BunAt w' b mb tb l sc rg M T) ∧ Fills (L.map srcOf) M T ∧ Below w.heap.size w w' := by
  have HC := Lib.hid hc
  have HR := Lib.hid hr
  have H0 := Lib.hid h0
  have hL0 : (L.length : Int) ≤ 10 := by omega
  have hN := fun W => new_any l sc rg W
  have h0z := h0.size
  clear hc hr h0
  go_enter Tryz.func9, Tryz.ntmps9
  go_wp2_with (go_at_call 20; refine (hN _).mono ?_; rintro e w1 ⟨b, rfl, hb0, hB, hbel⟩)
  have HB1 := Lib.hid hB
  have HBe := Lib.hid ((Below.refl w.heap.size w).alloc (Nat.le_refl _) (.cells #[.string l, .string sc, .string rg, .slice none 0 0] 29) |>.trans (hbel.mono (by simp)))
  have hb0' : w.heap.size < b := by have : (w.alloc (.cells #[.string l, .string sc, .string rg, .slice none 0 0] 29)).heap.size ≤ b := hb0; simp at this; omega
  clear hB hbel hN hb0
  go_loopw [12] (fun t12 wr => ∃ (i : Nat) (M T : List VE), t12 = .int .i64 i ∧ i ≤ L.length ∧ Hid (BunIs wr b l sc rg M T) ∧ Hid (0 < i → ∃ mb tb, BunAt wr b mb tb l sc rg M T) ∧ Hid (Fills ((L.take i).map srcOf) M T) ∧ Hid (Below w.heap.size w wr)) (fun t12 _ => L.length - (intOf t12).toNat)
  case atStart => exact ⟨0, [], [], rfl, Nat.zero_le _, Lib.hid (.inl ⟨HB1.out, rfl, rfl⟩), Lib.hid (fun h => absurd h (by omega)), Lib.hid Fills.nil, HBe⟩
  case round =>
    obtain ⟨i, M, T, rfl, hi, HI, HI2, HF, HBl⟩ := hrel
    by_cases hlt : i < L.length
    · have f1 : decide ((i : Int) < (L.length : Int)) = true := decide_eq_true (by omega)
      obtain ⟨e, he⟩ : ∃ e, L[i]? = some e := ⟨L[i], List.getElem?_eq_getElem hlt⟩
      obtain ⟨h0, h1⟩ := HC.out i e he
      have hmem := List.mem_of_getElem? he
      have hes : e.s.size ≤ 1500 := by have := totS_mem hmem; omega
      have hi0 : (i : Int) ≤ 10 := by omega
      have b0 := (HBl.out.cell (p := ⟨g, i * 2, none⟩) hg).trans h0
      have b1 := (HBl.out.cell (p := ⟨g, i * 2 + 1, none⟩) hg).trans h1
      have hgr : g < wr.heap.size := Nat.lt_of_lt_of_le hg HBl.out.size
      have HAd := Lib.hid (fun W (hW : Below wr.heap.size wr W) => addB_any (w0 := w0) (HR.out e hmem) hes b e.over l sc rg M T W ((H0.out.trans (HBl.out.mono h0z)).trans (hW.mono (by have := HBl.out.size; omega))) (by omega) (HI.out.later hW))
      have HTk := Lib.hid (show (L.take (i + 1)).map srcOf = (L.take i).map srcOf ++ [(e.over, e.s)] by
        rw [List.take_add_one, he, List.map_append]; rfl)
      obtain ⟨EA, ES, EC, EO⟩ := e
      dsimp only at *
      generalize hZ : ES.size = zz at *
      have HZ := Lib.hid hZ
      clear h0 h1 he hZ hes hmem
      have HBx := Lib.hid ((Below.refl wr.heap.size wr).alloc (Nat.le_refl _) (.cells #[.slice EA zz EC, .bool EO] 32))
      go_wp2_with (go_at_call 21; refine (HAd.out _ HBx.out).mono ?_; rintro e w2 ⟨vs, A', c', hvs, hbn, rfl, hbl⟩)
      have HV := Lib.hid hvs
      have HN := Lib.hid hbn
      have HL := Lib.hid hbl
      clear hvs hbn hbl
      go_wp2_with fail
      go_roundw
      case rel =>
        refine ⟨i + 1, _, _, by go_num, hlt, Lib.hid (.inr HN.out), Lib.hid (fun _ => HN.out), Lib.hid (by rw [HTk.out]; exact Fills.snoc HF.out HV.out), Lib.hid ((below_new HBl.out (Nat.le_refl _) _).trans (HL.out.mono (by omega)))⟩
      case measure => simp [intOf]; omega
    · obtain rfl : i = L.length := by omega
      have f1 : decide ((L.length : Int) < (L.length : Int)) = false := decide_eq_false (by omega)
      have HF2 := Lib.hid (show Fills (L.map srcOf) M T by have := HF.out; rw [List.take_length] at this; exact this)
      go_wp2
      go_ret
      exact ⟨b, M, T, rfl, by omega, HI2.out, HF2.out, HBl.out⟩
theorem fills_snoc {K : List (Bool × ByteArray)} {M T : List VE} (h : Fills K M T) {l : List (Bool × ByteArray)} {o : Bool} {s : ByteArray} (e : K = l ++ [(o, s)]) : ∃ M' T' vs, Fills l M' T' ∧ vs.map (·.x) = docS s ∧ M = putS 1 o vs M' ∧ T = putS 2 o vs T' := by
  cases h with
  | nil => simp at e
  | snoc h1 h2 =>
    obtain ⟨e1, e2⟩ := List.append_inj' e rfl
    simp at e2
    obtain ⟨rfl, rfl⟩ := e2
    subst e1
    exact ⟨_, _, _, h1, h2, rfl, rfl⟩
theorem fills_nil {M T : List VE} (h : Fills [] M T) : M = [] ∧ T = [] := by
  generalize e : ([] : List (Bool × ByteArray)) = K at h
  cases h with
  | nil => exact ⟨rfl, rfl⟩
  | snoc h1 h2 => simp at e
theorem fills_one {o : Bool} {s : ByteArray} {M T : List VE} (h : Fills [(o, s)] M T) : ∃ vs, vs.map (·.x) = docS s ∧ M = putS 1 o vs [] ∧ T = putS 2 o vs [] := by
  obtain ⟨M', T', vs, h1, h2, h3, h4⟩ := fills_snoc h (l := []) rfl
  obtain ⟨rfl, rfl⟩ := fills_nil h1
  exact ⟨vs, h2, h3, h4⟩
theorem find_look (n : ByteArray) (M : List VE) : ∃ r, Instr.findNow .string (.string n) (mapOf M).toList 0 = some r ∧ r.map (·.2) = (lookL n M).map (·.v) := by
  rw [mapOf_V]
  refine ⟨_, find_map n _, ?_⟩
  rw [lookI_V]
  induction M with
  | nil => rfl
  | cons y M ih =>
    rw [List.map_cons, lookV, lookL]
    split
    · rfl
    · exact ih
theorem message_is {w : World} {b mb tb : Nat} {l sc rg : ByteArray} {M T : List VE} (h : BunAt w b mb tb l sc rg M T) {n : ByteArray} {x : EN} {A B : Option Addr} {c d : Nat} (hl : lookL n M = some ⟨x, A, c, B, d⟩) :
    Calls Tryz.prog 22 #[.pointer (some ⟨b, 0, none⟩), .string n] w fun e w' => e = .returned (.tuple #[.agg #[.int .i64 x.ty, .int .i64 x.lv, .string x.tx, .string x.nm, .slice A x.val.length c, .slice B x.ats.length d, .int .i64 x.fr, .int .i64 x.tu], .bool true]) ∧ Below w.heap.size w w' := by
  obtain ⟨r, h1, h2⟩ := find_look n M
  rw [hl] at h2
  have h3 : r.isSome = true := by cases r with | none => cases h2 | some p => rfl
  have := message_any b mb M.length (mapOf M) l sc rg n _ r _ _ _ _ _ _ _ _ _ _ _ _ w h.box h.mm h1 (by rw [h2]; rfl)
  rw [h3] at this
  exact this
theorem message_no {w : World} {b mb tb : Nat} {l sc rg : ByteArray} {M T : List VE} (h : BunAt w b mb tb l sc rg M T) {n : ByteArray} (hl : lookL n M = none) :
    Calls Tryz.prog 22 #[.pointer (some ⟨b, 0, none⟩), .string n] w fun e w' => e = .returned (.tuple #[.agg #[.int .i64 0, .int .i64 0, .string ⟨#[]⟩, .string ⟨#[]⟩, .slice none 0 0, .slice none 0 0, .int .i64 0, .int .i64 0], .bool false]) ∧ Below w.heap.size w w' := by
  obtain ⟨r, h1, h2⟩ := find_look n M
  rw [hl] at h2
  have h3 : r.isSome = false := by cases r with | none => rfl | some p => cases h2
  have := message_any b mb M.length (mapOf M) l sc rg n _ r _ _ _ _ _ _ _ _ _ _ _ _ w h.box h.mm h1 (by rw [h2]; rfl)
  rw [h3] at this
  exact this
end Go.Proofs.YtpgiboblonlddaaGreatDoor
