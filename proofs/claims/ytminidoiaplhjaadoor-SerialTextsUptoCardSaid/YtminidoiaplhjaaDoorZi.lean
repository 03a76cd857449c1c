/-
  Package serial: what stands ahead of arguments; patterns.
-/
import Derived.Test.YtminidoiaplhjaaDoorZh
import Derived.Test.YtminidoiaplhjaaDoorZc
namespace Go.Proofs.YtminidoiaplhjaaDoor
open Go.RowKit
set_option linter.unusedVariables false
set_option linter.unusedSimpArgs false

theorem WrAt.later {B b : Nat} {bs : List UInt8} {w w' : World} (h : WrAt B b bs w) (hb : Below w.heap.size w w') : WrAt B b bs w' := by
  have go : ∀ {p : Value}, Lib.BuilderAtF 46 5 B b p (Lib.byteCells bs) w → Lib.BuilderAtF 46 5 B b p (Lib.byteCells bs) w' := by
    rintro p ⟨h1, v, h2, h3, h4⟩
    refine ⟨h1, v, (hb.block b (Array.getElem?_eq_some_iff.1 h2).1).trans h2, ?_, h4⟩
    obtain ⟨g1, g2⟩ := h3
    refine ⟨g1, ?_⟩
    rcases g2 with g2 | ⟨g, cap, cur, fz, e, hg, hh, r⟩
    · exact .inl g2
    · exact .inr ⟨g, cap, cur, fz, e, hg, (hb.block g (Array.getElem?_eq_some_iff.1 hh).1).trans hh, r⟩
  refine ⟨?_, Nat.le_trans h.le hb.size⟩
  rcases h.bld with h | h
  · exact .inl (go h)
  · exact .inr (go h)
theorem Wk.of {B b : Nat} {w w' : World} (hB : B ≤ w.heap.size) (g : Below w.heap.size w w') : Wk B b w w' :=
  ⟨g.mono hB, fun k o ho _ _ => (g.block k (Array.getElem?_eq_some_iff.1 ho).1).trans ho⟩
/-- A place is written; an expression; a pattern. -/
def WpTo (W0 : World) (B b m : Nat) (e : EX) : Prop := ∀ (q o : Nat) (c : C7) (bs : List UInt8) (w : World), Sw W0 B b w → q < W0.heap.size → CellsAt W0 q o c → ExAt W0 e c → WrAt B b bs w → bs.length + (plT m e).length ≤ 140737488355328 →
  Calls Tryd.prog 59 #[.pointer (some ⟨b, 0, none⟩), .pointer (some ⟨q, o, none⟩), .string (mgB m)] w fun x w' => x = .returned (.tuple #[]) ∧ WrAt B b (bs ++ plT m e) w' ∧ Wk B b w w'
def WiTo (W0 : World) (B b m : Nat) (e : EX) : Prop := ∀ (q o : Nat) (c : C7) (bs : List UInt8) (w : World), Sw W0 B b w → q < W0.heap.size → CellsAt W0 q o c → ExAt W0 e c → WrAt B b bs w → bs.length + (exT m e).length ≤ 140737488355328 →
  Calls Tryd.prog 71 #[.pointer (some ⟨b, 0, none⟩), .pointer (some ⟨q, o, none⟩), .string (mgB m)] w fun x w' => x = .returned (.tuple #[]) ∧ WrAt B b (bs ++ exT m e) w' ∧ Wk B b w w'
def WaTo (W0 : World) (B b m : Nat) (l : List EL) : Prop := ∀ (v : Value) (bs : List UInt8) (w : World), Sw W0 B b w → PatAt W0 l v → WrAt B b bs w → bs.length + (paT m l).length ≤ 140737488355328 →
  Calls Tryd.prog 49 #[.pointer (some ⟨b, 0, none⟩), v, .string (mgB m)] w fun x w' => x = .returned (.tuple #[]) ∧ WrAt B b (bs ++ paT m l) w' ∧ Wk B b w w'
def WhTo (W0 : World) (B b m : Nat) (e : EX) : Prop := ∀ (q o : Nat) (c : C7) (bs : List UInt8) (w : World), Sw W0 B b w → q < W0.heap.size → CellsAt W0 q o c → ExAt W0 e c → WrAt B b bs w → bs.length + (hdT m e).length ≤ 140737488355328 →
  Calls Tryd.prog 82 #[.pointer (some ⟨b, 0, none⟩), .pointer (some ⟨q, o, none⟩), .string (mgB m)] w fun x w' => x = .returned (.tuple #[]) ∧ WrAt B b (bs ++ hdT m e) w' ∧ Wk B b w w'
set_option maxHeartbeats 8000000 in
set_option maxRecDepth 100000 in
theorem whead_any {W0 : World} {B b m : Nat} (k : Int) (t n a : ByteArray) (al : List AR) (i : Option EX) (vs : List VA) (hg : gdI (.mk k t n a al i vs) = true) (ht : t.size ≤ 4000000) (hP : k = 6 → ∀ e, i = some e → WpTo W0 B b m e) : WhTo W0 B b m (.mk k t n a al i vs) := by
  intro q o c bs w hS hq hc hx h hn
  obtain ⟨hk, h6, _⟩ := gdI_kind hg
  obtain ⟨ck, ct, cn, ca, cal, ci, cvs⟩ := c
  rw [ExAt] at hx
  obtain ⟨e1, e2, e3, e4, _, e6, _⟩ := hx
  dsimp only at e1 e2 e3 e4 e6
  subst e1 e2 e3 e4
  obtain ⟨⟨k0, k1, k2, k3, k4, k5, k6⟩, hlt⟩ := hS.at_ hq hc
  rw [hdT] at hn ⊢
  have HS := Lib.hid hS
  have HC := Lib.hid hc
  have HH := Lib.hid h
  clear hS hc h
  rcases hk with rfl | rfl | rfl | rfl | rfl | rfl | rfl
  · rw [if_pos rfl] at hn ⊢
    have HQ := Lib.hid (quote_any t w ht)
    have HN := Lib.hid hn
    clear hn h6 e6
    go_enter Tryd.func82, Tryd.ntmps82
    go_wp2_with fail
    go_at_call 41
    refine HQ.out.mono ?_
    rintro e w1 ⟨rfl, hb⟩
    have HW := Lib.hid (write1 ⟨(quoteAll t).toArray⟩ w1 (HH.out.later hb) (by rw [size_mk]; exact HN.out))
    have HK := Lib.hid (Wk.of (b := b) HH.out.le hb)
    clear hb
    go_wp2_with fail
    go_at_call 20
    refine HW.out.mono ?_
    rintro e w2 ⟨rfl, h2, g2⟩
    have HA := Lib.hid h2
    have HG := Lib.hid (HK.out.trans g2)
    clear h2 g2
    go_wp2
    go_end0
    exact ⟨rfl, HA.out, HG.out⟩
  · rw [if_neg (by decide), if_pos rfl] at hn ⊢
    have HW := Lib.hid (write1 t w HH.out (by rw [← size_data]; exact hn))
    clear hn h6 e6
    go_enter Tryd.func82, Tryd.ntmps82
    go_wp2_with fail
    go_at_call 20
    refine HW.out.mono ?_
    rintro e w2 ⟨rfl, h2, g2⟩
    have HA := Lib.hid h2
    have HG := Lib.hid g2
    clear h2 g2
    go_wp2
    go_end0
    exact ⟨rfl, HA.out, HG.out⟩
  · rw [if_neg (by decide), if_neg (by decide), if_pos rfl] at hn ⊢
    have HW := Lib.hid (write2 ⟨#[36]⟩ n w HH.out (by rw [List.length_cons, size_data] at hn; show _ + (1 + _) ≤ _; omega))
    clear hn h6 e6
    go_enter Tryd.func82, Tryd.ntmps82
    go_wp2_with fail
    go_at_call 20
    refine HW.out.mono ?_
    rintro e w2 ⟨rfl, h2, g2⟩
    have HA := Lib.hid h2
    have HG := Lib.hid g2
    clear h2 g2
    go_wp2
    go_end0
    exact ⟨rfl, HA.out, HG.out⟩
  · rw [if_neg (by decide), if_neg (by decide), if_neg (by decide), if_neg (by decide)] at hn ⊢
    unfold refG at hn ⊢
    rw [if_neg (by decide), List.nil_append] at hn ⊢
    have hr := ref_any (bs := bs) 3 t n a cal ci cvs q o w HS.out hq HC.out HH.out hn
    obtain ⟨X, hX⟩ : ∃ X, n.data.toList ++ (if emp a = true then [] else 46 :: a.data.toList) = X := ⟨_, rfl⟩
    rw [hX] at hr ⊢
    have HR := Lib.hid hr
    clear hn h6 e6 hX hr
    go_enter Tryd.func82, Tryd.ntmps82
    go_wp2_with fail
    go_at_call 86
    refine HR.out.mono ?_
    rintro e w2 ⟨rfl, h2, g2⟩
    have HA := Lib.hid h2
    have HG := Lib.hid g2
    clear h2 g2
    go_wp2
    go_end0
    exact ⟨rfl, HA.out, HG.out⟩
  · rw [if_neg (by decide), if_neg (by decide), if_neg (by decide), if_neg (by decide)] at hn ⊢
    unfold refG at hn ⊢
    rw [if_pos rfl] at hn ⊢
    have HW := Lib.hid (write1 ⟨#[45]⟩ w HH.out (by rw [List.length_append, List.length_singleton] at hn; show _ + 1 ≤ _; omega))
    have HN := Lib.hid hn
    obtain ⟨X, hX⟩ : ∃ X, n.data.toList ++ (if emp a = true then [] else 46 :: a.data.toList) = X := ⟨_, rfl⟩
    have hr := fun w1 h0 h1 h2 => ref_any (B := B) (b := b) (bs := bs ++ [45]) 4 t n a cal ci cvs q o w1 h0 hq HC.out h1 h2
    simp only [hX] at hr
    rw [hX]
    rw [hX] at hn
    have HN := Lib.hid hn
    have HRR := Lib.hid hr
    clear hn h6 e6 hX hr
    go_enter Tryd.func82, Tryd.ntmps82
    go_wp2_with fail
    go_at_call 20
    refine HW.out.mono ?_
    rintro e w1 ⟨rfl, h1, g1⟩
    have HR := Lib.hid (HRR.out w1 (HS.out.step g1) h1 (by have := HN.out; rw [List.length_append, List.length_singleton] at this ⊢; omega))
    have HK := Lib.hid g1
    clear h1 g1
    go_wp2_with fail
    go_at_call 86
    refine HR.out.mono ?_
    rintro e w2 ⟨rfl, h2, g2⟩
    have HA := Lib.hid h2
    have HG := Lib.hid (HK.out.trans g2)
    clear h2 g2
    go_wp2
    go_end0
    exact ⟨rfl, by simpa using HA.out, HG.out⟩
  · rw [if_neg (by decide), if_neg (by decide), if_neg (by decide), if_neg (by decide)] at hn ⊢
    unfold refG at hn ⊢
    rw [if_neg (by decide), List.nil_append] at hn ⊢
    have hr := ref_any (bs := bs) 5 t n a cal ci cvs q o w HS.out hq HC.out HH.out hn
    obtain ⟨X, hX⟩ : ∃ X, n.data.toList ++ (if emp a = true then [] else 46 :: a.data.toList) = X := ⟨_, rfl⟩
    rw [hX] at hr ⊢
    have HR := Lib.hid hr
    clear hn h6 e6 hX hr
    go_enter Tryd.func82, Tryd.ntmps82
    go_wp2_with fail
    go_at_call 86
    refine HR.out.mono ?_
    rintro e w2 ⟨rfl, h2, g2⟩
    have HA := Lib.hid h2
    have HG := Lib.hid g2
    clear h2 g2
    go_wp2
    go_end0
    exact ⟨rfl, HA.out, HG.out⟩
  · rw [if_neg (by decide), if_neg (by decide), if_neg (by decide), if_pos rfl] at hn ⊢
    obtain ⟨e', rfl, _⟩ := h6 rfl
    rw [plO] at hn ⊢
    simp only [OAt] at e6
    obtain ⟨q', o', c', rfl, hq', hc', hx'⟩ := e6
    have HR := Lib.hid (hP rfl e' rfl q' o' c' bs w HS.out hq' hc' hx' HH.out hn)
    clear hn h6 hP
    go_enter Tryd.func82, Tryd.ntmps82
    go_wp2_with fail
    go_at_call 59
    refine HR.out.mono ?_
    rintro e w2 ⟨rfl, h2, g2⟩
    have HA := Lib.hid h2
    have HG := Lib.hid g2
    clear h2 g2
    go_wp2
    go_end0
    exact ⟨rfl, HA.out, HG.out⟩
end Go.Proofs.YtminidoiaplhjaaDoor
