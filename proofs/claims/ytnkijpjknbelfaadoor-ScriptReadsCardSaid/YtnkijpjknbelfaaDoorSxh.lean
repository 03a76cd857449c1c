/-
  Package script: bytes that come in; what is read of them, for ScriptReads.
-/
import Derived.Test.YtnkijpjknbelfaaDoorSxg
import Derived.Test.YtnkijpjknbelfaaDoorSop
namespace Go.Proofs.YtnkijpjknbelfaaDoor
open Go.RowKit Go.ChangeShapes Go.WideShapes Go.ChangeAt
set_option linter.unusedVariables false
set_option linter.unusedSimpArgs false

theorem byte_wf8 {x : Int} (h : (Lit.int .u8 x).wf = true) : 0 ≤ x ∧ x < 256 := by
  have h1 : IntKind.u8.min = 0 := rfl
  have h2 : IntKind.u8.max = 255 := rfl
  simp only [Lit.wf, Bool.and_eq_true, decide_eq_true_eq] at h
  omega
def BIn (W : World) (s : ByteArray) (A : Option Addr) (c : Nat) : Prop := s.size ≤ c ∧ ((s.size = 0 ∧ (A = none → c = 0)) ∨ ∃ b o, A = some ⟨b, o, none⟩ ∧ b < W.heap.size ∧ Lib.Bytes W b o s)
theorem BIn.later {W W' : World} {s : ByteArray} {A : Option Addr} {c : Nat} (h : BIn W s A c) (g : Below W.heap.size W W') : BIn W' s A c := by
  refine ⟨h.1, h.2.imp id ?_⟩
  rintro ⟨b, o, e, hb, hc⟩
  exact ⟨b, o, e, Nat.lt_of_lt_of_le hb g.size, fun i hi => (g.cell (p := ⟨b, o + i, none⟩) hb).trans (hc i hi)⟩
theorem conv_zero (W : World) (a : Addr) (cap : Nat) : CvT (.slice (some a) 0 cap) (mkS []) W := by
  unfold CvT
  have hl : (loadCells a 0).run Tryd.prog W = .ok (([] : List Int).map (Value.int .u8)).toArray W := by
    have := run_loadCells_list (P := Tryd.prog) W a ([] : List Value) (fun j v hj => by simp at hj)
    simpa using this
  rw [run_convert_bytes_string W 32 9 5 _ 0 cap Tryd.underlying32 Tryd.underlying5 Tryd.underlying9, run_bytesToString W _ 0 cap [] hl]
  rfl
theorem bytes_pre {W : World} {b o k : Nat} {s : ByteArray} (h : Lib.Bytes W b o s) (hk : k ≤ s.size) : Lib.Bytes W b o (mkS (s.data.toList.take k)) := fun i hi => by
  have hl : s.data.toList.length = s.size := size_data s
  have hi2 : i < (s.data.toList.take k).length := by rw [size_mkS] at hi; exact hi
  have hi3 : i < s.size := by rw [List.length_take] at hi2; omega
  have := h i hi3
  rw [this]
  have e : (s.data.toList.take k)[i]'hi2 = s.data.toList[i]'(by omega) := List.getElem_take
  show some (Value.int .u8 ((s.data.toList[i]'(by omega)).toNat : Nat)) = some (Value.int .u8 (((s.data.toList.take k)[i]'hi2).toNat : Nat))
  rw [e]
theorem bytes_suf {W : World} {b o k : Nat} {s : ByteArray} (h : Lib.Bytes W b o s) (hk : k ≤ s.size) : Lib.Bytes W b (o + k) (mkS (s.data.toList.drop k)) := fun i hi => by
  have hl : s.data.toList.length = s.size := size_data s
  have hi2 : i < (s.data.toList.drop k).length := by rw [size_mkS] at hi; exact hi
  have hi3 : k + i < s.size := by rw [List.length_drop] at hi2; omega
  have := h (k + i) hi3
  rw [Nat.add_assoc, this]
  have e : (s.data.toList.drop k)[i]'hi2 = s.data.toList[k + i]'(by omega) := List.getElem_drop
  show some (Value.int .u8 ((s.data.toList[k + i]'(by omega)).toNat : Nat)) = some (Value.int .u8 (((s.data.toList.drop k)[i]'hi2).toNat : Nat))
  rw [e]
theorem conv_at {W : World} {b o c : Nat} {t : ByteArray} (h : Lib.Bytes W b o t) : CvT (.slice (some ⟨b, o, none⟩) t.size c) t W :=
  Lib.run_convert_whole (P := Tryd.prog) W 32 5 9 Tryd.underlying32 Tryd.underlying5 Tryd.underlying9 b o t h c
theorem conv_pre {W : World} {s : ByteArray} {A : Option Addr} {c k : Nat} (h : BIn W s A c) (hk : k ≤ s.size) : CvT (.slice A k c) (mkS (s.data.toList.take k)) W := by
  have hl : s.data.toList.length = s.size := size_data s
  rcases h.2 with ⟨h0, hA⟩ | ⟨b, o, rfl, _, hb⟩
  · obtain rfl : k = 0 := by omega
    rw [List.take_zero]
    cases A with
    | none =>
      rw [hA rfl]
      exact run_convert_bytes_nil (P := Tryd.prog) W 32 5 Tryd.underlying32 Tryd.underlying5 0 0 9 Tryd.underlying9
    | some a => exact conv_zero W a c
  · have := conv_at (c := c) (bytes_pre hb hk)
    rw [size_mkS, List.length_take, Nat.min_eq_left (by omega)] at this
    exact this
theorem conv_all {W : World} {s : ByteArray} {A : Option Addr} {c : Nat} (h : BIn W s A c) : CvT (.slice A s.size c) s W := by
  have := conv_pre h (Nat.le_refl _)
  rw [List.take_of_length_le (l := s.data.toList) (by rw [size_data]; exact Nat.le_refl _), mkS_of] at this
  exact this
theorem conv_suf {W : World} {s : ByteArray} {A : Option Addr} {c k : Nat} (h : BIn W s A c) (hk : k < s.size) : ∃ b o, A = some ⟨b, o, none⟩ ∧ CvT (.slice (some ⟨b, o + k, none⟩) (s.size - k) (c - k)) (mkS (s.data.toList.drop k)) W := by
  have hl : s.data.toList.length = s.size := size_data s
  rcases h.2 with ⟨h0, hA⟩ | ⟨b, o, rfl, _, hb⟩
  · omega
  · refine ⟨b, o, rfl, ?_⟩
    have := conv_at (c := c - k) (bytes_suf hb (Nat.le_of_lt hk))
    rw [size_mkS, List.length_drop, hl] at this
    exact this
section
variable {H : Type} {enc : TypeId × Value → H} {W : World} {sp : Nat → Bool} {held : Bool}
theorem open_by {n : Nat} {cs : List Value} {x : DataW H × List MemPlace} (h : DataW.trod enc Tryd.prog W 0 sp held n 32 cs = some x) :
    ∃ (s : ByteArray) (A : Option Addr) (c : Nat), cs = [.slice A s.size c] ∧ BIn W s A c ∧ s.size ≤ maxLen := by
  obtain ⟨A, c, l, e, hm, hl, _⟩ := slice_open (k := 1) (by decide) Tryd.underlying32 (show Tryd.prog.cellsOf 5 = 1 by kernel_rfl) (fun b (u : UInt8) o => W.cell? ⟨b, o, none⟩ = some (.int .u8 (u.toNat : Nat))) (fun _ => 0) (fun m hm cs y hy b o hb hc => by
    obtain ⟨z, e0, _, wz⟩ := DataW.trod_int Tryd.underlying5 hy
    cases e0
    obtain ⟨z0, z1⟩ := byte_wf8 wz
    refine ⟨UInt8.ofNat z.toNat, ?_, Nat.zero_le _⟩
    have h0 := hc 0 (by decide)
    have hq : ((UInt8.ofNat z.toNat).toNat : Int) = z := by
      have : (UInt8.ofNat z.toNat).toNat = z.toNat % 256 := UInt8.toNat_ofNat'
      omega
    rw [hq]
    exact h0) h
  have hcap : l.length ≤ c ∧ (A = none → c = 0) := by
    rcases DataW.trod_slice Tryd.underlying32 h with ⟨e2, _⟩ | ⟨a, len, cap, _, _, _, _, e2, _, _, hlc, _⟩
    · rw [e] at e2
      simp only [List.cons.injEq, Value.slice.injEq, and_true] at e2
      obtain ⟨rfl, h2, rfl⟩ := e2
      exact ⟨by omega, fun _ => rfl⟩
    · rw [e] at e2
      simp only [List.cons.injEq, Value.slice.injEq, and_true] at e2
      obtain ⟨rfl, h2, rfl⟩ := e2
      exact ⟨by omega, fun h => by cases h⟩
  refine ⟨mkS l, A, c, by rw [size_mkS]; exact e, ⟨by rw [size_mkS]; exact hcap.1, ?_⟩, by rw [size_mkS]; exact hm⟩
  by_cases h0 : 0 < l.length
  · obtain ⟨b, o, e1, hb, hq⟩ := hl h0
    refine .inr ⟨b, o, e1, hb, fun i hi => ?_⟩
    rw [size_mkS] at hi
    have := hq i l[i] (List.getElem?_eq_getElem hi)
    rw [Nat.mul_one] at this
    exact this
  · exact .inl ⟨by rw [size_mkS]; omega, hcap.2⟩
end
theorem encL_ge : ∀ l : List ST, l.length ≤ (encL l).length
  | [] => Nat.le_refl _
  | x :: l => by rw [encL_cons, List.length_append, List.length_cons]; have := encL_ge l; have := encS_pos x; omega
theorem encS_in {x : ST} : ∀ {l : List ST}, x ∈ l → (encS x).length ≤ (encL l).length
  | y :: l, h => by
    rw [encL_cons, List.length_append]
    rcases List.mem_cons.1 h with rfl | h
    · omega
    · have := encS_in h; omega
theorem encY_in {a : SA} : ∀ {l : List SA}, a ∈ l → (encA a).length ≤ (encY l).length
  | y :: l, h => by
    show _ ≤ (encA y ++ encY l).length
    rw [List.length_append]
    rcases List.mem_cons.1 h with rfl | h
    · omega
    · have := encY_in h; omega
theorem text_in {x : ST} (hv : ValS x) {a : SA} (ha : a ∈ x.args) : a.text.size ≤ (encS x).length := by
  obtain ⟨k, tag, by_, ov, wi, nm, at_, ar⟩ := x
  unfold ValS at hv
  dsimp only at *
  rcases hv with ⟨rfl, -, -, -, h, -⟩ | ⟨rfl, -, -, -, -, h, -⟩ | ⟨rfl, -⟩
  · rw [h] at ha; cases ha
  · rw [h] at ha; cases ha
  · rw [encS2_eq]
    have h1 := encY_in ha
    have h2 := encT_len a.text.data.toList
    have h3 : (encA a).length = (encT a.name.data.toList).length + ((encT [signA a.kind]).length + (encT a.text.data.toList).length) := by
      unfold encA textsA
      simp only [List.flatMap_cons, List.flatMap_nil, List.length_append, List.length_nil, Nat.add_zero]
    have h4 := size_data a.text
    simp only [List.length_append]
    omega
/-- What is read of few bytes. -/
theorem dec_of {s : ByteArray} (hs : s.size ≤ 600) : ∃ (l : List ST) (n : Nat) (e : Int), decD s = (l, n, e) ∧ (∀ x ∈ l, ValS x ∧ rightS x = true) ∧ n ≤ s.size ∧ s.data.toList.take n = encL l ∧ l.length ≤ 600 ∧ (encL l).length ≤ 600 ∧ ((e = 0 ∧ n = s.size) ∨ (e = 2 ∧ n < s.size ∧ decD (mkS (s.data.toList.drop n)) = ([], 0, 2))) := by
  obtain ⟨l, r', e1, e2, e3, e4, e5, e6⟩ := decG_of s.size (s.size + 1) [] s (by omega) (Nat.le_refl _)
  have hl := congrArg List.length e3
  rw [size_data, List.length_append, size_data] at hl
  have hge := encL_ge l
  have hn : s.size - r'.size = (encL l).length := by omega
  refine ⟨l, (encL l).length, (decG s.size (s.size + 1) [] s).2.2, ?_, e2, by omega, ?_, by omega, by omega, ?_⟩
  · unfold decD
    rw [if_neg (by omega)]
    rw [List.nil_append] at e1
    exact Prod.ext e1 (Prod.ext (by rw [← hn]; exact e5) rfl)
  · rw [e3, List.take_left]
  · rcases e6 with ⟨h1, h2⟩ | ⟨h1, h2, h3⟩ | ⟨h1, h2⟩
    · exact .inl ⟨h1, by omega⟩
    · refine .inr ⟨h1, by omega, ?_⟩
      rw [e3, List.drop_left, mkS_of]
      unfold decD
      rw [if_neg (by omega), decG, if_neg (by omega), if_pos h3, Nat.sub_self]
    · rw [List.nil_append] at h2
      omega
end Go.Proofs.YtnkijpjknbelfaaDoor
