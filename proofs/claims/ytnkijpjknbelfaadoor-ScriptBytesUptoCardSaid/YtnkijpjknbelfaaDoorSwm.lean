/-
  Package script: Encode.
-/
import Derived.Test.YtnkijpjknbelfaaDoorSwl
import Derived.Lib.AppendStr
namespace Go.Proofs.YtnkijpjknbelfaaDoor
open Go.RowKit
set_option linter.unusedVariables false
set_option linter.unusedSimpArgs false

def OwnBy (B : Nat) (W : World) (v : Value) (l : List UInt8) : Prop := W.ownsRow B 5 1 v l.length (Lib.byteCells l)
theorem OwnBy.nil (B : Nat) (W : World) : OwnBy B W (.slice none 0 0) [] := World.ownsRow_nil _ _ _ _
theorem OwnBy.lt {B : Nat} {W : World} {v : Value} {l : List UInt8} (h : OwnBy B W v l) (k : Nat) (e : v.ownBlock = some k) : B ≤ k ∧ k < W.heap.size := World.ownsRow.lt h k e
theorem OwnBy.later {B : Nat} {W W' : World} {v : Value} {l : List UInt8} (h : OwnBy B W v l) (g : Below W.heap.size W W') : OwnBy B W' v l := by
  refine World.ownsRow.kept h (⟨g.os, g.tape, g.output, g.size, fun k hk _ => g.block k hk⟩ : W.grownBy W' none) ?_
  by_cases hv : v.ownBlock = none
  · exact .inl hv
  · exact .inr hv
theorem OwnBy.kind {B : Nat} {W : World} {v : Value} {l : List UInt8} (h : OwnBy B W v l) (g : Nat) (e : v.ownBlock = some g) : ∃ c fz, W.heap[g]? = some (.cells c 5 fz) := by
  rcases h.2 with ⟨rfl, _⟩ | ⟨g', cap, cur, rfl, _, hg, _⟩
  · cases e
  · cases e; exact ⟨_, _, hg⟩
theorem OwnG.others {α : Type} {t : TypeId} {n B : Nat} {f : α → List Value} {W W' : World} {v : Value} {l : List α} (h : OwnG t n f B W v l) (g : Lib.OthersKept 5 none W W') (ht : t ≠ 5) : OwnG t n f B W' v l := by
  obtain ⟨q1, q2⟩ := h
  refine ⟨q1, ?_⟩
  rcases q2 with h | ⟨b, cap, cur, h1, h2, h3, h4⟩
  · exact .inl h
  · exact .inr ⟨b, cap, cur, h1, h2, g b _ h3 (by simp) (fun c fz e => ht (by injection e)), h4⟩
theorem infoU8 : (Tryd.prog.info? 5).map (fun i => (i.zero, i.size, i.bytes)) = some (some (.int .u8 0), 1, 1) := by kernel_rfl
theorem bytes_app (a b : List UInt8) : Lib.byteCells (a ++ b) = Lib.byteCells a ++ Lib.byteCells b := by simp [Lib.byteCells]
def AppTo (B : Nat) (t : ByteArray) : Prop := ∀ (w : World) (v : Value) (l : List UInt8), OwnBy B w v l → EnvB B w → l.length + t.size ≤ 1000000000 → Calls Tryd.prog 23 #[v, .string t] w fun e w' =>
  ∃ v', e = .returned v' ∧ OwnBy B w' v' (l ++ encT t.data.toList) ∧ Below B w w' ∧ Lib.OthersKept 5 none w w'
set_option maxHeartbeats 4000000 in
set_option maxRecDepth 100000 in
theorem append_any (B : Nat) (t : ByteArray) : AppTo B t := fun w v l ho hE hb => by
  obtain ⟨i0, hinf, hz0, hz1, hz2⟩ := info_split infoU8
  have hsz := hE.size
  have hts : (t.size : Int) ≤ 1000000000 := by omega
  have hA := Tryd.strconv_AppendInt_10 B l.length (t.size : Int) (by omega) (by omega) v (Lib.byteCells l) w ho hsz (by omega) hE.tabB
  rw [itoa_nat] at hA
  have hd : (Lib.decDigits t.size).length ≤ 20 := by
    have := decDigits_le (n := (t.size : Int)) (by omega) (by omega)
    rwa [Int.natAbs_natCast] at this
  have HA := Lib.hid hA
  have HE := Lib.hid hE
  clear hA ho hE
  go_enter Tryd.func23, Tryd.ntmps23
  go_wp2_with fail
  go_at_call 34
  refine HA.out.mono ?_
  rintro e w1 ⟨v1, rfl, ho1, hb1, hk1⟩
  have hs1 := hb1.size
  have HB1 := Lib.hid hb1
  have HK1 := Lib.hid hk1
  have ho1a := ho1.alloc (.cells #[.int .u8 58] 5)
  have hkd1 : ∀ g, v1.ownBlock = some g → ∃ c fz, (w1.alloc (.cells #[.int .u8 58] 5)).heap[g]? = some (.cells c 5 fz) := fun g e => by
    rcases ho1a.2 with ⟨rfl, _⟩ | ⟨g', cap, cur, rfl, _, hg, _⟩
    · cases e
    · cases e; exact ⟨_, _, hg⟩
  have hlt1 : ∀ k, v1.ownBlock = some k → B ≤ k := fun k e => (World.ownsRow.lt ho1a k e).1
  clear ho1 hb1 hk1
  go_wp2_with (at_builtin; refine wpList_append_own _ rfl _ _ 32 rfl B 5 i0 (.int .u8 0) 1 1 Tryd.underlying32 hinf hz0 hz1 hz2 rfl (by decide) v1 _ _ rfl ho1a ⟨w1.heap.size, 0, none⟩ 1 1 [.int .u8 58] rfl rfl ?c1 ?c2 ?c3 ?c4 ?c5 ?_)
  case c1 =>
    intro j u hj
    have hbx := BoxAt.new w1 #[.int .u8 58] 5
    rw [addMid, Nat.zero_add, hbx.cell j]
    simpa using hj
  case c2 => intro u hu; simp at hu; subst hu; rfl
  case c3 => unfold maxLen; omega
  case c4 => omega
  case c5 => simp; omega
  intro v2 w2 ho2 hg2 _
  have HB2 := Lib.hid ((HB1.out.alloc (by omega) (.cells #[.int .u8 58] 5)).grown hg2 (by simp; omega) hlt1)
  have HK2 := Lib.hid ((HK1.out.alloc (.cells #[.int .u8 58] 5)).grown hg2 hkd1)
  have hs2 := HB2.out.size
  have hkd2 : ∀ g, v2.ownBlock = some g → ∃ c fz, w2.heap[g]? = some (.cells c 5 fz) := fun g e => by
    rcases ho2.2 with ⟨rfl, _⟩ | ⟨g', cap, cur, rfl, _, hg, _⟩
    · cases e
    · cases e; exact ⟨_, _, hg⟩
  have hlt2 : ∀ k, v2.ownBlock = some k → B ≤ k := fun k e => (World.ownsRow.lt ho2 k e).1
  clear ho1a hkd1 hlt1 hg2
  go_wp2_with (at_builtin; refine Lib.wpList_append_own_string _ rfl _ _ 32 9 rfl B 5 i0 Tryd.underlying32 Tryd.underlying9 hinf hz0 hz1 hz2 v2 _ _ rfl ho2 t rfl ?d1 ?d2 ?d3 ?_)
  case d1 => unfold maxLen; omega
  case d2 => omega
  case d3 => omega
  intro v3 w3 ho3 hg3 _
  have HB3 := Lib.hid (HB2.out.grown hg3 (by omega) hlt2)
  have HK3 := Lib.hid (HK2.out.grown hg3 hkd2)
  have hs3 := HB3.out.size
  have ho3a := ho3.alloc (.cells #[.int .u8 44] 5)
  have hkd3 : ∀ g, v3.ownBlock = some g → ∃ c fz, (w3.alloc (.cells #[.int .u8 44] 5)).heap[g]? = some (.cells c 5 fz) := fun g e => by
    rcases ho3a.2 with ⟨rfl, _⟩ | ⟨g', cap, cur, rfl, _, hg, _⟩
    · cases e
    · cases e; exact ⟨_, _, hg⟩
  have hlt3 : ∀ k, v3.ownBlock = some k → B ≤ k := fun k e => (World.ownsRow.lt ho3a k e).1
  clear ho2 hkd2 hlt2 hg3 ho3
  go_wp2_with (at_builtin; refine wpList_append_own _ rfl _ _ 32 rfl B 5 i0 (.int .u8 0) 1 1 Tryd.underlying32 hinf hz0 hz1 hz2 rfl (by decide) v3 _ _ rfl ho3a ⟨w3.heap.size, 0, none⟩ 1 1 [.int .u8 44] rfl rfl ?e1 ?e2 ?e3 ?e4 ?e5 ?_)
  case e1 =>
    intro j u hj
    have hbx := BoxAt.new w3 #[.int .u8 44] 5
    rw [addMid, Nat.zero_add, hbx.cell j]
    simpa using hj
  case e2 => intro u hu; simp at hu; subst hu; rfl
  case e3 => unfold maxLen; omega
  case e4 => omega
  case e5 => simp; omega
  intro v4 w4 ho4 hg4 _
  have HB4 := Lib.hid ((HB3.out.alloc (by omega) (.cells #[.int .u8 44] 5)).grown hg4 (by simp; omega) hlt3)
  have HK4 := Lib.hid ((HK3.out.alloc (.cells #[.int .u8 44] 5)).grown hg4 hkd3)
  have HO4 := Lib.hid ho4
  clear ho3a hkd3 hlt3 hg4 ho4
  go_wp2
  go_ret
  refine ⟨_, rfl, ?_, HB4.out, HK4.out⟩
  have h := HO4.out
  unfold OwnBy encT
  rw [bytes_app, bytes_app, show (58 :: (t.data.toList ++ [44]) : List UInt8) = [58] ++ (t.data.toList ++ [44]) from rfl, bytes_app, bytes_app, List.length_append, List.length_append, List.length_append, List.length_append, size_data]
  have es : Lib.byteCells t.data.toList = Lib.strCells t := rfl
  rw [es]
  have e1 : l.length + ((Lib.decDigits t.size).length + (([58] : List UInt8).length + (t.size + ([44] : List UInt8).length))) = l.length + (Lib.decDigits t.size).length + 1 + t.size + 1 := by simp; omega
  have e2 : Lib.byteCells l ++ (Lib.byteCells (Lib.decDigits t.size) ++ (Lib.byteCells [58] ++ (Lib.strCells t ++ Lib.byteCells [44]))) = Lib.byteCells l ++ (Lib.byteCells (Lib.decDigits t.size) ++ Value.int IntKind.u8 58 :: (Lib.strCells t ++ [Value.int IntKind.u8 44])) := by simp [Lib.byteCells]
  rw [e1, e2]
  exact h
def TX (x : ST) : List ByteArray := (textsS x).map mkS
theorem TX_enc (x : ST) : (TX x).flatMap (fun t => encT t.data.toList) = encS x := by
  unfold TX encS
  generalize textsS x = l
  induction l with
  | nil => rfl
  | cons a l ih => rw [List.map_cons, List.flatMap_cons, List.flatMap_cons, ih, mkS_data]
/-- A step of not too many parts. -/
structure OkS (x : ST) : Prop where
  ws : x.wishes.length ≤ 1000000
  ar : x.args.length ≤ 1000000
  tx : ∀ a ∈ x.args, a.text.size ≤ 4000000
theorem rightS_args {x : ST} (h : rightS x = true) : (x.kind = 0 ∨ x.kind = 1 ∨ x.kind = 2) ∧ (x.kind = 2 → ∀ a ∈ x.args, okA a = true) := by
  unfold rightS at h
  split at h
  · next h0 => exact ⟨.inl h0, fun h2 => by omega⟩
  · split at h
    · next h1 => exact ⟨.inr (.inl h1), fun h2 => by omega⟩
    · split at h
      · next h2 =>
        refine ⟨.inr (.inr h2), fun _ a ha => ?_⟩
        rw [Bool.and_eq_true] at h
        exact List.all_eq_true.1 h.2 a ha
      · cases h
theorem texts_any (x : ST) (A1 A2 : Option Addr) (c1 c2 : Nat) (w : World) (hE : Env w) (hin : StF w (Old w) x A1 A2) (hok : OkS x) (hr : rightS x = true) :
    Calls Tryd.prog 22 #[.agg (stA x A1 c1 A2 c2)] w fun e w' => ∃ A c, e = .returned (.slice A (TX x).length c) ∧ Below w.heap.size w w' ∧ OwnTx w.heap.size w' (.slice A (TX x).length c) (TX x) := by
  obtain ⟨hk, ha⟩ := rightS_args hr
  obtain ⟨q1, q2, q3⟩ := hok
  obtain ⟨k, tag, by_, ov, wi, nm, at_, ar⟩ := x
  unfold stA
  dsimp only at *
  rcases hk with rfl | rfl | rfl
  · have e : TX ⟨0, tag, by_, ov, wi, nm, at_, ar⟩ = [⟨#[97]⟩, tag, mkS [if ov then 49 else 48], by_] := by
      unfold TX textsS
      rw [if_pos rfl]
      simp only [List.map_cons, List.map_nil, mkS_of]
      rfl
    rw [e]
    exact texts_add0 tag by_ nm at_ _ ov A1 A2 wi.length c1 ar.length c2 w (fun W => over_any ov W)
  · have e : TX ⟨1, tag, by_, ov, wi, nm, at_, ar⟩ = [⟨#[99]⟩, tag, mkS (Lib.decDigits wi.length)] ++ wi := by
      unfold TX textsS
      rw [if_neg (show ¬ (1 : Int) = 0 by decide), if_pos rfl]
      simp only [List.map_cons, List.map_map, mkS_of]
      rw [show ((mkS ∘ fun w : ByteArray => w.data.toList) : ByteArray → ByteArray) = id from funext fun w => mkS_of w, List.map_id]
      rfl
    rw [e]
    have h := texts_choose0 tag by_ nm at_ _ ov A1 A2 wi c1 ar.length c2 w hE (itT wi.length (by omega)) (by omega) hin.1
    rw [show ([⟨#[99]⟩, tag, mkS (Lib.decDigits wi.length)] ++ wi : List ByteArray).length = 3 + wi.length from by rw [List.length_append]; rfl]
    exact h
  · have e : TX ⟨2, tag, by_, ov, wi, nm, at_, ar⟩ = [⟨#[113]⟩, nm, at_, mkS (Lib.decDigits ar.length)] ++ argsT ar := by
      unfold TX textsS argsT
      rw [if_neg (show ¬ (2 : Int) = 0 by decide), if_neg (show ¬ (2 : Int) = 1 by decide)]
      simp only [List.map_cons, mkS_of]
      rw [show mkS [113] = ⟨#[113]⟩ from rfl]
      have : (ar.flatMap textsA).map mkS = ar.flatMap fun a => [a.name, sgB a.kind, a.text] := by
        clear ha q2 q3 hin hr
        induction ar with
        | nil => rfl
        | cons a l ih =>
          rw [List.flatMap_cons, List.flatMap_cons, List.map_append, ih]
          unfold textsA sgB
          simp only [List.map_cons, List.map_nil, mkS_of]
      rw [this]
      rfl
    rw [e]
    have h := texts_ask0 tag by_ nm at_ _ ov A1 A2 ar wi.length c1 c2 w hE (itT ar.length (by omega)) q2 hin.2 (fun a h => okA_kind (ha rfl a h))
    rw [show ([⟨#[113]⟩, nm, at_, mkS (Lib.decDigits ar.length)] ++ argsT ar : List ByteArray).length = 4 + ar.length * 3 from by rw [List.length_append, argsT_len]; rfl]
    exact h
end Go.Proofs.YtnkijpjknbelfaaDoor
