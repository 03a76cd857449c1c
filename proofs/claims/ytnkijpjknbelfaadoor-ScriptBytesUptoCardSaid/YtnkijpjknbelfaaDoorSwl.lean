/-
  Package script: a step's texts.
-/
import Derived.Test.YtnkijpjknbelfaaDoorSwk
import Derived.Deep.Upon
namespace Go.Proofs.YtnkijpjknbelfaaDoor
open Go.RowKit
set_option linter.unusedVariables false
set_option linter.unusedSimpArgs false

theorem own_new {W : World} {B g n size : Nat} {t : TypeId} {cs : Array Value} (h : BoxAt W g cs t) (hB : B ≤ g) (hn : cs.size = n * size) (hm : n ≤ maxLen) : W.ownsRow B t size (.slice (some ⟨g, 0, none⟩) n n) n cs.toList :=
  ⟨by simpa using hn, .inr ⟨g, n, cs, rfl, hB, h, Nat.le_refl _, hm, hn, by rw [← hn]; exact List.take_of_length_le (by simp)⟩⟩
section
variable {P : Program} (w : World)
/-- append(out, list...), the list empty or not. -/
theorem run_append_spread (base : Nat) (t ty e : TypeId) (i : TypeInfo) (z : Value) (size bytes : Nat) (ht : P.underlying t = some (.slice e)) (hi : P.info? e = some i) (hz : i.zero = some z)
    (hsize : i.size = size) (hby : i.bytes = bytes) (hzs : z.cells.size = size) (hsz : 0 < size)
    (v : Value) (n : Nat) (xs : List Value) (hown : w.ownsRow base e size v n xs)
    (A : Option Addr) (m c : Nat) (news : List Value) (hl : news.length = m * size) (hnews : 0 < m → ∃ a, A = some a ∧ ∀ j u, news[j]? = some u → w.cell? (a.add j) = some u) (h1 : ∀ u ∈ news, u.oneCell' = true)
    (h63 : n + m ≤ maxLen) (hbytes : (n + m) * bytes ≤ 140737488355328) (hbase : base ≤ w.heap.size) :
    ∃ v' w', (Builtin.append_ #[t, t] ty #[v, .slice A m c]).run P w = .ok v' w' ∧ w'.ownsRow base e size v' (n + m) (xs ++ news) ∧ w.grownBy w' v.ownBlock ∧ (v'.ownBlock = v.ownBlock ∨ v'.ownBlock = some w.heap.size) := by
  by_cases hm : 0 < m
  · obtain ⟨a, rfl, hc⟩ := hnews hm
    exact run_append_where (P := P) w base t ty e i z size bytes ht hi hz hsize hby hzs hsz v n xs hown a m c news hl hc h1 h63 hbytes hbase hm
  · obtain rfl : m = 0 := by omega
    obtain rfl : news = [] := List.eq_nil_of_length_eq_zero (by rw [hl]; simp)
    have hsrc : Src P i.size t (.slice A 0 c) 0 [] w := by
      cases A with
      | none => exact Src.ofNil w ht c
      | some a => exact Src.ofSlice w ht a 0 c [] (by simp) (fun j u h => by simp at h) (fun u h => by cases h)
    have hv : ∃ Av cv, v = .slice Av n cv ∧ n ≤ cv := by
      rcases hown.2 with ⟨rfl, h0⟩ | ⟨g, cap, cur, rfl, _, _, hc, _⟩
      · exact ⟨none, 0, by rw [h0], by omega⟩
      · exact ⟨_, _, rfl, hc⟩
    obtain ⟨Av, cv, rfl, hle⟩ := hv
    exact ⟨_, w, run_append_nothing (P := P) w t t ty e i ht hi Av n cv hle _ hsrc, by rw [List.append_nil]; exact hown, ⟨rfl, rfl, rfl, Nat.le_refl _, fun _ _ _ => rfl⟩, .inl rfl⟩
theorem wpList_append_spread {ops : Array Oper} {rest : List Oper} {o : Oper} {a : Act} {Q : Exit → Act → World → Prop} (hgd : o.guard = none) (s x : Operand) (t : TypeId)
    (ho : o.op = .call { callee := .builtin .append, args := #[s, x], argTypes := #[t, t] })
    (base : Nat) (e : TypeId) (i : TypeInfo) (z : Value) (size bytes : Nat) (ht : P.underlying t = some (.slice e)) (hi : P.info? e = some i) (hz : i.zero = some z)
    (hsize : i.size = size) (hby : i.bytes = bytes) (hzs : z.cells.size = size) (hsz : 0 < size)
    (v : Value) (n : Nat) (xs : List Value) (hs : a.eval s = v) (hown : w.ownsRow base e size v n xs)
    (A : Option Addr) (m c : Nat) (news : List Value) (hx : a.eval x = .slice A m c) (hl : news.length = m * size) (hnews : 0 < m → ∃ a, A = some a ∧ ∀ j u, news[j]? = some u → w.cell? (a.add j) = some u) (h1 : ∀ u ∈ news, u.oneCell' = true)
    (h63 : n + m ≤ maxLen) (hbytes : (n + m) * bytes ≤ 140737488355328) (hbase : base ≤ w.heap.size)
    (h : ∀ v' w', w'.ownsRow base e size v' (n + m) (xs ++ news) → w.grownBy w' v.ownBlock → (v'.ownBlock = v.ownBlock ∨ v'.ownBlock = some w.heap.size) → wpList P ops Q rest (a.put o.dst v') w') : wpList P ops Q (o :: rest) a w := by
  refine wpList_plain hgd fun K hK => ?_
  obtain ⟨v', w', hr, h2, h3, h4⟩ := run_append_spread (P := P) w base t o.type e i z size bytes ht hi hz hsize hby hzs hsz v n xs hown A m c news hl hnews h1 h63 hbytes hbase
  unfold Oper.wp execOp
  simp only [ho, resolve, invoke, builtin, Sem.run_bind, Sem.run_pure, Result.andThen_ok, List.map_toArray, List.map_cons, List.map_nil, hs, hx, hr]
  exact hK _ _ (h v' w' h2 h3 h4)
end
/-- What texts gives. -/
def GotTx (w : World) (l : List (List UInt8)) (e : Ending) (w' : World) : Prop := ∃ A c, e = .returned (.slice A l.length c) ∧ Below w.heap.size w w' ∧ WsIn w' (Snc w.heap.size w') (l.map mkS) A
theorem below_a1 {w W : World} {o : Obj} (h : Below w.heap.size w W) : Below w.heap.size w (W.alloc o) := h.alloc h.size o
theorem over_any (b : Bool) (w : World) : Calls Tryd.prog 33 #[.bool b] w fun e w' => e = .returned (.string (mkS [if b then 49 else 48])) ∧ w' = w := by
  cases b
  · go_enter Tryd.func33, Tryd.ntmps33
    go_wp2
    go_ret
    exact ⟨rfl, rfl⟩
  · go_enter Tryd.func33, Tryd.ntmps33
    go_wp2
    go_ret
    exact ⟨rfl, rfl⟩
def OverT (b : Bool) (s : ByteArray) : Prop := ∀ w : World, Calls Tryd.prog 33 #[.bool b] w fun e w' => e = .returned (.string s) ∧ w' = w
set_option maxHeartbeats 8000000 in
set_option maxRecDepth 100000 in
theorem texts_add0 (tag by_ nm at_ sg : ByteArray) (ov : Bool) (A1 A2 : Option Addr) (n1 c1 n2 c2 : Nat) (w : World) (hO : OverT ov sg) :
    Calls Tryd.prog 22 #[.agg #[.int .i64 0, .string tag, .string by_, .bool ov, .slice A1 n1 c1, .string nm, .string at_, .slice A2 n2 c2]] w fun e w' => ∃ A c, e = .returned (.slice A 4 c) ∧ Below w.heap.size w w' ∧ OwnTx w.heap.size w' (.slice A 4 c) [⟨#[97]⟩, tag, sg, by_] := by
  obtain ⟨i0, hinf, hz0, hz1, hz2⟩ := info_split infoTx
  have HO := Lib.hid hO
  clear hO
  unfold OverT at HO
  go_enter Tryd.func22, Tryd.ntmps22
  go_upto_region 4 with fail
  rw [show (⟨#[97, 99, 113]⟩ : ByteArray).extract 0 1 = ⟨#[97]⟩ from rfl]
  have B1 := (BoxAt.new w #[.int .i64 0, .string tag, .string by_, .bool ov, .slice A1 n1 c1, .string nm, .string at_, .slice A2 n2 c2] 29).alloc (.cells #[.string ⟨#[97]⟩] 9)
  have B2 := BoxAt.new' (w.alloc (.cells #[.int .i64 0, .string tag, .string by_, .bool ov, .slice A1 n1 c1, .string nm, .string at_, .slice A2 n2 c2] 29)) (w.heap.size + 1) #[.string ⟨#[97]⟩] 9 (by simp)
  have K0 := Lib.hid (((Below.refl w.heap.size w).alloc (Nat.le_refl _) (.cells #[.int .i64 0, .string tag, .string by_, .bool ov, .slice A1 n1 c1, .string nm, .string at_, .slice A2 n2 c2] 29)).alloc (by simp) (.cells #[.string ⟨#[97]⟩] 9))
  generalize ((w.alloc (.cells #[.int .i64 0, .string tag, .string by_, .bool ov, .slice A1 n1 c1, .string nm, .string at_, .slice A2 n2 c2] 29)).alloc (.cells #[.string ⟨#[97]⟩] 9)) = W at *
  have HW := Lib.hid (own_new (W := W) (B := w.heap.size + 1) (n := 1) (size := 1) B2 (Nat.le_refl _) rfl (by decide))
  obtain ⟨b0, b1, b2, b3, b4, b5, b6, b7, f0, f1, f2, f3, f4, f5, f6, f7⟩ := cellsB8 B1
  have hl := B2.lt
  clear B1 B2
  have HS := Lib.hid (show ∀ w', Below (w.heap.size + 1) W w' → (w'.cell? ⟨w.heap.size, 1, none⟩ = some (.string tag) ∧ w'.cell? ⟨w.heap.size, 2, none⟩ = some (.string by_) ∧ w'.cell? ⟨w.heap.size, 3, none⟩ = some (.bool ov)) from fun w' g => ⟨(g.cell (p := ⟨w.heap.size, 1, none⟩) (Nat.lt_succ_self w.heap.size)).trans b1, (g.cell (p := ⟨w.heap.size, 2, none⟩) (Nat.lt_succ_self w.heap.size)).trans b2, (g.cell (p := ⟨w.heap.size, 3, none⟩) (Nat.lt_succ_self w.heap.size)).trans b3⟩)
  go_region_held3 (fun w' => w'.cell? ⟨w.heap.size, 1, none⟩ = some (.string tag) ∧ w'.cell? ⟨w.heap.size, 2, none⟩ = some (.string by_) ∧ w'.cell? ⟨w.heap.size, 3, none⟩ = some (.bool ov)) (first | exact HS.out _ q6 | exact HS.out _ ((Below.refl _ _).drew) | exact HS.out _ (((Below.refl _ W).alloc (by omega) _).drew)) (first
    | (refine stepApp rfl (.tmp 17) (.tmp 25) 26 rfl (w.heap.size + 1) 9 i0 (.string ⟨#[]⟩) 1 16 Tryd.underlying26 hinf hz0 hz1 hz2 rfl (by decide) (.slice (some ⟨w.heap.size + 1, 0, none⟩) 1 1) 1 [.string ⟨#[97]⟩] (by simp [Act.eval, Act.put]) (show ((W.alloc (.cells #[.string tag, .string sg, .string by_] 9)).drew).ownsRow (w.heap.size + 1) 9 1 (.slice (some ⟨w.heap.size + 1, 0, none⟩) 1 1) 1 [.string ⟨#[97]⟩] from World.ownsRow.alloc HW.out _) ⟨W.heap.size, 0, none⟩ 3 3 [.string tag, .string sg, .string by_] (by simp [Act.eval, Act.put]) rfl (fun j u hj => by
            have hb := (BoxAt.new W #[.string tag, .string sg, .string by_] 9).drew
            rw [addMid, Nat.zero_add, hb.cell j]
            simpa using hj) (by intro u hu; simp at hu; rcases hu with rfl | rfl | rfl <;> rfl) (by decide) (by decide) (by show w.heap.size + 1 ≤ (W.alloc _).heap.size; rw [World.size_alloc]; omega) (by decide) ?_; intro v' w6 hown hgrow hwh; have K6 := Lib.hid ((K0.out.alloc (by omega) (.cells #[.string tag, .string sg, .string by_] 9)).drew.grown hgrow (by show w.heap.size ≤ (W.alloc _).heap.size; rw [World.size_alloc]; omega) (fun k e => by have h := Option.some.inj (show some (w.heap.size + 1) = some k from e); omega)); obtain ⟨gA, cA, rfl⟩ : ∃ gA cA, v' = Value.slice (some ⟨gA, 0, none⟩) 4 cA := own_some (k := 3) hown; have HOwn := Lib.hid hown; have q6 : Below (w.heap.size + 1) W w6 := ((Below.refl _ W).alloc (by omega) _).drew.grown hgrow (by show w.heap.size + 1 ≤ (W.alloc _).heap.size; rw [World.size_alloc]; omega) (fun k e => by have h := Option.some.inj (show some (w.heap.size + 1) = some k from e); omega); clear hown hgrow hwh)
    | (go_at_call 33; refine (HO.out _).mono ?_; rintro e w5 ⟨rfl, rfl⟩))
  all_goals
    go_wp2
    go_ret
    refine ⟨_, _, rfl, K6.out, ?_⟩
    obtain ⟨q1, q2⟩ := HOwn.out
    refine ⟨q1, ?_⟩
    rcases q2 with ⟨h, _⟩ | ⟨g, cap, cur, h1, h2, h3⟩
    · cases h
    · exact .inr ⟨g, cap, cur, h1, by omega, h3⟩

theorem flat_len {α β : Type} (f : α → List β) (n : Nat) (hf : ∀ a, (f a).length = n) : ∀ l : List α, (l.flatMap f).length = l.length * n
  | [] => by simp
  | a :: l => by rw [List.flatMap_cons, List.length_append, hf, flat_len f n hf l, List.length_cons, Nat.add_mul]; omega
def ItT (n : Nat) (s : ByteArray) : Prop := ∀ w : World, Env w → Calls Tryd.prog 21 #[.int .i64 (n : Int)] w fun e w' => e = .returned (.string s) ∧ Below w.heap.size w w'
theorem itT (n : Nat) (h : n ≤ 4000000) : ItT n (mkS (Lib.decDigits n)) := fun w hE => by
  refine (Tryd.strconv_Itoa n (by omega) (by omega) w hE.tab).mono ?_
  rintro e w' ⟨he, k, os, rfl⟩
  rw [itoa_nat] at he
  exact ⟨he, Lib.below_grow _ w (Nat.le_refl _) k os⟩
theorem own_lower {W : World} {B B' n k : Nat} {t : TypeId} {v : Value} {xs : List Value} (h : W.ownsRow B t n v k xs) (hB : B' ≤ B) : W.ownsRow B' t n v k xs := by
  obtain ⟨q1, q2⟩ := h
  refine ⟨q1, ?_⟩
  rcases q2 with h | ⟨g, cap, cur, h1, h2, h3⟩
  · exact .inl h
  · exact .inr ⟨g, cap, cur, h1, by omega, h3⟩
set_option maxHeartbeats 8000000 in
set_option maxRecDepth 100000 in
theorem texts_choose0 (tag by_ nm at_ sd : ByteArray) (ov : Bool) (A1 A2 : Option Addr) (ws : List ByteArray) (c1 n2 c2 : Nat) (w : World) (hE : Env w) (hI : ItT ws.length sd) (hn : ws.length ≤ 4000000) (hws : WsIn w (Old w) ws A1) :
    Calls Tryd.prog 22 #[.agg #[.int .i64 1, .string tag, .string by_, .bool ov, .slice A1 ws.length c1, .string nm, .string at_, .slice A2 n2 c2]] w fun e w' => ∃ A c, e = .returned (.slice A (3 + ws.length) c) ∧ Below w.heap.size w w' ∧ OwnTx w.heap.size w' (.slice A (3 + ws.length) c) ([⟨#[99]⟩, tag, sd] ++ ws) := by
  obtain ⟨i0, hinf, hz0, hz1, hz2⟩ := info_split infoTx
  have HI := Lib.hid hI
  have HWs := Lib.hid hws
  have HE := Lib.hid hE
  have hn0 : (ws.length : Int) ≤ 4000000 := by omega
  clear hI hws hE
  unfold ItT at HI
  go_enter Tryd.func22, Tryd.ntmps22
  go_upto_region 6 with fail
  rw [show (⟨#[97, 99, 113]⟩ : ByteArray).extract 1 2 = ⟨#[99]⟩ from rfl]
  have B1 := (BoxAt.new w #[.int .i64 1, .string tag, .string by_, .bool ov, .slice A1 ws.length c1, .string nm, .string at_, .slice A2 n2 c2] 29).alloc (.cells #[.string ⟨#[99]⟩] 9)
  have B2 := BoxAt.new' (w.alloc (.cells #[.int .i64 1, .string tag, .string by_, .bool ov, .slice A1 ws.length c1, .string nm, .string at_, .slice A2 n2 c2] 29)) (w.heap.size + 1) #[.string ⟨#[99]⟩] 9 (by simp)
  have K0 := Lib.hid (((Below.refl w.heap.size w).alloc (Nat.le_refl _) (.cells #[.int .i64 1, .string tag, .string by_, .bool ov, .slice A1 ws.length c1, .string nm, .string at_, .slice A2 n2 c2] 29)).alloc (by simp) (.cells #[.string ⟨#[99]⟩] 9))
  generalize ((w.alloc (.cells #[.int .i64 1, .string tag, .string by_, .bool ov, .slice A1 ws.length c1, .string nm, .string at_, .slice A2 n2 c2] 29)).alloc (.cells #[.string ⟨#[99]⟩] 9)) = W at *
  have HW := Lib.hid (show OwnTx (w.heap.size + 1) W (.slice (some ⟨w.heap.size + 1, 0, none⟩) 1 1) [⟨#[99]⟩] from own_new (W := W) (B := w.heap.size + 1) (n := 1) (size := 1) B2 (Nat.le_refl _) rfl (by decide))
  have HEW := Lib.hid (HE.out.below K0.out)
  obtain ⟨b0, b1, b2, b3, b4, b5, b6, b7, f0, f1, f2, f3, f4, f5, f6, f7⟩ := cellsB8 B1
  have hl := B2.lt
  have HS := Lib.hid (show ∀ w', Below (w.heap.size + 1) W w' → (w'.cell? ⟨w.heap.size, 1, none⟩ = some (.string tag) ∧ w'.cell? ⟨w.heap.size, 4, none⟩ = some (.slice A1 ws.length c1)) from fun w' g => ⟨(g.cell (p := ⟨w.heap.size, 1, none⟩) (Nat.lt_succ_self w.heap.size)).trans b1, (g.cell (p := ⟨w.heap.size, 4, none⟩) (Nat.lt_succ_self w.heap.size)).trans b4⟩)
  clear B1 B2
  go_region_held3 (fun w' => w'.cell? ⟨w.heap.size, 1, none⟩ = some (.string tag) ∧ w'.cell? ⟨w.heap.size, 4, none⟩ = some (.slice A1 ws.length c1)) (first | exact HS.out _ q6 | exact HS.out _ ((Below.refl _ _).drew) | exact HS.out _ (q5.alloc (by have := q5.size; omega) _) | exact HS.out _ q5) (first
    | (refine stepApp rfl (.tmp 29) (.tmp 36) 26 rfl (w.heap.size + 1) 9 i0 (.string ⟨#[]⟩) 1 16 Tryd.underlying26 hinf hz0 hz1 hz2 rfl (by decide) (.slice (some ⟨w.heap.size + 1, 0, none⟩) 1 1) 1 [.string ⟨#[99]⟩] (by simp [Act.eval, Act.put]) (World.ownsRow.alloc (OwnG.later HW.out h5) (.cells #[.string tag, .string sd] 9)) ⟨w5.heap.size, 0, none⟩ 2 2 [.string tag, .string sd] (by simp [Act.eval, Act.put]) rfl (fun j u hj => by
            have hb := BoxAt.new w5 #[.string tag, .string sd] 9
            rw [addMid, Nat.zero_add, hb.cell j]
            simpa using hj) (by intro u hu; simp at hu; rcases hu with rfl | rfl <;> rfl) (by decide) (by decide) (by show w.heap.size + 1 ≤ (w5.alloc _).heap.size; rw [World.size_alloc]; have := q5.size; omega) (by decide) ?_; intro v' w6 hown hgrow hwh; have q6 : Below (w.heap.size + 1) W w6 := (q5.alloc (by have := q5.size; omega) (.cells #[.string tag, .string sd] 9)).grown hgrow (by show w.heap.size + 1 ≤ (w5.alloc _).heap.size; rw [World.size_alloc]; have := q5.size; omega) (fun k e => by have h := Option.some.inj (show some (w.heap.size + 1) = some k from e); omega); obtain ⟨gA, cA, rfl⟩ := own_some (k := 2) hown; have HOwn := Lib.hid hown; clear hown hgrow hwh)
    | (go_at_call 21; refine (HI.out _ (HEW.out.below ((Below.refl _ W).drew))).mono ?_; rintro e w5 ⟨rfl, h50⟩; have h5 : Below W.heap.size W w5 := (Below.refl W.heap.size W).drew.trans h50; clear h50; have q5 : Below (w.heap.size + 1) W w5 := h5.mono (by show w.heap.size + 1 ≤ W.heap.size; omega)))
  all_goals
    have HS6 := HS.out _ q6
    obtain ⟨s1, s4⟩ := HS6
    have KW := Lib.hid (K0.out.trans (q6.mono (Nat.le_succ _)))
    have HWs6 := Lib.hid (HWs.out.carry (W' := w6) (F' := Old w) (fun b hb => ⟨hb, KW.out.block b hb⟩))
    have hs6 := q6.size
    have hown6 := HOwn.out
    have HQ6 := Lib.hid q6
    clear q6 b0 b1 b2 b3 b4 b5 b6 b7 f0 f1 f2 f3 f4 f5 f6 f7
    go_wp2_with (at_builtin; refine wpList_append_spread _ rfl _ _ 26 rfl (w.heap.size + 1) 9 i0 (.string ⟨#[]⟩) 1 16 Tryd.underlying26 hinf hz0 hz1 hz2 rfl (by decide) _ 3 _ rfl hown6 A1 ws.length c1 (ws.flatMap txC) rfl ?c1 ?c2 ?c3 ?c4 ?c5 ?c6 ?_)
    case c1 => exact flat_len txC 1 (fun _ => rfl) ws
    case c2 =>
      intro h0
      obtain ⟨b, o, rfl, hb, hc⟩ := HWs6.out h0
      refine ⟨_, rfl, fun j u hj => ?_⟩
      rw [addMid]
      have hj2 : j < ws.length := by
        obtain ⟨q, _⟩ := List.getElem?_eq_some_iff.1 hj
        rw [flat_len txC 1 (fun _ => rfl) ws] at q
        omega
      have := flat_get txC 1 (fun _ => rfl) ws j 0 ws[j] (.string ws[j]) (List.getElem?_eq_getElem hj2) rfl
      rw [Nat.mul_one, Nat.add_zero] at this
      rw [this] at hj
      cases hj
      exact hc j _ (List.getElem?_eq_getElem hj2)
    case c3 =>
      intro u hu
      obtain ⟨a, _, ha⟩ := List.mem_flatMap.1 hu
      simp [txC] at ha
      rw [ha]; rfl
    case c4 => unfold maxLen; omega
    case c5 => omega
    case c6 => omega
    intro v' w8 hown' hgrow hwh
    have hB8 := KW.out.grown hgrow (by omega) (fun k e => by have := World.ownsRow.lt hown6 k e; omega)
    have hv : ∃ A c, v' = .slice A (3 + ws.length) c := by
      rcases hown'.2 with ⟨_, h0⟩ | ⟨g, cap, cur, rfl, _⟩
      · omega
      · exact ⟨_, _, rfl⟩
    obtain ⟨A8, c8, rfl⟩ := hv
    have HB8 := Lib.hid hB8
    have HO8 := Lib.hid (show OwnTx w.heap.size w8 (.slice A8 (3 + ws.length) c8) ([⟨#[99]⟩, tag, sd] ++ ws) from by
      unfold OwnTx OwnG
      rw [List.length_append, List.flatMap_append]
      exact own_lower hown' (Nat.le_succ _))
    clear hown' hgrow hwh hB8 hown6
    go_wp2
    go_ret
    exact ⟨_, _, rfl, HB8.out, HO8.out⟩

def sgB (k : Int) : ByteArray := mkS [signA k]
/-- The texts of arguments. -/
def argsT (l : List SA) : List ByteArray := l.flatMap fun a => [a.name, sgB a.kind, a.text]
theorem argsT_len (l : List SA) : (argsT l).length = l.length * 3 := flat_len _ 3 (fun _ => rfl) l
theorem argsT_snoc (l : List SA) (i : Nat) (a : SA) (h : l[i]? = some a) : argsT (l.take (i + 1)) = argsT (l.take i) ++ [a.name, sgB a.kind, a.text] := by
  unfold argsT
  rw [take_snoc l i a h, List.flatMap_append, List.flatMap_cons, List.flatMap_nil, List.append_nil]
set_option maxHeartbeats 16000000 in
set_option maxRecDepth 100000 in
theorem texts_ask0 (tag by_ nm at_ sd : ByteArray) (ov : Bool) (A1 A2 : Option Addr) (ar : List SA) (n1 c1 c2 : Nat) (w : World) (hE : Env w) (hI : ItT ar.length sd) (hn : ar.length ≤ 1000000) (har : AsIn w (Old w) ar A2) (hk : ∀ a ∈ ar, a.kind = 0 ∨ a.kind = 1 ∨ a.kind = 2) :
    Calls Tryd.prog 22 #[.agg #[.int .i64 2, .string tag, .string by_, .bool ov, .slice A1 n1 c1, .string nm, .string at_, .slice A2 ar.length c2]] w fun e w' => ∃ A c, e = .returned (.slice A (4 + ar.length * 3) c) ∧ Below w.heap.size w w' ∧ OwnTx w.heap.size w' (.slice A (4 + ar.length * 3) c) ([⟨#[113]⟩, nm, at_, sd] ++ argsT ar) := by
  obtain ⟨i0, hinf, hz0, hz1, hz2⟩ := info_split infoTx
  have HI := Lib.hid hI
  have HAr := Lib.hid har
  have HK := Lib.hid hk
  have HE := Lib.hid hE
  have hn0 : (ar.length : Int) ≤ 1000000 := by omega
  clear hI har hE hk
  unfold ItT at HI
  go_enter Tryd.func22, Tryd.ntmps22
  go_upto_region 8 with fail
  rw [show (⟨#[97, 99, 113]⟩ : ByteArray).extract 2 3 = ⟨#[113]⟩ from rfl]
  have B1 := (BoxAt.new w #[.int .i64 2, .string tag, .string by_, .bool ov, .slice A1 n1 c1, .string nm, .string at_, .slice A2 ar.length c2] 29).alloc (.cells #[.string ⟨#[113]⟩] 9)
  have B2 := BoxAt.new' (w.alloc (.cells #[.int .i64 2, .string tag, .string by_, .bool ov, .slice A1 n1 c1, .string nm, .string at_, .slice A2 ar.length c2] 29)) (w.heap.size + 1) #[.string ⟨#[113]⟩] 9 (by simp)
  have K0 := Lib.hid (((Below.refl w.heap.size w).alloc (Nat.le_refl _) (.cells #[.int .i64 2, .string tag, .string by_, .bool ov, .slice A1 n1 c1, .string nm, .string at_, .slice A2 ar.length c2] 29)).alloc (by simp) (.cells #[.string ⟨#[113]⟩] 9))
  generalize ((w.alloc (.cells #[.int .i64 2, .string tag, .string by_, .bool ov, .slice A1 n1 c1, .string nm, .string at_, .slice A2 ar.length c2] 29)).alloc (.cells #[.string ⟨#[113]⟩] 9)) = W at *
  have HW := Lib.hid (show OwnTx (w.heap.size + 1) W (.slice (some ⟨w.heap.size + 1, 0, none⟩) 1 1) [⟨#[113]⟩] from own_new (W := W) (B := w.heap.size + 1) (n := 1) (size := 1) B2 (Nat.le_refl _) rfl (by decide))
  have HEW := Lib.hid (HE.out.below K0.out)
  obtain ⟨b0, b1, b2, b3, b4, b5, b6, b7, f0, f1, f2, f3, f4, f5, f6, f7⟩ := cellsB8 B1
  have hl := B2.lt
  have HS := Lib.hid (show ∀ w', Below (w.heap.size + 1) W w' → (w'.cell? ⟨w.heap.size, 5, none⟩ = some (.string nm) ∧ w'.cell? ⟨w.heap.size, 6, none⟩ = some (.string at_) ∧ w'.cell? ⟨w.heap.size, 7, none⟩ = some (.slice A2 ar.length c2)) from fun w' g => ⟨(g.cell (p := ⟨w.heap.size, 5, none⟩) (Nat.lt_succ_self w.heap.size)).trans b5, (g.cell (p := ⟨w.heap.size, 6, none⟩) (Nat.lt_succ_self w.heap.size)).trans b6, (g.cell (p := ⟨w.heap.size, 7, none⟩) (Nat.lt_succ_self w.heap.size)).trans b7⟩)
  clear B1 B2
  go_region_held3 (fun w' => w'.cell? ⟨w.heap.size, 5, none⟩ = some (.string nm) ∧ w'.cell? ⟨w.heap.size, 6, none⟩ = some (.string at_) ∧ w'.cell? ⟨w.heap.size, 7, none⟩ = some (.slice A2 ar.length c2)) (first | exact HS.out _ q6 | exact HS.out _ ((Below.refl _ _).drew) | exact HS.out _ (q5.alloc (by have := q5.size; omega) _) | exact HS.out _ q5) (first
    | (refine stepApp rfl (.tmp 42) (.tmp 51) 26 rfl (w.heap.size + 1) 9 i0 (.string ⟨#[]⟩) 1 16 Tryd.underlying26 hinf hz0 hz1 hz2 rfl (by decide) (.slice (some ⟨w.heap.size + 1, 0, none⟩) 1 1) 1 [.string ⟨#[113]⟩] (by simp [Act.eval, Act.put]) (World.ownsRow.alloc (OwnG.later HW.out h5) (.cells #[.string nm, .string at_, .string sd] 9)) ⟨w5.heap.size, 0, none⟩ 3 3 [.string nm, .string at_, .string sd] (by simp [Act.eval, Act.put]) rfl (fun j u hj => by
            have hb := BoxAt.new w5 #[.string nm, .string at_, .string sd] 9
            rw [addMid, Nat.zero_add, hb.cell j]
            simpa using hj) (by intro u hu; simp at hu; rcases hu with rfl | rfl | rfl <;> rfl) (by decide) (by decide) (by show w.heap.size + 1 ≤ (w5.alloc _).heap.size; rw [World.size_alloc]; have := q5.size; omega) (by decide) ?_; intro v' w6 hown hgrow hwh; have q6 : Below (w.heap.size + 1) W w6 := (q5.alloc (by have := q5.size; omega) (.cells #[.string nm, .string at_, .string sd] 9)).grown hgrow (by show w.heap.size + 1 ≤ (w5.alloc _).heap.size; rw [World.size_alloc]; have := q5.size; omega) (fun k e => by have h := Option.some.inj (show some (w.heap.size + 1) = some k from e); omega); obtain ⟨gA, cA, rfl⟩ : ∃ gA cA, v' = Value.slice (some ⟨gA, 0, none⟩) 4 cA := own_some (k := 3) hown; have HOwn := Lib.hid hown; clear hown hgrow hwh)
    | (go_at_call 21; refine (HI.out _ (HEW.out.below ((Below.refl _ W).drew))).mono ?_; rintro e w5 ⟨rfl, h50⟩; have h5 : Below W.heap.size W w5 := (Below.refl W.heap.size W).drew.trans h50; clear h50; have q5 : Below (w.heap.size + 1) W w5 := h5.mono (by show w.heap.size + 1 ≤ W.heap.size; omega)))
  all_goals
    have HS6 := HS.out _ q6
    obtain ⟨s5, s6, s7⟩ := HS6
    have KW := Lib.hid (K0.out.trans (q6.mono (Nat.le_succ _)))
    have hs6 := q6.size
    have HO6 := Lib.hid (show OwnTx (w.heap.size + 1) w6 (.slice (some ⟨gA, 0, none⟩) (4 + 0 * 3) cA) ([⟨#[113]⟩, nm, at_, sd] ++ argsT (ar.take 0)) from HOwn.out)
    have HW6 := Lib.hid (show w.heap.size + 1 < w6.heap.size by omega)
    clear q6 b0 b1 b2 b3 b4 b5 b6 b7 f0 f1 f2 f3 f4 f5 f6 f7 HS HOwn HI HEW HW hl hs6 h5 q5
    go_wp2_with fail
    go_loopw [3, 56] (fun t3 t56 wr => ∃ (i : Nat) (g c : Nat), t3 = .slice (some ⟨g, 0, none⟩) (4 + i * 3) c ∧ t56 = .int .i64 i ∧ i ≤ ar.length ∧ Hid (OwnTx (w.heap.size + 1) wr (.slice (some ⟨g, 0, none⟩) (4 + i * 3) c) ([⟨#[113]⟩, nm, at_, sd] ++ argsT (ar.take i))) ∧ Hid (Below w.heap.size w wr) ∧ Hid (w.heap.size + 1 < wr.heap.size)) (fun _ t56 _ => ar.length - (intOf t56).toNat)
    case atStart => exact ⟨0, gA, cA, rfl, rfl, Nat.zero_le _, HO6, KW, HW6⟩
    case round =>
      obtain ⟨i, g, c, rfl, rfl, hi, HO, HB, HL⟩ := hrel
      have hi0 : (i : Int) ≤ 1000000 := by omega
      by_cases hlt : i < ar.length
      · have d1 : decide ((i : Int) < (ar.length : Int)) = true := decide_eq_true (by omega)
        have d2 : (i : Int) < (ar.length : Int) := by omega
        obtain ⟨b, o, rfl, hb, hcs⟩ := HAr.out (by omega)
        obtain ⟨a, ha⟩ : ∃ a, ar[i]? = some a := ⟨_, List.getElem?_eq_getElem hlt⟩
        obtain ⟨k0, k1, k2⟩ := hcs i a ha
        have k0 := (HB.out.cell (p := ⟨b, o + i * 3, none⟩) hb).trans k0
        have k1 := (HB.out.cell (p := ⟨b, o + i * 3 + 1, none⟩) hb).trans k1
        have k2 := (HB.out.cell (p := ⟨b, o + i * 3 + 2, none⟩) hb).trans k2
        have hbr : b < wr.heap.size := Nat.lt_of_lt_of_le hb HB.out.size
        have hkd := HK.out a (List.mem_of_getElem? ha)
        have HAk := Lib.hid (argsT_snoc ar i a ha)
        clear hcs ha
        obtain ⟨an, kd, tx⟩ := a
        dsimp only at k0 k1 k2 hkd HAk
        clear s5 s6 s7
        rcases hkd with rfl | rfl | rfl
        · go_upto_region 12 with fail
          have B3 := BoxAt.new wr #[.string an, .int .i64 0, .string tx] 44
          have KR := Lib.hid ((Below.refl wr.heap.size wr).alloc (Nat.le_refl _) (.cells #[.string an, .int .i64 0, .string tx] 44))
          have hW3 : (wr.alloc (.cells #[.string an, .int .i64 0, .string tx] 44)).heap.size = wr.heap.size + 1 := by simp
          have HO3 := Lib.hid (OwnG.alloc HO.out (.cells #[.string an, .int .i64 0, .string tx] 44))
          generalize wr.alloc (.cells #[.string an, .int .i64 0, .string tx] 44) = W3 at *
          have e0 : W3.cell? ⟨wr.heap.size, 0, none⟩ = some (.string an) := B3.cell 0
          have e1 : W3.cell? ⟨wr.heap.size, 1, none⟩ = some (.int .i64 0) := B3.cell 1
          have e2 : W3.cell? ⟨wr.heap.size, 2, none⟩ = some (.string tx) := B3.cell 2
          have hg : ∀ k, (Value.slice (some ⟨g, 0, none⟩) (4 + i * 3) c).ownBlock = some k → w.heap.size + 1 ≤ k ∧ k < wr.heap.size := fun k e => OwnG.lt HO.out k e
          have HGk := Lib.hid hg
          clear hg
          rw [show sgB 0 = (⟨#[116, 110, 109]⟩ : ByteArray).extract 0 1 from rfl] at HAk
          have HS3 := Lib.hid (show ∀ w' : World, (∀ k, k = wr.heap.size → w'.heap[k]? = W3.heap[k]?) → (w'.cell? ⟨wr.heap.size, 0, none⟩ = some (.string an) ∧ w'.cell? ⟨wr.heap.size, 1, none⟩ = some (.int .i64 0) ∧ w'.cell? ⟨wr.heap.size, 2, none⟩ = some (.string tx)) from fun w' g => ⟨(cellSame (g _ rfl) 0).trans e0, (cellSame (g _ rfl) 1).trans e1, (cellSame (g _ rfl) 2).trans e2⟩)
          have hwr : IntKind.i64.wrap 1 = 1 := by rfl
          go_region_held3 (fun w' => w'.cell? ⟨wr.heap.size, 0, none⟩ = some (.string an) ∧ w'.cell? ⟨wr.heap.size, 1, none⟩ = some (.int .i64 0) ∧ w'.cell? ⟨wr.heap.size, 2, none⟩ = some (.string tx)) (first | exact HS3.out _ q6 | exact HS3.out _ (fun k _ => rfl) | exact HS3.out _ (fun k e => Lib.alloc_old W3 _ k (by omega))) (first
            | (refine stepApp rfl (.tmp 60) (.tmp 71) 26 rfl (w.heap.size + 1) 9 i0 (.string ⟨#[]⟩) 1 16 Tryd.underlying26 hinf hz0 hz1 hz2 rfl (by decide) (.slice (some ⟨g, 0, none⟩) (4 + i * 3) c) (4 + i * 3) (([⟨#[113]⟩, nm, at_, sd] ++ argsT (ar.take i)).flatMap txC) (by simp [Act.eval, Act.put]) (show ((W3.alloc (.cells #[.string an, .string ((⟨#[116, 110, 109]⟩ : ByteArray).extract 0 1), .string tx] 9)).drew).ownsRow (w.heap.size + 1) 9 1 (.slice (some ⟨g, 0, none⟩) (4 + i * 3) c) (4 + i * 3) (([⟨#[113]⟩, nm, at_, sd] ++ argsT (ar.take i)).flatMap txC) from by
                have h := OwnG.alloc HO3.out (.cells #[.string an, .string ((⟨#[116, 110, 109]⟩ : ByteArray).extract 0 1), .string tx] 9)
                unfold OwnG at h
                rw [List.length_append, argsT_len, List.length_take, Nat.min_eq_left hi] at h
                exact h) ⟨W3.heap.size, 0, none⟩ 3 3 [.string an, .string ((⟨#[116, 110, 109]⟩ : ByteArray).extract 0 1), .string tx] (by simp [Act.eval, Act.put]) rfl (fun j u hj => by
                have hb := (BoxAt.new W3 #[.string an, .string ((⟨#[116, 110, 109]⟩ : ByteArray).extract 0 1), .string tx] 9).drew
                rw [addMid, Nat.zero_add, hb.cell j]
                simpa using hj) (by intro u hu; simp at hu; rcases hu with rfl | rfl | rfl <;> rfl) (by unfold maxLen; omega) (by omega) (by show w.heap.size + 1 ≤ (W3.alloc _).heap.size; rw [World.size_alloc]; have := HL.out; omega) (by decide) ?_; intro v' w6 hown hgrow hwh; have q6 : ∀ k, k = wr.heap.size → w6.heap[k]? = W3.heap[k]? := (fun k hk => (hgrow.block k (by show k < (W3.alloc _).heap.size; rw [World.size_alloc]; omega) (fun e => by have := HGk.out k e.symm; omega)).trans (Lib.alloc_old W3 _ k (by omega))); have HB6 := Lib.hid (((HB.out.trans (KR.out.mono HB.out.size)).alloc (by have := HL.out; omega) (.cells #[.string an, .string ((⟨#[116, 110, 109]⟩ : ByteArray).extract 0 1), .string tx] 9)).drew.grown hgrow (by show w.heap.size ≤ (W3.alloc _).heap.size; rw [World.size_alloc]; have := HL.out; omega) (fun k e => by have := HGk.out k e; omega)); have HL6 := Lib.hid (show w.heap.size + 1 < w6.heap.size from by have h1 := hgrow.size; have h2 : (W3.alloc (.cells #[.string an, .string ((⟨#[116, 110, 109]⟩ : ByteArray).extract 0 1), .string tx] 9)).drew.heap.size = W3.heap.size + 1 := (World.size_alloc ..); have := HL.out; omega); obtain ⟨gB, cB, rfl⟩ : ∃ gB cB, v' = Value.slice (some ⟨gB, 0, none⟩) (4 + i * 3 + 3) cB := own_some (k := 4 + i * 3 + 2) hown; have HOwn6 := Lib.hid hown; clear hown hgrow hwh)
            | fail)
          all_goals
            clear q6
            go_wp2
            go_roundw
            case rel =>
              refine ⟨i + 1, gB, cB, by congr 1; omega, by go_num, hlt, Lib.hid ?_, HB6, HL6⟩
              have h := HOwn6.out
              unfold OwnTx OwnG
              rw [HAk.out, ← List.append_assoc, List.flatMap_append, List.length_append, List.length_append, argsT_len, List.length_take, Nat.min_eq_left hi]
              have e3 : 4 + (i + 1) * 3 = 4 + i * 3 + 3 := by omega
              have e4 : ([⟨#[113]⟩, nm, at_, sd] : List ByteArray).length + i * 3 + ([an, ((⟨#[116, 110, 109]⟩ : ByteArray).extract 0 1), tx] : List ByteArray).length = 4 + i * 3 + 3 := by simp
              rw [e3, e4]
              exact h
            case measure => simp [intOf]; omega
        · go_upto_region 12 with fail
          have B3 := BoxAt.new wr #[.string an, .int .i64 1, .string tx] 44
          have KR := Lib.hid ((Below.refl wr.heap.size wr).alloc (Nat.le_refl _) (.cells #[.string an, .int .i64 1, .string tx] 44))
          have hW3 : (wr.alloc (.cells #[.string an, .int .i64 1, .string tx] 44)).heap.size = wr.heap.size + 1 := by simp
          have HO3 := Lib.hid (OwnG.alloc HO.out (.cells #[.string an, .int .i64 1, .string tx] 44))
          generalize wr.alloc (.cells #[.string an, .int .i64 1, .string tx] 44) = W3 at *
          have e0 : W3.cell? ⟨wr.heap.size, 0, none⟩ = some (.string an) := B3.cell 0
          have e1 : W3.cell? ⟨wr.heap.size, 1, none⟩ = some (.int .i64 1) := B3.cell 1
          have e2 : W3.cell? ⟨wr.heap.size, 2, none⟩ = some (.string tx) := B3.cell 2
          have hg : ∀ k, (Value.slice (some ⟨g, 0, none⟩) (4 + i * 3) c).ownBlock = some k → w.heap.size + 1 ≤ k ∧ k < wr.heap.size := fun k e => OwnG.lt HO.out k e
          have HGk := Lib.hid hg
          clear hg
          rw [show sgB 1 = (⟨#[116, 110, 109]⟩ : ByteArray).extract 1 2 from rfl] at HAk
          have HS3 := Lib.hid (show ∀ w' : World, (∀ k, k = wr.heap.size → w'.heap[k]? = W3.heap[k]?) → (w'.cell? ⟨wr.heap.size, 0, none⟩ = some (.string an) ∧ w'.cell? ⟨wr.heap.size, 1, none⟩ = some (.int .i64 1) ∧ w'.cell? ⟨wr.heap.size, 2, none⟩ = some (.string tx)) from fun w' g => ⟨(cellSame (g _ rfl) 0).trans e0, (cellSame (g _ rfl) 1).trans e1, (cellSame (g _ rfl) 2).trans e2⟩)
          have hwr : IntKind.i64.wrap 2 = 2 := by rfl
          go_region_held3 (fun w' => w'.cell? ⟨wr.heap.size, 0, none⟩ = some (.string an) ∧ w'.cell? ⟨wr.heap.size, 1, none⟩ = some (.int .i64 1) ∧ w'.cell? ⟨wr.heap.size, 2, none⟩ = some (.string tx)) (first | exact HS3.out _ q6 | exact HS3.out _ (fun k _ => rfl) | exact HS3.out _ (fun k e => Lib.alloc_old W3 _ k (by omega))) (first
            | (refine stepApp rfl (.tmp 60) (.tmp 71) 26 rfl (w.heap.size + 1) 9 i0 (.string ⟨#[]⟩) 1 16 Tryd.underlying26 hinf hz0 hz1 hz2 rfl (by decide) (.slice (some ⟨g, 0, none⟩) (4 + i * 3) c) (4 + i * 3) (([⟨#[113]⟩, nm, at_, sd] ++ argsT (ar.take i)).flatMap txC) (by simp [Act.eval, Act.put]) (show ((W3.alloc (.cells #[.string an, .string ((⟨#[116, 110, 109]⟩ : ByteArray).extract 1 2), .string tx] 9)).drew).ownsRow (w.heap.size + 1) 9 1 (.slice (some ⟨g, 0, none⟩) (4 + i * 3) c) (4 + i * 3) (([⟨#[113]⟩, nm, at_, sd] ++ argsT (ar.take i)).flatMap txC) from by
                have h := OwnG.alloc HO3.out (.cells #[.string an, .string ((⟨#[116, 110, 109]⟩ : ByteArray).extract 1 2), .string tx] 9)
                unfold OwnG at h
                rw [List.length_append, argsT_len, List.length_take, Nat.min_eq_left hi] at h
                exact h) ⟨W3.heap.size, 0, none⟩ 3 3 [.string an, .string ((⟨#[116, 110, 109]⟩ : ByteArray).extract 1 2), .string tx] (by simp [Act.eval, Act.put]) rfl (fun j u hj => by
                have hb := (BoxAt.new W3 #[.string an, .string ((⟨#[116, 110, 109]⟩ : ByteArray).extract 1 2), .string tx] 9).drew
                rw [addMid, Nat.zero_add, hb.cell j]
                simpa using hj) (by intro u hu; simp at hu; rcases hu with rfl | rfl | rfl <;> rfl) (by unfold maxLen; omega) (by omega) (by show w.heap.size + 1 ≤ (W3.alloc _).heap.size; rw [World.size_alloc]; have := HL.out; omega) (by decide) ?_; intro v' w6 hown hgrow hwh; have q6 : ∀ k, k = wr.heap.size → w6.heap[k]? = W3.heap[k]? := (fun k hk => (hgrow.block k (by show k < (W3.alloc _).heap.size; rw [World.size_alloc]; omega) (fun e => by have := HGk.out k e.symm; omega)).trans (Lib.alloc_old W3 _ k (by omega))); have HB6 := Lib.hid (((HB.out.trans (KR.out.mono HB.out.size)).alloc (by have := HL.out; omega) (.cells #[.string an, .string ((⟨#[116, 110, 109]⟩ : ByteArray).extract 1 2), .string tx] 9)).drew.grown hgrow (by show w.heap.size ≤ (W3.alloc _).heap.size; rw [World.size_alloc]; have := HL.out; omega) (fun k e => by have := HGk.out k e; omega)); have HL6 := Lib.hid (show w.heap.size + 1 < w6.heap.size from by have h1 := hgrow.size; have h2 : (W3.alloc (.cells #[.string an, .string ((⟨#[116, 110, 109]⟩ : ByteArray).extract 1 2), .string tx] 9)).drew.heap.size = W3.heap.size + 1 := (World.size_alloc ..); have := HL.out; omega); obtain ⟨gB, cB, rfl⟩ : ∃ gB cB, v' = Value.slice (some ⟨gB, 0, none⟩) (4 + i * 3 + 3) cB := own_some (k := 4 + i * 3 + 2) hown; have HOwn6 := Lib.hid hown; clear hown hgrow hwh)
            | fail)
          all_goals
            clear q6
            go_wp2
            go_roundw
            case rel =>
              refine ⟨i + 1, gB, cB, by congr 1; omega, by go_num, hlt, Lib.hid ?_, HB6, HL6⟩
              have h := HOwn6.out
              unfold OwnTx OwnG
              rw [HAk.out, ← List.append_assoc, List.flatMap_append, List.length_append, List.length_append, argsT_len, List.length_take, Nat.min_eq_left hi]
              have e3 : 4 + (i + 1) * 3 = 4 + i * 3 + 3 := by omega
              have e4 : ([⟨#[113]⟩, nm, at_, sd] : List ByteArray).length + i * 3 + ([an, ((⟨#[116, 110, 109]⟩ : ByteArray).extract 1 2), tx] : List ByteArray).length = 4 + i * 3 + 3 := by simp
              rw [e3, e4]
              exact h
            case measure => simp [intOf]; omega
        · go_upto_region 12 with fail
          have B3 := BoxAt.new wr #[.string an, .int .i64 2, .string tx] 44
          have KR := Lib.hid ((Below.refl wr.heap.size wr).alloc (Nat.le_refl _) (.cells #[.string an, .int .i64 2, .string tx] 44))
          have hW3 : (wr.alloc (.cells #[.string an, .int .i64 2, .string tx] 44)).heap.size = wr.heap.size + 1 := by simp
          have HO3 := Lib.hid (OwnG.alloc HO.out (.cells #[.string an, .int .i64 2, .string tx] 44))
          generalize wr.alloc (.cells #[.string an, .int .i64 2, .string tx] 44) = W3 at *
          have e0 : W3.cell? ⟨wr.heap.size, 0, none⟩ = some (.string an) := B3.cell 0
          have e1 : W3.cell? ⟨wr.heap.size, 1, none⟩ = some (.int .i64 2) := B3.cell 1
          have e2 : W3.cell? ⟨wr.heap.size, 2, none⟩ = some (.string tx) := B3.cell 2
          have hg : ∀ k, (Value.slice (some ⟨g, 0, none⟩) (4 + i * 3) c).ownBlock = some k → w.heap.size + 1 ≤ k ∧ k < wr.heap.size := fun k e => OwnG.lt HO.out k e
          have HGk := Lib.hid hg
          clear hg
          rw [show sgB 2 = (⟨#[116, 110, 109]⟩ : ByteArray).extract 2 3 from rfl] at HAk
          have HS3 := Lib.hid (show ∀ w' : World, (∀ k, k = wr.heap.size → w'.heap[k]? = W3.heap[k]?) → (w'.cell? ⟨wr.heap.size, 0, none⟩ = some (.string an) ∧ w'.cell? ⟨wr.heap.size, 1, none⟩ = some (.int .i64 2) ∧ w'.cell? ⟨wr.heap.size, 2, none⟩ = some (.string tx)) from fun w' g => ⟨(cellSame (g _ rfl) 0).trans e0, (cellSame (g _ rfl) 1).trans e1, (cellSame (g _ rfl) 2).trans e2⟩)
          have hwr : IntKind.i64.wrap 3 = 3 := by rfl
          go_region_held3 (fun w' => w'.cell? ⟨wr.heap.size, 0, none⟩ = some (.string an) ∧ w'.cell? ⟨wr.heap.size, 1, none⟩ = some (.int .i64 2) ∧ w'.cell? ⟨wr.heap.size, 2, none⟩ = some (.string tx)) (first | exact HS3.out _ q6 | exact HS3.out _ (fun k _ => rfl) | exact HS3.out _ (fun k e => Lib.alloc_old W3 _ k (by omega))) (first
            | (refine stepApp rfl (.tmp 60) (.tmp 71) 26 rfl (w.heap.size + 1) 9 i0 (.string ⟨#[]⟩) 1 16 Tryd.underlying26 hinf hz0 hz1 hz2 rfl (by decide) (.slice (some ⟨g, 0, none⟩) (4 + i * 3) c) (4 + i * 3) (([⟨#[113]⟩, nm, at_, sd] ++ argsT (ar.take i)).flatMap txC) (by simp [Act.eval, Act.put]) (show ((W3.alloc (.cells #[.string an, .string ((⟨#[116, 110, 109]⟩ : ByteArray).extract 2 3), .string tx] 9)).drew).ownsRow (w.heap.size + 1) 9 1 (.slice (some ⟨g, 0, none⟩) (4 + i * 3) c) (4 + i * 3) (([⟨#[113]⟩, nm, at_, sd] ++ argsT (ar.take i)).flatMap txC) from by
                have h := OwnG.alloc HO3.out (.cells #[.string an, .string ((⟨#[116, 110, 109]⟩ : ByteArray).extract 2 3), .string tx] 9)
                unfold OwnG at h
                rw [List.length_append, argsT_len, List.length_take, Nat.min_eq_left hi] at h
                exact h) ⟨W3.heap.size, 0, none⟩ 3 3 [.string an, .string ((⟨#[116, 110, 109]⟩ : ByteArray).extract 2 3), .string tx] (by simp [Act.eval, Act.put]) rfl (fun j u hj => by
                have hb := (BoxAt.new W3 #[.string an, .string ((⟨#[116, 110, 109]⟩ : ByteArray).extract 2 3), .string tx] 9).drew
                rw [addMid, Nat.zero_add, hb.cell j]
                simpa using hj) (by intro u hu; simp at hu; rcases hu with rfl | rfl | rfl <;> rfl) (by unfold maxLen; omega) (by omega) (by show w.heap.size + 1 ≤ (W3.alloc _).heap.size; rw [World.size_alloc]; have := HL.out; omega) (by decide) ?_; intro v' w6 hown hgrow hwh; have q6 : ∀ k, k = wr.heap.size → w6.heap[k]? = W3.heap[k]? := (fun k hk => (hgrow.block k (by show k < (W3.alloc _).heap.size; rw [World.size_alloc]; omega) (fun e => by have := HGk.out k e.symm; omega)).trans (Lib.alloc_old W3 _ k (by omega))); have HB6 := Lib.hid (((HB.out.trans (KR.out.mono HB.out.size)).alloc (by have := HL.out; omega) (.cells #[.string an, .string ((⟨#[116, 110, 109]⟩ : ByteArray).extract 2 3), .string tx] 9)).drew.grown hgrow (by show w.heap.size ≤ (W3.alloc _).heap.size; rw [World.size_alloc]; have := HL.out; omega) (fun k e => by have := HGk.out k e; omega)); have HL6 := Lib.hid (show w.heap.size + 1 < w6.heap.size from by have h1 := hgrow.size; have h2 : (W3.alloc (.cells #[.string an, .string ((⟨#[116, 110, 109]⟩ : ByteArray).extract 2 3), .string tx] 9)).drew.heap.size = W3.heap.size + 1 := (World.size_alloc ..); have := HL.out; omega); obtain ⟨gB, cB, rfl⟩ : ∃ gB cB, v' = Value.slice (some ⟨gB, 0, none⟩) (4 + i * 3 + 3) cB := own_some (k := 4 + i * 3 + 2) hown; have HOwn6 := Lib.hid hown; clear hown hgrow hwh)
            | fail)
          all_goals
            clear q6
            go_wp2
            go_roundw
            case rel =>
              refine ⟨i + 1, gB, cB, by congr 1; omega, by go_num, hlt, Lib.hid ?_, HB6, HL6⟩
              have h := HOwn6.out
              unfold OwnTx OwnG
              rw [HAk.out, ← List.append_assoc, List.flatMap_append, List.length_append, List.length_append, argsT_len, List.length_take, Nat.min_eq_left hi]
              have e3 : 4 + (i + 1) * 3 = 4 + i * 3 + 3 := by omega
              have e4 : ([⟨#[113]⟩, nm, at_, sd] : List ByteArray).length + i * 3 + ([an, ((⟨#[116, 110, 109]⟩ : ByteArray).extract 2 3), tx] : List ByteArray).length = 4 + i * 3 + 3 := by simp
              rw [e3, e4]
              exact h
            case measure => simp [intOf]; omega
      · have d1 : decide ((i : Int) < (ar.length : Int)) = false := decide_eq_false (by omega)
        have d2 : ¬ (i : Int) < (ar.length : Int) := by omega
        obtain rfl : i = ar.length := by omega
        have hO := HO.out
        rw [List.take_length] at hO
        have HO2 := Lib.hid hO
        clear hO
        go_wp2
        go_ret
        exact ⟨_, _, rfl, HB.out, own_lower HO2.out (Nat.le_succ _)⟩
end Go.Proofs.YtnkijpjknbelfaaDoor
