import Derived.Test.YtgjbgfnchlogdaaDoorRune
import Derived.BigCall
import Derived.Laws.BitsLemmas
import Derived.Test.YtgjbgfnchlogdaaDoorShelf
namespace Go.Proofs.YtgjbgfnchlogdaaDoor
open Go.RowKit
set_option linter.unusedVariables false
set_option linter.unusedSimpArgs false

/-- A hexadecimal digit's value, and whether it is one. -/
def hexV (c : UInt8) : Int × Bool :=
  if 48 ≤ c.toNat ∧ c.toNat ≤ 57 then ((c.toNat : Int) - 48, true) else if 97 ≤ c.toNat ∧ c.toNat ≤ 102 then ((c.toNat : Int) - 97 + 10, true) else if 65 ≤ c.toNat ∧ c.toNat ≤ 70 then ((c.toNat : Int) - 65 + 10, true) else (0, false)
theorem hexV_range (c : UInt8) : 0 ≤ (hexV c).1 ∧ (hexV c).1 ≤ 15 := by
  unfold hexV
  (repeat' split) <;> (dsimp only) <;> omega
set_option maxHeartbeats 1000000 in
theorem hexValue_any (c : UInt8) (w : World) : Calls Tryd.prog 35 #[.int .u8 (c.toNat : Int)] w fun e w' => e = .returned (.tuple #[.int .i32 (hexV c).1, .bool (hexV c).2]) ∧ w = w' := by
  have h256 := c.toNat_lt
  have hx : ((c.toNat : Int) < 48 ∧ hexV c = (0, false)) ∨ (48 ≤ (c.toNat : Int) ∧ (c.toNat : Int) ≤ 57 ∧ hexV c = ((c.toNat : Int) - 48, true)) ∨ (58 ≤ (c.toNat : Int) ∧ (c.toNat : Int) ≤ 64 ∧ hexV c = (0, false)) ∨ (65 ≤ (c.toNat : Int) ∧ (c.toNat : Int) ≤ 70 ∧ hexV c = ((c.toNat : Int) - 65 + 10, true)) ∨ (71 ≤ (c.toNat : Int) ∧ (c.toNat : Int) ≤ 96 ∧ hexV c = (0, false)) ∨ (97 ≤ (c.toNat : Int) ∧ (c.toNat : Int) ≤ 102 ∧ hexV c = ((c.toNat : Int) - 97 + 10, true)) ∨ (103 ≤ (c.toNat : Int) ∧ hexV c = (0, false)) := by
    unfold hexV
    by_cases h1 : 48 ≤ c.toNat ∧ c.toNat ≤ 57
    · rw [if_pos h1]; right; left; exact ⟨by omega, by omega, rfl⟩
    · rw [if_neg h1]
      by_cases h2 : 97 ≤ c.toNat ∧ c.toNat ≤ 102
      · rw [if_pos h2]; right; right; right; right; right; left; exact ⟨by omega, by omega, rfl⟩
      · rw [if_neg h2]
        by_cases h3 : 65 ≤ c.toNat ∧ c.toNat ≤ 70
        · rw [if_pos h3]; right; right; right; left; exact ⟨by omega, by omega, rfl⟩
        · rw [if_neg h3]
          by_cases a1 : c.toNat < 48
          · left; exact ⟨by omega, rfl⟩
          · by_cases a2 : c.toNat ≤ 64
            · right; right; left; exact ⟨by omega, by omega, rfl⟩
            · by_cases a3 : c.toNat ≤ 96
              · right; right; right; right; left; exact ⟨by omega, by omega, rfl⟩
              · right; right; right; right; right; right; exact ⟨by omega, rfl⟩
  generalize hexV c = v at *
  rcases hx with ⟨h1, rfl⟩ | ⟨h1, h2, rfl⟩ | ⟨h1, h2, rfl⟩ | ⟨h1, h2, rfl⟩ | ⟨h1, h2, rfl⟩ | ⟨h1, h2, rfl⟩ | ⟨h1, rfl⟩
  all_goals
    go_enter Tryd.func35, Tryd.ntmps35
    go_wp2
    go_ret2
    exact ⟨rfl, rfl⟩

/-- The number that hexadecimal digits tell. -/
def hexN (l : List UInt8) : Int := l.foldl (fun n c => 16 * n + (hexV c).1) 0
theorem hexN_snoc (l : List UInt8) (c : UInt8) : hexN (l ++ [c]) = 16 * hexN l + (hexV c).1 := by
  unfold hexN
  rw [List.foldl_append]
  rfl
theorem hexN_range (l : List UInt8) : ∀ j, j ≤ l.length → 0 ≤ hexN (l.take j) ∧ hexN (l.take j) < ((16 ^ j : Nat) : Int)
  | 0, _ => ⟨by simp [hexN], by simp [hexN]⟩
  | j + 1, h => by
    have ih := hexN_range l j (by omega)
    have := hexV_range (l[j]'(by omega))
    rw [List.take_succ_eq_append_getElem (by omega), hexN_snoc, Nat.pow_succ, Int.natCast_mul]
    omega

theorem hexV_take_succ (l : List UInt8) (j : Nat) (hj : j < l.length) : hexN (l.take (j + 1)) = 16 * hexN (l.take j) + (hexV l[j]).1 := by
  rw [List.take_succ_eq_append_getElem hj, hexN_snoc]
theorem hexOk_take_succ (l : List UInt8) (j : Nat) (hj : j < l.length) : (l.take (j + 1)).all (fun c => (hexV c).2) = ((l.take j).all (fun c => (hexV c).2) && (hexV l[j]).2) := by
  rw [List.take_succ_eq_append_getElem hj, List.all_append]
  simp
theorem or_sixteen (n v : Int) (h0 : 0 ≤ n) (h1 : n < 16777216) (v0 : 0 ≤ v) (v1 : v < 16) : bits BinOp.or IntKind.i32 (n * 16) v = 16 * n + v := by
  rw [bits_join .i32 31 (by decide) wraps_i32 4 (n * 16) v (by omega) (by omega) (by omega) v0 (by omega) (by omega)]
  omega
/-- A sign's number, as it may be. -/
def runeOk (n : Int) : Int := if Lib.validRune n = true then n else 65533
/-- What hexadecimal digits behind two bytes tell, and how many bytes all have; 0: nothing. -/
def numV (l : List UInt8) (d : Nat) : Int × Nat := if 2 + d ≤ l.length ∧ ((l.drop 2).take d).all (fun c => (hexV c).2) = true then (runeOk (hexN ((l.drop 2).take d)), 2 + d) else (0, 0)

set_option maxHeartbeats 2000000 in
set_option maxRecDepth 100000 in
theorem numbered_any (s : ByteArray) (d : Nat) (hd : d ≤ 6) (w : World) (hs : s.size ≤ 1000000) : Calls Tryd.prog 30 #[.string s, .int .i64 d] w fun e w' => e = .returned (.tuple #[.int .i32 (numV s.data.toList d).1, .int .i64 (numV s.data.toList d).2]) ∧ w = w' := by
  by_cases hlen : (s.size : Int) < 2 + d
  · have hv : numV s.data.toList d = (0, 0) := by
      unfold numV
      rw [if_neg (by rw [size_data]; omega)]
    rw [hv]
    go_enter Tryd.func30, Tryd.ntmps30
    go_wp2
    go_ret2
    exact ⟨rfl, rfl⟩
  · have hql : ((s.data.toList.drop 2).take d).length = d := by rw [List.length_take, List.length_drop, size_data]; omega
    have hqa : ∀ j (_ : j < d) (hb : 2 + j < s.size), ((s.data.toList.drop 2).take d)[j]? = some (s[2 + j]'hb) := by
      intro j hj hb
      rw [List.getElem?_take_of_lt hj, List.getElem?_drop, List.getElem?_eq_getElem (by rw [size_data]; omega)]
      rfl
    have hnum : numV s.data.toList d = if ((s.data.toList.drop 2).take d).all (fun c => (hexV c).2) = true then (runeOk (hexN ((s.data.toList.drop 2).take d)), 2 + d) else (0, 0) := by
      unfold numV
      by_cases hall : ((s.data.toList.drop 2).take d).all (fun c => (hexV c).2) = true
      · rw [if_pos ⟨by rw [size_data]; omega, hall⟩, if_pos hall]
      · rw [if_neg (fun h => hall h.2), if_neg hall]
    generalize numV s.data.toList d = r at *
    generalize (s.data.toList.drop 2).take d = q at *
    have Hnum := Lib.hid hnum
    clear hnum
    have Hql := Lib.hid hql
    have Hqa := Lib.hid hqa
    clear hql hqa
    go_enter Tryd.func30, Tryd.ntmps30
    go_wp2
    go_loop [7, 18] (fun n i => ∃ (j : Nat) (z : Int), j ≤ d ∧ n = .int .i32 z ∧ i = .int .i64 j ∧ Hid (z = hexN (q.take j)) ∧ Hid ((q.take j).all (fun c => (hexV c).2) = true)) (fun _ i => d - (intOf i).toNat)
    case atStart => exact ⟨0, 0, Nat.zero_le _, rfl, rfl, rfl, rfl⟩
    case round =>
      obtain ⟨j, n, hj, rfl, rfl, hn, hok⟩ := hrel
      by_cases hlt : j < d
      · have hr := hexN_range q j (by rw [Hql.out]; omega)
        have hjl : j < q.length := by rw [Hql.out]; exact hlt
        have hq : q[j] = s[2 + j]'(by omega) := by
          have := Hqa.out j hlt (by omega)
          rw [List.getElem?_eq_getElem hjl] at this
          exact Option.some.inj this
        have h1 := hexV_take_succ q j hjl
        have h2 := hexOk_take_succ q j hjl
        rw [hq] at h1 h2
        rw [hok.out, Bool.true_and] at h2
        have hvr := hexV_range (s[2 + j]'(by omega))
        have hp : (16 ^ j : Nat) ≤ 16 ^ 5 := Nat.pow_le_pow_right (by decide) (by omega)
        have hr1 := hr.1
        have hr2 : hexN (q.take j) < 1048576 := by
          have : (16 ^ 5 : Nat) = 1048576 := by decide
          omega
        have hi0 : (0 : Int) ≤ 2 + (j : Int) := by omega
        have hi1 : 2 + (j : Int) < s.size := by omega
        have hi2 : (2 + (j : Int)).toNat = 2 + j := by omega
        have H1 := Lib.hid h1
        have H2 := Lib.hid h2
        have hv0 := hvr.1
        have hv1 := hvr.2
        clear hq hr hjl h1 h2 hvr hp
        have hcall := fun W => hexValue_any (s[2 + j]'(by omega)) W
        rw [← hn.out] at hr1 hr2
        generalize hx : hexV (s[2 + j]'(by omega)) = hv at *
        obtain ⟨v, ok⟩ := hv
        have Hx := Lib.hid hx
        clear hx
        dsimp only at hv0 hv1 hcall
        cases ok
        · go_wp2_with fail
          go_at_call 35
          refine (hcall _).mono ?_
          rintro e w2 ⟨rfl, rfl⟩
          go_wp2
          go_ret2
          have hall : ¬ q.all (fun c => (hexV c).2) = true := by
            intro h
            have h3 : (q.take (j + 1)).all (fun c => (hexV c).2) = true := List.all_eq_true.2 (fun c hc => List.all_eq_true.1 h c (List.mem_of_mem_take hc))
            rw [H2.out] at h3
            exact absurd h3 (by decide)
          have hr0 := Hnum.out
          rw [if_neg hall] at hr0
          rw [hr0]
          exact ⟨rfl, rfl⟩
        · go_wp2_with fail
          go_at_call 35
          refine (hcall _).mono ?_
          rintro e w2 ⟨rfl, rfl⟩
          have hor := or_sixteen n v hr1 (by omega) hv0 (by omega)
          go_wp2
          go_round
          case rel => exact ⟨j + 1, _, by omega, rfl, by go_num, by show _ = _; rw [H1.out, hn.out], H2.out⟩
          case measure => simp [intOf]; omega
      · obtain rfl : j = d := by omega
        have hqt : q.take j = q := List.take_of_length_le (by rw [Hql.out]; exact Nat.le_refl _)
        rw [hqt] at hok
        have hn' := hn.out
        rw [hqt] at hn'
        have hr := hexN_range q j (by rw [Hql.out]; exact Nat.le_refl _)
        rw [hqt, ← hn'] at hr
        have hr0 := Hnum.out
        rw [if_pos hok.out, ← hn'] at hr0
        unfold runeOk at hr0
        clear hqt hn' Hnum hok hn
        by_cases hv : Lib.validRune n = true
        · rw [if_pos hv] at hr0
          subst hr0
          go_wp2_with fail
          go_at_call 36
          refine (Tryd.utf8_ValidRune _ _).mono ?_
          rintro e w2 ⟨rfl, rfl⟩
          go_wp2
          go_ret2
          exact ⟨by simp, rfl⟩
        · rw [if_neg hv] at hr0
          subst hr0
          have hvf : Lib.validRune n = false := by simpa using hv
          go_wp2_with fail
          go_at_call 36
          refine (Tryd.utf8_ValidRune _ _).mono ?_
          rintro e w2 ⟨rfl, rfl⟩
          go_wp2
          go_ret2
          exact ⟨by simp, rfl⟩
end Go.Proofs.YtgjbgfnchlogdaaDoor
