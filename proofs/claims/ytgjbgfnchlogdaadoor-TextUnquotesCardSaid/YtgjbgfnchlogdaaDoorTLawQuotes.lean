/-
  TextQuotes: whatever text between quotes, with anything behind: it is told again. Conditions: the program's own tables as its text lays them.
-/
import Derived.Test.YtgjbgfnchlogdaaDoorTMath4
import Derived.Test.YtgjbgfnchlogdaaDoorTLRight
import Derived.Deep.CutBlock
namespace Go.Proofs.YtgjbgfnchlogdaaDoor
open Go.RowKit
set_option linter.unusedVariables false
set_option linter.unusedSimpArgs false

def bytesV (l : List UInt8) : ByteArray := ⟨l.toArray⟩
theorem bytesV_size (l : List UInt8) : (bytesV l).size = l.length := size_mk l
theorem bytesV_app (a b : List UInt8) : bytesV a ++ bytesV b = bytesV (a ++ b) := by
  apply bytes_eq
  rw [app_data]
  rfl
theorem bytesV_toList (l : List UInt8) : (bytesV l).toList = l := mk_toList l
theorem take_flat (xs : List (List UInt8)) (j : Nat) (hj : j < xs.length) : ((xs.take (j + 1)).map quoteX).flatten = ((xs.take j).map quoteX).flatten ++ quoteX xs[j] := by
  rw [List.take_succ_eq_append_getElem hj, List.map_append, List.flatten_append]
  simp
theorem flat_len : ∀ (xs : List (List UInt8)), (∀ q ∈ xs, q.length ≤ 4) → ((xs.map quoteX).flatten).length ≤ 6 * xs.length
  | [], _ => by simp
  | q :: xs, h => by
    have h1 := quoteX_len q (h q (by simp))
    have h2 := flat_len xs (fun p hp => h p (by simp [hp]))
    simp only [List.map_cons, List.flatten_cons, List.length_append, List.length_cons]
    omega

theorem tab8 (x : Nat) (hx : x < 8) : (#[Value.string ⟨#[48]⟩, Value.string ⟨#[49]⟩, Value.string ⟨#[50]⟩, Value.string ⟨#[51]⟩, Value.string ⟨#[52]⟩, Value.string ⟨#[53]⟩, Value.string ⟨#[54]⟩, Value.string ⟨#[55]⟩] : Array Value)[x]? = some (.string ⟨#[hexC x]⟩) := by
  rcases x with _ | _ | _ | _ | _ | _ | _ | _ | x <;> first | rfl | omega
theorem tab16 (x : Nat) (hx : x < 16) : (#[Value.string ⟨#[48]⟩, Value.string ⟨#[49]⟩, Value.string ⟨#[50]⟩, Value.string ⟨#[51]⟩, Value.string ⟨#[52]⟩, Value.string ⟨#[53]⟩, Value.string ⟨#[54]⟩, Value.string ⟨#[55]⟩, Value.string ⟨#[56]⟩, Value.string ⟨#[57]⟩, Value.string ⟨#[65]⟩, Value.string ⟨#[66]⟩, Value.string ⟨#[67]⟩, Value.string ⟨#[68]⟩, Value.string ⟨#[69]⟩, Value.string ⟨#[70]⟩] : Array Value)[x]? = some (.string ⟨#[hexC x]⟩) := by
  rcases x with _ | _ | _ | _ | _ | _ | _ | _ | _ | _ | _ | _ | _ | _ | _ | _ | x <;> first | rfl | omega

theorem tabL8 (x : Nat) (hx : x < 8) : ∀ h, ([Value.string ⟨#[48]⟩, Value.string ⟨#[49]⟩, Value.string ⟨#[50]⟩, Value.string ⟨#[51]⟩, Value.string ⟨#[52]⟩, Value.string ⟨#[53]⟩, Value.string ⟨#[54]⟩, Value.string ⟨#[55]⟩] : List Value)[x]'h = .string ⟨#[hexC x]⟩ := by
  intro h
  have := tab8 x hx
  rw [List.getElem?_toArray, List.getElem?_eq_getElem h] at this
  exact Option.some.inj this
theorem tabL16 (x : Nat) (hx : x < 16) : ∀ h, ([Value.string ⟨#[48]⟩, Value.string ⟨#[49]⟩, Value.string ⟨#[50]⟩, Value.string ⟨#[51]⟩, Value.string ⟨#[52]⟩, Value.string ⟨#[53]⟩, Value.string ⟨#[54]⟩, Value.string ⟨#[55]⟩, Value.string ⟨#[56]⟩, Value.string ⟨#[57]⟩, Value.string ⟨#[65]⟩, Value.string ⟨#[66]⟩, Value.string ⟨#[67]⟩, Value.string ⟨#[68]⟩, Value.string ⟨#[69]⟩, Value.string ⟨#[70]⟩] : List Value)[x]'h = .string ⟨#[hexC x]⟩ := by
  intro h
  have := tab16 x hx
  rw [List.getElem?_toArray, List.getElem?_eq_getElem h] at this
  exact Option.some.inj this

set_option maxHeartbeats 8000000 in
set_option maxRecDepth 1000000 in
theorem lawQuotes (s more : ByteArray) (w : World) (hT : TabU w) (hs : s.size ≤ 9223372036854775807) (hm : more.size ≤ 9223372036854775807) :
    Calls Tryd.prog 6 #[.string s, .string more] w fun e w' => e = .returned (.bool true) ∧ Below w.heap.size w w' := by
  go_enter Tryd.func6, Tryd.ntmps6
  go_wp2_with fail
  go_at_call 8
  refine (head_any _).mono ?_
  rintro e w1 ⟨rfl, b1⟩
  by_cases h300 : 300 < (s.size : Int)
  · go_wp2
    go_ret
    exact ⟨rfl, b1⟩
  by_cases k300 : 300 < (more.size : Int)
  · go_wp2
    go_ret
    exact ⟨rfl, b1⟩
  have hT1 := hT.below b1
  go_wp2_with fail
  go_at_call 13
  refine (signs_any s _ hT1 (by omega)).mono ?_
  rintro e w2 ⟨hse, b2⟩
  have B2 := b1.trans (b2.mono b1.size)
  have hT2 := hT.below B2
  clear hT1 hT
  have hmore := signs_any more w2 hT2 (by omega)
  rcases hse with ⟨hn, rfl⟩ | ⟨xs, v, hx, hxl, rfl, hown⟩
  · go_wp2_with fail
    go_at_call 13
    refine hmore.mono ?_
    rintro e w3 ⟨hse2, b3⟩
    have B3 := B2.trans (b3.mono B2.size)
    rcases hse2 with ⟨-, rfl⟩ | ⟨ys, v2, -, -, rfl, -⟩
    · go_wp2
      go_ret
      exact ⟨rfl, B3⟩
    · go_wp2
      go_ret
      exact ⟨rfl, B3⟩
  go_wp2_with fail
  go_at_call 13
  refine hmore.mono ?_
  rintro e w3 ⟨hse2, b3⟩
  have B3 := B2.trans (b3.mono B2.size)
  rcases hse2 with ⟨-, rfl⟩ | ⟨ys, v2, -, -, rfl, -⟩
  · go_wp2
    go_ret
    exact ⟨rfl, B3⟩
  have hown3 := ownsRowF_below hown b3
  have hne4 := sigs_ne _ _ xs hx
  have hquote : quoteAll s = 34 :: ((xs.map quoteX).flatten ++ [34]) := by
    unfold quoteAll
    rw [quoteFrom_L, List.drop_zero]
    have := quoteL_signs _ _ xs hx
    rw [size_data] at this
    rw [this]
  have hunq := unq_all s more (by rw [hx]; exact fun h => by cases h)
  have hqa := fun W => quote_any s W (by omega)
  have hfl := flat_len xs (fun q hq => (hne4 q hq).2)
  rw [size_data] at hxl
  have hqsz : (quoteAll s).length ≤ 2000 := by
    rw [hquote, List.length_cons, List.length_append, List.length_singleton]; omega
  have hua := fun W => unquote_any (⟨(quoteAll s).toArray⟩ ++ more) W (by rw [app_size, size_mk]; omega)
  rw [hunq] at hua
  have Hquote := Lib.hid hquote
  have Hne4 := Lib.hid hne4
  have Hfl := Lib.hid hfl
  clear hunq hquote hne4 hfl hmore hT2 hx hown
  -- behind the loop
  have hend : ∀ (W : World), True := fun _ => trivial
  rcases hown3.2 with ⟨rfl, h0⟩ | ⟨g, cap, cur, fz, rfl, hbg, hg, hfz, hcap, hml, hcs, htk⟩
  · obtain rfl : xs = [] := List.eq_nil_of_length_eq_zero h0
    have hqq : (⟨(quoteAll s).toArray⟩ : ByteArray) = bytesV [34, 34] := by rw [Hquote.out]; rfl
    have hsz : (quoteAll s).length = 2 := by rw [Hquote.out]; rfl
    rw [hqq] at hqa hua
    rw [hsz] at hua
    have hbs : (bytesV [34, 34]).size = 2 := by rw [bytesV_size]; rfl
    have hb1 : (⟨#[34]⟩ : ByteArray).size = 1 := rfl
    have hoq : (⟨#[34]⟩ : ByteArray) ++ (⟨#[34]⟩ : ByteArray) = bytesV [34, 34] := by
      rw [show (⟨#[34]⟩ : ByteArray) = bytesV [34] from rfl, bytesV_app]; rfl
    have hss : (⟨s.data.toList.toArray⟩ : ByteArray) = s := rfl
    clear hqq hown3 h0 Hfl Hne4 Hquote
    go_wp2
    refine wp_loop_rounds 1 ?_
    rw [rounds_succ]
    go_wp2_with fail
    go_at_call 16
    refine (hqa _).mono ?_
    rintro e w5 ⟨rfl, b5⟩
    have B5 := B3.trans (b5.mono B3.size)
    go_wp2_with fail
    go_at_call 14
    refine (hua _).mono ?_
    rintro e w6 ⟨rfl, b6⟩
    have B6 := B5.trans (b6.mono B5.size)
    unfold unqVal
    go_wp2
    go_ret
    exact ⟨rfl, B6⟩
  · have hcell : ∀ j q, xs[j]? = some q → w3.cell? ⟨g, j, none⟩ = some (strV q) := by
      intro j q h
      have := hown3.cells (g := g) rfl j (strV q) (by simp [h])
      rw [Addr.add_mid, Nat.zero_add] at this
      exact this
    have hglt : g < w3.heap.size := (Array.getElem?_eq_some_iff.1 hg).1
    have Hcell := Lib.hid hcell
    clear hcell hown3 hg hbg hfz hcs htk
    generalize hL : xs.length = L at *
    have HL := Lib.hid hL
    clear hL
    go_wp2
    go_loopw [9, 44] (fun wt i wr => ∃ (j : Nat) (acc : List UInt8), j ≤ L ∧ i = .int .i64 j ∧ wt = .string (bytesV (34 :: acc)) ∧ Hid (((xs.take j).map quoteX).flatten = acc) ∧ Hid (Below w3.heap.size w3 wr)) (fun _ i _ => L - (intOf i).toNat)
    case atStart => exact ⟨0, [], Nat.zero_le _, rfl, rfl, rfl, Below.refl _ _⟩
    case round =>
      obtain ⟨j, acc, hj, rfl, rfl, hacc, Hbw⟩ := hrel
      by_cases hlt : j < L
      · have hjl : j < xs.length := by rw [HL.out]; exact hlt
        have hc := Hcell.out j xs[j] (List.getElem?_eq_getElem hjl)
        have hc' : wr.cell? ⟨g, j, none⟩ = some (strV xs[j]) := by rw [(bcell Hbw.out).1 g j hglt]; exact hc
        have hq4 := Hne4.out xs[j] (List.getElem_mem hjl)
        have hfs := take_flat xs j hjl
        rw [hacc.out] at hfs
        have hal : acc.length ≤ 6 * j := by
          rw [← hacc.out]
          have := flat_len (xs.take j) (fun q hq => (Hne4.out q (List.mem_of_mem_take hq)).2)
          rw [List.length_take] at this
          omega
        have hv : strV xs[j] = .string (bytesV xs[j]) := rfl
        rw [hv] at hc'
        generalize xs[j] = q at *
        have Hfs := Lib.hid hfs
        clear hfs hc hv hacc
        have hql := bytesV_toList q
        have hqs := bytesV_size q
        have has : (bytesV (34 :: acc)).size = acc.length + 1 := by rw [bytesV_size, List.length_cons]
        obtain ⟨c, m, hcm⟩ := List.exists_cons_of_ne_nil (fun e => by rw [e] at hq4; simp at hq4 : q ≠ [])
        have hC : Op.bytesLess q [32] = decide (c.toNat < 32) := by rw [hcm, less32]
        have hX : quoteX q = if ((q == [34]) || (q == [92])) = true then 92 :: q else if (Op.bytesLess q [32] || (q == [127])) = true then [92, 117, 48, 48, hexC (c.toNat / 16), hexC (c.toNat % 16)] else q := by
          unfold quoteX
          simp only [Bool.or_eq_true, beq_iff_eq]
          rw [hcm]; rfl
        have HX := Lib.hid hX
        have Hcm := Lib.hid hcm
        have HC := Lib.hid hC
        clear hX hcm hC
        have happ : bytesV (34 :: acc) ++ ((⟨#[92]⟩ : ByteArray) ++ bytesV q) = bytesV (34 :: acc ++ 92 :: q) := by
          rw [show (⟨#[92]⟩ : ByteArray) = bytesV [92] from rfl, bytesV_app, bytesV_app]
          rfl
        have Happ := Lib.hid happ
        clear happ
        cases hA : (q == [34])
        · cases hB : (q == [92])
          · cases hCC : Op.bytesLess q [32]
            · cases hD : (q == [127])
              · go_wp2
                go_round
                case rel =>
                  refine ⟨j + 1, acc ++ q, by omega, by go_num, by rw [bytesV_app]; rfl, ?_, Hbw⟩
                  show _ = _
                  rw [Hfs.out, HX.out, hA, hB, hCC, hD]
                  rfl
                case measure => simp [intOf]; omega
              · have h256 := c.toNat_lt
                have hc127 : c.toNat = 127 := by
                  have h1 : q = [127] := by simpa using hD
                  rw [Hcm.out] at h1
                  injection h1 with h1 _
                  rw [h1]; rfl
                have hl0 : 0 < q.length := by omega
                have hix : ∀ h, (bytesV q)[0]'h = c := by
                  intro h
                  have hq := Hcm.out
                  subst hq
                  rfl
                have HX16 : Hid (quoteX q = [92, 117, 48, 48, hexC (c.toNat / 16), hexC (c.toNat % 16)]) := Lib.hid (by rw [HX.out, hA, hB, hCC, hD]; rfl)
                clear HX HC Hcm
                have hk1 : c.toNat / 16 < 8 := by omega
                have hk2 : c.toNat % 16 < 16 := by omega
                clear hc127
                have hquo : Int.tdiv (c.toNat : Int) 16 = ((c.toNat / 16 : Nat) : Int) := by rw [Int.tdiv_eq_ediv_of_nonneg (by omega)]; omega
                have hrem : Int.tmod (c.toNat : Int) 16 = ((c.toNat % 16 : Nat) : Int) := by rw [Int.tmod_eq_emod_of_nonneg (by omega)]; omega
                have hn0 : ((c.toNat : Int) / 16) = ((c.toNat / 16 : Nat) : Int) := by omega
                have hn1 : ((c.toNat : Int) % 16) = ((c.toNat % 16 : Nat) : Int) := by omega
                generalize hx : c.toNat / 16 = x at *
                generalize hy : c.toNat % 16 = y at *
                have Hx := Lib.hid hx
                have Hy := Lib.hid hy
                clear hx hy
                have ht8 := tab8 x hk1
                have ht16 := tab16 y hk2
                have hl8 := tabL8 x hk1
                have hl16 := tabL16 y hk2
                have htail : bytesV (34 :: acc) ++ ((⟨#[92, 117, 48, 48]⟩ : ByteArray) ++ ⟨#[hexC x]⟩ ++ ⟨#[hexC y]⟩) = bytesV (34 :: acc ++ [92, 117, 48, 48, hexC x, hexC y]) := by
                  rw [show (⟨#[92, 117, 48, 48]⟩ : ByteArray) = bytesV [92, 117, 48, 48] from rfl, show (⟨#[hexC x]⟩ : ByteArray) = bytesV [hexC x] from rfl, show (⟨#[hexC y]⟩ : ByteArray) = bytesV [hexC y] from rfl, bytesV_app, bytesV_app, bytesV_app]
                  rfl
                have Htail := Lib.hid htail
                clear htail
                have Hw1 := Lib.hid Hbw.out.size
                go_upto_region 16 with fail
                go_region
                all_goals
                  go_wp2
                  go_round
                  case rel =>
                    have Bx : ∀ o1 o2, Below w3.heap.size w3 ((wr.alloc o1).alloc o2) := fun o1 o2 => (Hbw.out.alloc Hw1.out o1).alloc (by rw [World.size_alloc]; exact Nat.le_succ_of_le Hw1.out) o2
                    refine ⟨j + 1, acc ++ [92, 117, 48, 48, hexC x, hexC y], by omega, by go_num, by rw [Htail.out]; rfl, ?_, Lib.hid (Bx _ _).drew⟩
                    show _ = _
                    rw [Hfs.out, HX16.out]
                  case measure => simp [intOf]; omega
            · have h256 := c.toNat_lt
              have hc32 : c.toNat < 32 := by have := HC.out; rw [hCC] at this; exact of_decide_eq_true this.symm
              have hl0 : 0 < q.length := by omega
              have hix : ∀ h, (bytesV q)[0]'h = c := by
                intro h
                have hq := Hcm.out
                subst hq
                rfl
              have HX16 : Hid (quoteX q = [92, 117, 48, 48, hexC (c.toNat / 16), hexC (c.toNat % 16)]) := Lib.hid (by rw [HX.out, hA, hB, hCC]; rfl)
              clear HX HC Hcm
              have hk1 : c.toNat / 16 < 8 := by omega
              have hk2 : c.toNat % 16 < 16 := by omega
              clear hc32
              have hquo : Int.tdiv (c.toNat : Int) 16 = ((c.toNat / 16 : Nat) : Int) := by rw [Int.tdiv_eq_ediv_of_nonneg (by omega)]; omega
              have hrem : Int.tmod (c.toNat : Int) 16 = ((c.toNat % 16 : Nat) : Int) := by rw [Int.tmod_eq_emod_of_nonneg (by omega)]; omega
              have hn0 : ((c.toNat : Int) / 16) = ((c.toNat / 16 : Nat) : Int) := by omega
              have hn1 : ((c.toNat : Int) % 16) = ((c.toNat % 16 : Nat) : Int) := by omega
              generalize hx : c.toNat / 16 = x at *
              generalize hy : c.toNat % 16 = y at *
              have Hx := Lib.hid hx
              have Hy := Lib.hid hy
              clear hx hy
              have ht8 := tab8 x hk1
              have ht16 := tab16 y hk2
              have hl8 := tabL8 x hk1
              have hl16 := tabL16 y hk2
              have htail : bytesV (34 :: acc) ++ ((⟨#[92, 117, 48, 48]⟩ : ByteArray) ++ ⟨#[hexC x]⟩ ++ ⟨#[hexC y]⟩) = bytesV (34 :: acc ++ [92, 117, 48, 48, hexC x, hexC y]) := by
                rw [show (⟨#[92, 117, 48, 48]⟩ : ByteArray) = bytesV [92, 117, 48, 48] from rfl, show (⟨#[hexC x]⟩ : ByteArray) = bytesV [hexC x] from rfl, show (⟨#[hexC y]⟩ : ByteArray) = bytesV [hexC y] from rfl, bytesV_app, bytesV_app, bytesV_app]
                rfl
              have Htail := Lib.hid htail
              clear htail
              have Hw1 := Lib.hid Hbw.out.size
              go_upto_region 16 with fail
              go_region
              all_goals
                go_wp2
                go_round
                case rel =>
                  have Bx : ∀ o1 o2, Below w3.heap.size w3 ((wr.alloc o1).alloc o2) := fun o1 o2 => (Hbw.out.alloc Hw1.out o1).alloc (by rw [World.size_alloc]; exact Nat.le_succ_of_le Hw1.out) o2
                  refine ⟨j + 1, acc ++ [92, 117, 48, 48, hexC x, hexC y], by omega, by go_num, by rw [Htail.out]; rfl, ?_, Lib.hid (Bx _ _).drew⟩
                  show _ = _
                  rw [Hfs.out, HX16.out]
                case measure => simp [intOf]; omega
          · go_wp2
            go_round
            case rel =>
              refine ⟨j + 1, acc ++ 92 :: q, by omega, by go_num, by rw [Happ.out]; rfl, ?_, Hbw⟩
              show _ = _
              rw [Hfs.out, HX.out, hA, hB]
              rfl
            case measure => simp [intOf]; omega
        · go_wp2
          go_round
          case rel =>
            refine ⟨j + 1, acc ++ 92 :: q, by omega, by go_num, by rw [Happ.out]; rfl, ?_, Hbw⟩
            show _ = _
            rw [Hfs.out, HX.out, hA]
            rfl
          case measure => simp [intOf]; omega
      · obtain rfl : j = L := by omega
        have ht : xs.take j = xs := List.take_of_length_le (by rw [HL.out]; exact Nat.le_refl _)
        have hac := hacc.out
        rw [ht] at hac
        have B4 := B3.trans (Hbw.out.mono B3.size)
        have hqq : (⟨(quoteAll s).toArray⟩ : ByteArray) = bytesV (34 :: (acc ++ [34])) := by rw [Hquote.out, hac]; rfl
        have Hqal : Hid (quoteAll s = 34 :: (acc ++ [34])) := Lib.hid (by rw [Hquote.out, hac])
        rw [hqq] at hqa hua
        clear hqq ht hac hacc Hcell Hne4 Hfl
        have hsz : (quoteAll s).length = acc.length + 2 := by rw [Hqal.out]; simp
        rw [hsz] at hua
        have hbs : (bytesV (34 :: (acc ++ [34]))).size = acc.length + 2 := by rw [bytesV_size]; simp
        have hbo : (bytesV (34 :: acc)).size = acc.length + 1 := by rw [bytesV_size]; simp
        have hacl : acc.length ≤ 2000 := by omega
        have hoq : bytesV (34 :: acc) ++ (⟨#[34]⟩ : ByteArray) = bytesV (34 :: (acc ++ [34])) := by
          rw [show (⟨#[34]⟩ : ByteArray) = bytesV [34] from rfl, bytesV_app]; rfl
        have hss : (⟨s.data.toList.toArray⟩ : ByteArray) = s := rfl
        go_wp2_with fail
        go_at_call 16
        refine (hqa _).mono ?_
        rintro e w5 ⟨rfl, b5⟩
        have B5 := B4.trans (b5.mono B4.size)
        go_wp2_with fail
        go_at_call 14
        refine (hua _).mono ?_
        rintro e w6 ⟨rfl, b6⟩
        have B6 := B5.trans (b6.mono B5.size)
        unfold unqVal
        go_wp2
        go_ret
        exact ⟨rfl, B6⟩
end Go.Proofs.YtgjbgfnchlogdaaDoor
