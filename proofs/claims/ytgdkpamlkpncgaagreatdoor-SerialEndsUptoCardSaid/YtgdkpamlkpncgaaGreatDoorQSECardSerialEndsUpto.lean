/-
  SerialEnds, where what comes in is of bulk at most 1048576: for whatever such input the law returns true, and each argument reads afterwards as it read before. Conditions: that bound; the package-level variables that the row lists hold what the program's text lays.
-/
import Derived.Test.YtgdkpamlkpncgaaGreatDoorCards
import Derived.Test.YtgdkpamlkpncgaaGreatDoorTie
import Derived.Test.YtgdkpamlkpncgaaGreatDoorQ2
import Derived.Lib.SmallJoins
import Derived.Test.YtgdkpamlkpncgaaGreatDoorQ36
import Derived.Test.YtgdkpamlkpncgaaGreatDoorQ37
import Derived.Test.YtgdkpamlkpncgaaGreatDoorQ38
namespace Go.Proofs.YtgdkpamlkpncgaaGreatDoor.cardSerialEndsUpto
open Go.ChangeShapes Go.WideShapes Go.ChangeAt Go.RowKit
open Go.ChangeMaps (open_string shut_string)
set_option linter.unusedVariables false
set_option linter.unusedSimpArgs false
set_option maxRecDepth 100000 in
theorem contract (H : Type) (enc : TypeId × Value -> H) (W : World) (base : Nat) (args : Array Value) (ds gs : List (DataW H)) (before : List MemPlace)
  (hval : ∀ (j : Nat) t v,Tryz.f5.params[j]? = some t -> args[j]? = some v -> Value.okWide Tryz.prog W .any base t v)
  (hW : DataW.Whole enc Tryz.prog Tryz.f5.params.toList Rows.serialEndsSpec.vars false W args.toList ds gs before) (hL : laidMetH Tryz.prog Rows.serialEndsUptoRow.laid W) (hsh : W.ShapedOpen Tryz.prog) (hk : Rows.uptoSmall H (ds ++ gs) = true) :
  Calls Tryz.prog 5 args W fun e W' => ∃ v,e = .returned v /\ Rows.serialEndsSpec.post enc Tryz.prog Tryz.f5 false true false false W args v W' := by
 have hWhole := hW
 obtain ⟨p,q,hA0,hV,rfl,hfz,hnd⟩ := hW
 have hA : DataW.TrodAll enc Tryz.prog W 0 (fun _ => true) true Tryz.f5.params.toList args.toList ds p := hA0
 rw [Tryz.params5] at hA hval
 obtain ⟨v0,vs0,d0,ds0,p0,q0,hargs,rfl,rfl,h0,r0⟩ := trodAll_cons hA
 obtain ⟨v1,vs1,d1,ds1,p1,q1,rfl,rfl,rfl,h1,r1⟩ := trodAll_cons r0
 obtain ⟨rfl,rfl,rfl⟩ := trodAll_nil r1
 obtain rfl : args = #[v0,v1] := by cases args; simp_all
 obtain ⟨rfl,rfl⟩ := trodVars_none hV
 suffices hwalk : Calls Tryz.prog 5 #[v0,v1] W fun e w' => e = .returned (.bool true) /\ Below W.heap.size W w' from by
  refine hwalk.mono fun e W' ⟨he,hb⟩ => ?_
  subst he
  exact ⟨_,rfl,lawPost laidOutYes hWhole rfl rfl (show Tryz.f5.resultTypes = #[4] from rfl) Tryz.underlying4 (by rw [Tryz.params5]; intro t ht; simp only [List.mem_cons,List.not_mem_nil,or_false] at ht; rcases ht with rfl | rfl <;> exact ⟨by kernel_rfl,of_decide_eq_true (by kernel_rfl)⟩) hb⟩
 have hv0 := hval 0 34 v0 rfl rfl
 unfold Value.okWide at hv0
 rw [Tryz.underlying34] at hv0
 obtain ⟨cs0,rfl,_⟩ := hv0
 obtain ⟨fuel0,hf0⟩ := h0
 obtain ⟨ty0,lv0,tx0,nm0,val0,ats0,vv0,uu0,fr0,tu0,e0,hv0,hu0,hs0⟩ := open_entry hf0
 have ee0 : cs0.toList = [.int .i64 ty0,.int .i64 lv0,.string tx0,.string nm0,vv0,uu0,.int .i64 fr0,.int .i64 tu0] := e0
 obtain rfl : cs0 = #[.int .i64 ty0,.int .i64 lv0,.string tx0,.string nm0,vv0,uu0,.int .i64 fr0,.int .i64 tu0] := by
  rw [<- Array.toArray_toList (xs := cs0),ee0]
 have hv1 := hval 1 34 v1 rfl rfl
 unfold Value.okWide at hv1
 rw [Tryz.underlying34] at hv1
 obtain ⟨cs1,rfl,_⟩ := hv1
 obtain ⟨fuel1,hf1⟩ := h1
 obtain ⟨ty1,lv1,tx1,nm1,val1,ats1,vv1,uu1,fr1,tu1,e1,hv1,hu1,hs1⟩ := open_entry hf1
 have ee1 : cs1.toList = [.int .i64 ty1,.int .i64 lv1,.string tx1,.string nm1,vv1,uu1,.int .i64 fr1,.int .i64 tu1] := e1
 obtain rfl : cs1 = #[.int .i64 ty1,.int .i64 lv1,.string tx1,.string nm1,vv1,uu1,.int .i64 fr1,.int .i64 tu1] := by
  rw [<- Array.toArray_toList (xs := cs1),ee1]
 have hb0 : Rows.uptoBulkAll _ <= 1048576 := of_decide_eq_true hk
 simp only [List.append_nil,List.cons_append,List.nil_append,Rows.uptoBulkAll,Rows.uptoBulk] at hb0
 dsimp only at hs0 hs1
 obtain ⟨A0,c0,rfl,hv0⟩ := hv0
 obtain ⟨B0,d0',rfl,hu0⟩ := hu0
 obtain ⟨A1,c1,rfl,hv1⟩ := hv1
 obtain ⟨B1,d1',rfl,hu1⟩ := hu1
 exact lends_any (mxW_of hsh) (tabU_of_laid hL (by kernel_rfl)) ⟨ty0,lv0,tx0,nm0,val0,ats0,A0,c0,B0,d0',fr0,tu0⟩ ⟨ty1,lv1,tx1,nm1,val1,ats1,A1,c1,B1,d1',fr1,tu1⟩ ⟨⟨A0,c0,rfl,hv0⟩,⟨B0,d0',rfl,hu0⟩,by dsimp only; omega,by dsimp only; omega⟩ ⟨⟨A1,c1,rfl,hv1⟩,⟨B1,d1',rfl,hu1⟩,by dsimp only; omega,by dsimp only; omega⟩ (by unfold EV.sz; dsimp only; omega)
theorem laid_met (os : Os) : laidMet Tryz.prog Rows.serialEndsUptoRow.laid ((World.laidAll Tryz.prog os Rows.serialEndsUptoRow.laid).forCall (fun _ _ => 0) ⟨#[],#[.agg #[.int .i64 0,.int .i64 0,.string ByteArray.empty,.string ByteArray.empty,.slice none 0 0,.slice none 0 0,.int .i64 0,.int .i64 0],.agg #[.int .i64 0,.int .i64 0,.string ByteArray.empty,.string ByteArray.empty,.slice none 0 0,.slice none 0 0,.int .i64 0,.int .i64 0]],[]⟩).memory :=
 laidMet_laidAll _ (by kernel_rfl) (by kernel_rfl)
theorem reads (os : Os) {H : Type} (enc : TypeId × Value -> H) : ∃ places,DataW.whole enc Tryz.prog ((World.laidAll Tryz.prog os Rows.serialEndsUptoRow.laid).forCall (fun _ _ => 0) ⟨#[],#[.agg #[.int .i64 0,.int .i64 0,.string ByteArray.empty,.string ByteArray.empty,.slice none 0 0,.slice none 0 0,.int .i64 0,.int .i64 0],.agg #[.int .i64 0,.int .i64 0,.string ByteArray.empty,.string ByteArray.empty,.slice none 0 0,.slice none 0 0,.int .i64 0,.int .i64 0]],[]⟩).memory Tryz.f5.params.toList Rows.serialEndsSpec.vars false (#[.agg #[.int .i64 0,.int .i64 0,.string ByteArray.empty,.string ByteArray.empty,.slice none 0 0,.slice none 0 0,.int .i64 0,.int .i64 0],.agg #[.int .i64 0,.int .i64 0,.string ByteArray.empty,.string ByteArray.empty,.slice none 0 0,.slice none 0 0,.int .i64 0,.int .i64 0]] : Array Value).toList 8 = some ([.agg [.lit (.int .i64 0),.lit (.int .i64 0),.lit (.string []),.lit (.string []),.nil,.nil,.lit (.int .i64 0),.lit (.int .i64 0)],.agg [.lit (.int .i64 0),.lit (.int .i64 0),.lit (.string []),.lit (.string []),.nil,.nil,.lit (.int .i64 0),.lit (.int .i64 0)]],[],places) :=
 ⟨[],by kernel_rfl⟩
set_option maxRecDepth 100000 in
theorem lifted (os : Os) (started : os.Started) (H : Type) (enc : TypeId × Value -> H) (F : Stop.Interp) :
  ReturnsInHanded {} Tryz.checked os 5 .any ((Rows.OpenSpec.upto Rows.serialEndsSpec).preRow enc Tryz.prog Tryz.f5 Rows.serialEndsUptoRow.domain false Rows.serialEndsUptoRow.laid) (((Rows.OpenSpec.upto Rows.serialEndsSpec).at F).post enc Tryz.prog Tryz.f5 false true false false) := by
 obtain ⟨places,hx⟩ := reads os enc
 refine returnsInHanded_of_row (C := Tryz.checked) (s := Rows.OpenSpec.upto Rows.serialEndsSpec) ownKnobNone started (by kernel_rfl) Tryz.func5
  (witness_row_shaped (enc := enc) (C := Tryz.checked) false (World.laidAll Tryz.prog os Rows.serialEndsUptoRow.laid) #[.agg #[.int .i64 0,.int .i64 0,.string ByteArray.empty,.string ByteArray.empty,.slice none 0 0,.slice none 0 0,.int .i64 0,.int .i64 0],.agg #[.int .i64 0,.int .i64 0,.string ByteArray.empty,.string ByteArray.empty,.slice none 0 0,.slice none 0 0,.int .i64 0,.int .i64 0]] (World.laidAll_os _ _ _) (World.shaped_of_ZipB (by kernel_rfl) (by kernel_rfl)) (by kernel_rfl)
   (OpenSpec.preRow_of_cond 8 hx (by kernel_rfl) (fun k hk => by cases hk; kernel_rfl) (by kernel_rfl) (laid_met os))) ?_
 intro W base args ds gs before hval hW _ hcond _ hL hsh _
 exact contract H enc W base args ds gs before hval hW hL hsh (hcond _ rfl)
set_option maxHeartbeats 40000000 in
theorem facts : joinedFacts Tryz.prog 5 Tryz.f5 (Rows.OpenSpec.upto Rows.serialEndsSpec).bare Rows.serialEndsUptoRow = true := by
 unfold joinedFacts
 repeat' (with_reducible refine Bool.and_eq_true_iff.2 ⟨?_,?_⟩)
 all_goals (as_aux_lemma => kernel_rfl)
theorem said : Rows.SerialEndsUptoSaid :=
 OpenClaim.holds_of_cond 5 Tryz.f5 rfl rfl rfl rfl rfl rfl rfl ⟨rfl,rfl,rfl,rfl,rfl⟩ rfl rfl rfl rfl rfl (by kernel_rfl) Tryz.func5 facts
  (of_decide_eq_true (by kernel_rfl)) (by unfold Func.isWrapper; first | (rw [if_pos (by decide +kernel)]; kernel_rfl) | (rw [if_neg (by decide +kernel)]; exact ⟨rfl,rfl⟩))
  (fun os started H enc _ F => by rw [OpenClaim.pre_eq_preRow]; exact lifted os started H enc F)
theorem plain (f : FuncId) (fn : Func) (hf : Tryz.pinned.checked.prog.funcNamed "polyglot/polyglotlaw10.SerialEnds" = some f) (hfn : Tryz.pinned.checked.prog.funcs[f]? = some fn) :
  true = Tryz.pinned.checked.prog.looks [] /\ ∀ (j : Nat) t,fn.params[j]? = some t -> Tryz.pinned.checked.prog.wantsStandIn t = false := by
 obtain rfl : f = 5 := Option.some.inj ((show Tryz.prog.funcNamed "polyglot/polyglotlaw10.SerialEnds" = some 5 by kernel_rfl).symm.trans hf) |>.symm
 obtain rfl : fn = Tryz.f5 := (Option.some.inj (Tryz.func5.symm.trans hfn)).symm
 refine ⟨by kernel_rfl,fun j t ht => ?_⟩
 rw [Tryz.params5] at ht
 have hm := Array.mem_of_getElem? ht
 simp only [List.mem_toArray,List.mem_cons,List.not_mem_nil,or_false] at hm
 rcases hm with rfl | rfl <;> exact (show Tryz.prog.wantsStandIn _ = false by kernel_rfl)
theorem card : Rows.SerialEndsUptoCardSaid :=
 Claim7.holds_tied_plain_at .later [] _ _ _ _ said (fun _ h => by cases h) (by kernel_rfl) (fun _ h => by cases h) serialEndsUpto_row_tie rfl ⟨rfl,rfl⟩ (by kernel_rfl) rfl plain (by kernel_rfl)
end Go.Proofs.YtgdkpamlkpncgaaGreatDoor.cardSerialEndsUpto
