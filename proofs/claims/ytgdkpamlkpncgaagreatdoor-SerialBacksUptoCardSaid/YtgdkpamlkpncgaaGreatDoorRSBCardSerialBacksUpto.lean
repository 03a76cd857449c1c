/-
  SerialBacks, where what comes in is of bulk at most 1048576: for whatever such input the law returns true, and each argument reads afterwards as it read before. Conditions: that bound; the package-level variables that the row lists hold what the program's text lays.
-/
import Derived.Test.YtgdkpamlkpncgaaGreatDoorCards
import Derived.Test.YtgdkpamlkpncgaaGreatDoorTie
import Derived.Test.YtgdkpamlkpncgaaGreatDoorR2
import Derived.Lib.SmallJoins
import Derived.Test.YtgdkpamlkpncgaaGreatDoorR31
import Derived.Test.YtgdkpamlkpncgaaGreatDoorR33
import Derived.Test.YtgdkpamlkpncgaaGreatDoorR34
namespace Go.Proofs.YtgdkpamlkpncgaaGreatDoor.cardSerialBacksUpto
open Go.ChangeShapes Go.WideShapes Go.ChangeAt Go.RowKit
open Go.ChangeMaps (open_string shut_string)
set_option linter.unusedVariables false
set_option linter.unusedSimpArgs false
set_option maxRecDepth 100000 in
theorem contract (H : Type) (enc : TypeId × Value -> H) (W : World) (base : Nat) (args : Array Value) (ds gs : List (DataW H)) (before : List MemPlace)
  (hval : ∀ (j : Nat) t v,Tryz.f3.params[j]? = some t -> args[j]? = some v -> Value.okWide Tryz.prog W .any base t v)
  (hW : DataW.Whole enc Tryz.prog Tryz.f3.params.toList Rows.serialBacksSpec.vars false W args.toList ds gs before) (hL : laidMetH Tryz.prog Rows.serialBacksUptoRow.laid W) (hsh : W.ShapedOpen Tryz.prog) (hk : Rows.uptoSmall H (ds ++ gs) = true) :
  Calls Tryz.prog 3 args W fun e W'=>∃ v,e = .returned v /\ Rows.serialBacksSpec.post enc Tryz.prog Tryz.f3 false true false false W args v W':=by
 have hWhole:=hW
 obtain ⟨p,q,hA0,hV,rfl,hfz,hnd⟩:=hW
 have hA : DataW.TrodAll enc Tryz.prog W 0 (fun _=>true) true Tryz.f3.params.toList args.toList ds p:=hA0
 rw [Tryz.params3] at hA hval
 obtain ⟨v0,vs0,d0,ds0,p0,q0,hargs,rfl,rfl,h0,r0⟩:=trodAll_cons hA
 obtain ⟨rfl,rfl,rfl⟩:=trodAll_nil r0
 obtain rfl : args = #[v0]:=by cases args; simp_all
 obtain ⟨rfl,rfl⟩:=trodVars_none hV
 suffices hwalk : Calls Tryz.prog 3 #[v0] W fun e w'=>e = .returned (.bool true) /\ Below W.heap.size W w' from by
  refine hwalk.mono fun e W' ⟨he,hb⟩=>?_
  subst he
  exact ⟨_,rfl,lawPost laidOutYes hWhole rfl rfl (show Tryz.f3.resultTypes = #[4] from rfl) Tryz.underlying4 (by rw [Tryz.params3]; intro t ht; simp only [List.mem_cons,List.not_mem_nil,or_false] at ht; subst ht <;> exact ⟨by kernel_rfl,of_decide_eq_true (by kernel_rfl)⟩) hb⟩
 obtain ⟨Aw0,lw0,cw0,rfl⟩:=okWide_slice Tryz.underlying22 (hval 0 22 v0 rfl rfl)
 obtain ⟨fuel0,hf0⟩:=h0
 obtain ⟨l0,A0,c0,e0,hs0,hm0,hz0,hw0⟩:=open_entries hf0
 have hz0 : l0.length <= Rows.uptoBulk d0:=hz0
 have hw0 : wtsE l0 <= Rows.uptoBulk d0:=hw0
 obtain ⟨rfl,rfl,rfl⟩ : Aw0 = A0 /\ lw0 = l0.length /\ cw0 = c0:=by simpa [Value.cells] using e0
 have hb0 : Rows.uptoBulkAll _ <= 1048576:=of_decide_eq_true hk
 simp only [List.append_nil,List.cons_append,List.nil_append,Rows.uptoBulkAll,Rows.uptoBulk] at hb0
 obtain ⟨lb,lo,hA,hc⟩:=hs0
 exact lbacks_any (mxW_of hsh) (tabU_of_laid hL (by kernel_rfl)) l0 (by omega) (by omega) (fun x hx=>by
  obtain ⟨h1,h2⟩:=hm0 x hx
  have h3:=wtsE_get l0 x hx
  unfold EV.sz at h3
  exact ⟨h1,h2,by omega,by omega⟩) lb lo _ _ hA hc
theorem laid_met (os : Os) : laidMet Tryz.prog Rows.serialBacksUptoRow.laid ((World.laidAll Tryz.prog os Rows.serialBacksUptoRow.laid).forCall (fun _ _=>0) ⟨#[],#[.slice none 0 0],[]⟩).memory :=
 laidMet_laidAll _ (by kernel_rfl) (by kernel_rfl)
theorem reads (os : Os) {H : Type} (enc : TypeId × Value -> H) : ∃ places,DataW.whole enc Tryz.prog ((World.laidAll Tryz.prog os Rows.serialBacksUptoRow.laid).forCall (fun _ _=>0) ⟨#[],#[.slice none 0 0],[]⟩).memory Tryz.f3.params.toList Rows.serialBacksSpec.vars false (#[.slice none 0 0] : Array Value).toList 8 = some ([.nil],[],places) :=
 ⟨[],by kernel_rfl⟩
set_option maxRecDepth 100000 in
theorem lifted (os : Os) (started : os.Started) (H : Type) (enc : TypeId × Value -> H) (F : Stop.Interp) :
  ReturnsInHanded {} Tryz.checked os 3 .any ((Rows.OpenSpec.upto Rows.serialBacksSpec).preRow enc Tryz.prog Tryz.f3 Rows.serialBacksUptoRow.domain false Rows.serialBacksUptoRow.laid) (((Rows.OpenSpec.upto Rows.serialBacksSpec).at F).post enc Tryz.prog Tryz.f3 false true false false):=by
 obtain ⟨places,hx⟩:=reads os enc
 refine returnsInHanded_of_row (C:=Tryz.checked) (s:=Rows.OpenSpec.upto Rows.serialBacksSpec) ownKnobNone started (by kernel_rfl) Tryz.func3
  (witness_row_shaped (enc:=enc) (C:=Tryz.checked) false (World.laidAll Tryz.prog os Rows.serialBacksUptoRow.laid) #[.slice none 0 0] (World.laidAll_os _ _ _) (World.shaped_of_ZipB (by kernel_rfl) (by kernel_rfl)) (by kernel_rfl)
   (OpenSpec.preRow_of_cond 8 hx (by kernel_rfl) (fun k hk=>by cases hk; kernel_rfl) (by kernel_rfl) (laid_met os))) ?_
 intro W base args ds gs before hval hW _ hcond _ hL hsh _
 exact contract H enc W base args ds gs before hval hW hL hsh (hcond _ rfl)
set_option maxHeartbeats 40000000 in
theorem facts : joinedFacts Tryz.prog 3 Tryz.f3 (Rows.OpenSpec.upto Rows.serialBacksSpec).bare Rows.serialBacksUptoRow = true:=by
 unfold joinedFacts
 repeat' (with_reducible refine Bool.and_eq_true_iff.2 ⟨?_,?_⟩)
 all_goals (as_aux_lemma=>kernel_rfl)
theorem said : Rows.SerialBacksUptoSaid :=
 OpenClaim.holds_of_cond 3 Tryz.f3 rfl rfl rfl rfl rfl rfl rfl ⟨rfl,rfl,rfl,rfl,rfl⟩ rfl rfl rfl rfl rfl (by kernel_rfl) Tryz.func3 facts
  (of_decide_eq_true (by kernel_rfl)) (by unfold Func.isWrapper; first | (rw [if_pos (by decide +kernel)]; kernel_rfl) | (rw [if_neg (by decide +kernel)]; exact ⟨rfl,rfl⟩))
  (fun os started H enc _ F=>by rw [OpenClaim.pre_eq_preRow]; exact lifted os started H enc F)
theorem plain (f : FuncId) (fn : Func) (hf : Tryz.pinned.checked.prog.funcNamed "polyglot/polyglotlaw10.SerialBacks" = some f) (hfn : Tryz.pinned.checked.prog.funcs[f]? = some fn) :
  true = Tryz.pinned.checked.prog.looks [] /\ ∀ (j : Nat) t,fn.params[j]? = some t -> Tryz.pinned.checked.prog.wantsStandIn t = false:=by
 obtain rfl : f = 3 := Option.some.inj ((show Tryz.prog.funcNamed "polyglot/polyglotlaw10.SerialBacks" = some 3 by kernel_rfl).symm.trans hf) |>.symm
 obtain rfl : fn = Tryz.f3:=(Option.some.inj (Tryz.func3.symm.trans hfn)).symm
 refine ⟨by kernel_rfl,fun j t ht=>?_⟩
 rw [Tryz.params3] at ht
 have hm:=Array.mem_of_getElem? ht
 simp only [List.mem_toArray,List.mem_cons,List.not_mem_nil,or_false] at hm
 subst hm <;> exact (show Tryz.prog.wantsStandIn _ = false by kernel_rfl)
theorem card : Rows.SerialBacksUptoCardSaid :=
 Claim7.holds_tied_plain_at .later [] _ _ _ _ said (fun _ h=>by cases h) (by kernel_rfl) (fun _ h=>by cases h) serialBacksUpto_row_tie rfl ⟨rfl,rfl⟩ (by kernel_rfl) rfl plain (by kernel_rfl)
end Go.Proofs.YtgdkpamlkpncgaaGreatDoor.cardSerialBacksUpto
