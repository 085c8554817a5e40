/-
  Declarations in order are what the document says; the list stays (SpaceSorts), where what comes in is of bulk at most 1048576. Conditions: the arguments are of bulk at most 1048576 (the second form); the seven tables of the row lie as the program's text lays them; of internal/bytealg.MaxLen nothing is asked but that it is a number.
-/
import Derived.Test.YtlgcigmolfhamaaGreatDoorKSorts
import Derived.Test.YtlgcigmolfhamaaGreatDoorK55
import Derived.Test.YtlgcigmolfhamaaGreatDoorKOpen
import Derived.OpenShut
import Derived.Stop.Joined
import Derived.Deep.DeepHandedRow
namespace Go.Proofs.YtlgcigmolfhamaaGreatDoor
open Go.ChangeShapes Go.WideShapes Go.ChangeAt Go.RowKit
open Go.ChangeMaps (open_string shut_string)
set_option linter.unusedVariables false
set_option maxRecDepth 100000
namespace SpaceSorts
theorem c6Y:Rows.spaceSortsUptoRow.laid=Z7:=rfl
theorem lifted(os:Os)(started:os.Started)(H:Type)(enc:TypeId×Value->H)(F:Stop.Interp) :
 ReturnsInHanded {} Tryz.checked os 4 .any ((Rows.OpenSpec.upto Rows.spaceSortsSpec).preRow enc Tryz.prog Tryz.f4 Rows.spaceSortsUptoRow.domain false Rows.spaceSortsUptoRow.laid) (((Rows.OpenSpec.upto Rows.spaceSortsSpec).at F).post enc Tryz.prog Tryz.f4 false true false false):=by
 have hx:DataW.whole enc Tryz.prog ((World.laidAll Tryz.prog os Z7).forCall (fun _ _=>0) ⟨#[],#[.slice none 0 0],[]⟩).memory Tryz.f4.params.toList Rows.spaceSortsSpec.vars false (#[.slice none 0 0] : Array Value).toList 8=some ([.nil],[],[]):=by kernel_rfl
 refine returnsInHanded_of_row (C:=Tryz.checked) (s:=Rows.OpenSpec.upto Rows.spaceSortsSpec) own started (by kernel_rfl) Tryz.func4
  (c6Q (enc:=enc) (C:=Tryz.checked) false (World.laidAll Tryz.prog os Z7) #[.slice none 0 0] (World.laidAll_os _ _ _) (World.shaped_of_ZipB (by kernel_rfl) (by kernel_rfl)) (by kernel_rfl)
    (OpenSpec.preRow_of_cond 8 hx (by kernel_rfl) (fun k hk=>by cases hk;kernel_rfl) (by kernel_rfl) (c6Y ▸ a28 os _))) ?_
 intro W base args ds gs before D0 hW _ hk E1 hL D3 _;rw[c6Y]at hL;have D2:=c0S hL D3;have D1:∀(j:Nat) t v,Tryz.f4.params[j]? = some t->args[j]? = some v->Value.okWide Tryz.prog W .any base t v:=D0;have hW':=hW;obtain⟨p,q,D9,hV,rfl,_,_⟩:=hW;have hA:DataW.TrodAll enc Tryz.prog W 0 (fun _=>true) true Tryz.f4.params.toList args.toList ds p:=D9;rw[Tryz.params4]at hA D1;obtain⟨v0,d0,rfl,rfl,h0⟩:=trodAll_one hA;obtain⟨rfl,rfl⟩:=trodVars_none hV;have hk':Rows.uptoBulkAll [d0]<=1048576:=of_decide_eq_true (hk _ rfl);simp only[Rows.uptoBulkAll]at hk';obtain⟨A0,c0,ds0,rfl,hl,hs⟩:=c6W (D1 0 31 v0 rfl rfl) h0 (by omega)
 simp only[A7]at hW';have E0:∀x∈p,x.block<W.heap.size:=fun x hx=>by simpa using hW'.lt x hx
 refine(c6Z c6s A0 c0 ds0 W (a5Z D2) D2 hl hs).mono fun e W' ⟨he,hb⟩ => ?_;subst he;exact⟨_,rfl,_,_,_,[],p,[],hW',trodAll_mk1 (shut_bool Tryz.underlying4 _),trodAll_mk1 (Below.trod a5K (by kernel_rfl) (of_decide_eq_true (by kernel_rfl)) h0 hb E0),rfl,hb.frame _,fun h=>by cases h⟩
theorem holds:Rows.SpaceSortsUptoSaid :=
 OpenClaim.holds_of_cond 4 Tryz.f4 rfl rfl rfl rfl rfl rfl rfl ⟨rfl,rfl,rfl,rfl,rfl⟩ rfl rfl rfl rfl rfl (by kernel_rfl) Tryz.func4 (by kernel_rfl)
  (of_decide_eq_true (by kernel_rfl)) (by unfold Func.isWrapper;first|(rw[g8 (by decide +kernel)];kernel_rfl)|(rw[f6 (by decide +kernel)];exact⟨rfl,rfl⟩))
  (fun os started H enc _ F=>by rw[OpenClaim.pre_eq_preRow];exact lifted os started H enc F)
end SpaceSorts
end Go.Proofs.YtlgcigmolfhamaaGreatDoor
