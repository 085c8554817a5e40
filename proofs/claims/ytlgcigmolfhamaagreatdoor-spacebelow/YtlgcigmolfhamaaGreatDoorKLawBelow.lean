/-
  What is in scope at an element is in scope at one in it, but for what that one declares itself (SpaceBelow). Conditions: the seven tables of the row lie as the program's text lays them; of internal/bytealg.MaxLen nothing is asked but that it is a number.
-/
import Derived.Test.YtlgcigmolfhamaaGreatDoorKBelow
import Derived.Test.YtlgcigmolfhamaaGreatDoorK55
import Derived.OpenShut
import Derived.Stop.Joined
namespace Go.Proofs.YtlgcigmolfhamaaGreatDoor
open Go.ChangeShapes Go.WideShapes Go.ChangeAt Go.RowKit
set_option maxRecDepth 100000
namespace SpaceBelow
theorem lifted(os:Os)(started:os.Started)(H:Type)(enc:TypeId×Value->H) :
 ReturnsInHanded {} Tryz.checked os 5 .any (fun w args=>(Rows.spaceBelowSpec.pre enc Tryz.prog Tryz.f5 [] false w args/\laidMetH Tryz.prog Z7 w)/\sizedMet enc Tryz.prog Tryz.f5 (OpenSpec.ofChange Rows.spaceBelowSpec) false w args)
  (Rows.spaceBelowSpec.post enc Tryz.prog Tryz.f5 false true false false):=by
 refine a1x started (by kernel_rfl) Tryz.func5
  (ChangeSpec.witness_shaped (enc:=enc) (C:=Tryz.checked) (os:=os) (X:=fun w _=>laidMetH Tryz.prog Z7 w) false (World.laidAll Tryz.prog os Z7) #[.slice none 0 0,.int .i64 0] 8 (World.laidAll_os _ _ _)
    (World.shaped_of_ZipB (by kernel_rfl) (by kernel_rfl)) (by kernel_rfl) (by kernel_rfl) (by kernel_rfl) (a28 os _)) ?_
 intro W base args ds gs before D1 hW _ E0;have D0:∀(j:Nat) t v,Tryz.f5.params[j]? = some t->args[j]? = some v->Value.okWide Tryz.prog W .any base t v:=D1;have hW':=hW;obtain⟨p,q,E1,hV,rfl,_,_⟩:=hW;have hA:DataW.TrodAll enc Tryz.prog W 0 (fun _=>true) true Tryz.f5.params.toList args.toList ds p:=E1;rw[Tryz.params5]at hA D0;obtain⟨v0,v1,d0,d1,p0,p1,rfl,rfl,rfl,h0,h1⟩:=trodAll_two hA;obtain⟨rfl,rfl⟩:=trodVars_none hV;obtain⟨A0,bs0,cap0,rfl,D2,D3,D9⟩:=a8Z (D0 0 22 v0 rfl rfl) h0;simp only[A7]at hW';have E2:∀x∈p0++p1,x.block<W.heap.size:=fun x hx=>by simpa using hW'.lt x hx
 obtain⟨x1,rfl,rfl,rfl,wx1⟩:=open_int Tryz.underlying3 (D0 1 3 v1 rfl rfl) h1;refine(c5W c6s A0 cap0 bs0 x1 wx1 W (a5Z E0) E0 D9 D2 D3).mono fun e W' ⟨he,hb⟩ => ?_;subst he;exact⟨_,rfl,_,_,_,[],_,[],hW',trodAll_mk1 (shut_bool Tryz.underlying4 _),trodAll_mk2 (Below.trod a5K (by kernel_rfl) (of_decide_eq_true (by kernel_rfl)) h0 hb (fun x (hx:x∈p0)=>E2 x (by simp[hx]))) (shut_int Tryz.underlying3 wx1),rfl,hb.frame _,fun h=>by cases h⟩
theorem holds:Rows.SpaceBelowSaid :=
 OpenClaim.holds_of_wide 5 Tryz.f5 rfl rfl rfl rfl rfl rfl rfl ⟨rfl,rfl,rfl,rfl,rfl⟩ rfl rfl rfl rfl rfl (by kernel_rfl) Tryz.func5 (by kernel_rfl)
  (of_decide_eq_true (by kernel_rfl)) (by unfold Func.isWrapper;first|(rw[g8 (by decide +kernel)];kernel_rfl)|(rw[f6 (by decide +kernel)];exact⟨rfl,rfl⟩))
  (fun os started H enc _=>lifted os started H enc)
end SpaceBelow
end Go.Proofs.YtlgcigmolfhamaaGreatDoor
