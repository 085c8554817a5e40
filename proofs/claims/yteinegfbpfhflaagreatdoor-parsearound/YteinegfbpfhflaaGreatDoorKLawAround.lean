/-
  Blanks, comments and instructions around the element are as many nodes; the element stays as it is (ParseAround). Conditions: the seven tables of the row lie as the program's text lays them; of internal/bytealg.MaxLen nothing is asked but that it is a number.
-/
import Derived.Test.YteinegfbpfhflaaGreatDoorKAround
import Derived.Test.YteinegfbpfhflaaGreatDoorK55
import Derived.OpenShut
import Derived.Stop.Joined
namespace Go.Proofs.YteinegfbpfhflaaGreatDoor
open Go.ChangeShapes Go.WideShapes Go.ChangeAt Go.RowKit
set_option maxRecDepth 100000
namespace ParseAround
theorem lifted(os:Os)(started:os.Started)(H:Type)(enc:TypeId×Value->H) :
 ReturnsInHanded {} Tryz.checked os 7 .any (fun w args=>(Rows.parseAroundSpec.pre enc Tryz.prog Tryz.f7 [] false w args/\laidMetH Tryz.prog Z7 w)/\sizedMet enc Tryz.prog Tryz.f7 (OpenSpec.ofChange Rows.parseAroundSpec) false w args)
  (Rows.parseAroundSpec.post enc Tryz.prog Tryz.f7 false true false false):=by
 refine a1x started (by kernel_rfl) Tryz.func7
  (ChangeSpec.witness_shaped (enc:=enc) (C:=Tryz.checked) (os:=os) (X:=fun w _=>laidMetH Tryz.prog Z7 w) false (World.laidAll Tryz.prog os Z7) #[.slice none 0 0,.int .u8 0,.int .u8 0] 8 (World.laidAll_os _ _ _)
    (World.shaped_of_ZipB (by kernel_rfl) (by kernel_rfl)) (by kernel_rfl) (by kernel_rfl) (by kernel_rfl) (a28 os _)) ?_
 intro W base args ds gs before D1 hW _ E0;have D0:∀(j:Nat) t v,Tryz.f7.params[j]? = some t->args[j]? = some v->Value.okWide Tryz.prog W .any base t v:=D1;have hW':=hW;obtain⟨p,q,E1,hV,rfl,_,_⟩:=hW;have hA:DataW.TrodAll enc Tryz.prog W 0 (fun _=>true) true Tryz.f7.params.toList args.toList ds p:=E1;rw[Tryz.params7]at hA D0;obtain⟨v0,v1,v2,d0,d1,d2,p0,p1,p2,rfl,rfl,rfl,h0,h1,h2⟩:=trodAll_three hA;obtain⟨rfl,rfl⟩:=trodVars_none hV;obtain⟨A0,bs0,cap0,rfl,D2,D3,D9⟩:=a8Z (D0 0 22 v0 rfl rfl) h0;simp only[A7]at hW';have E2:∀x∈p0++p1++p2,x.block<W.heap.size:=fun x hx=>by simpa using hW'.lt x hx
 obtain⟨x1,rfl,rfl,rfl,wx1⟩:=open_int Tryz.underlying5 (D0 1 5 v1 rfl rfl) h1;obtain⟨x2,rfl,rfl,rfl,wx2⟩:=open_int Tryz.underlying5 (D0 2 5 v2 rfl rfl) h2;refine(c2t a9F A0 cap0 bs0 x1 wx1 x2 wx2 W (a5Z E0) E0 D9 D2 D3).mono fun e W' ⟨he,hb⟩ => ?_;subst he;exact⟨_,rfl,_,_,_,[],_,[],hW',trodAll_mk1 (shut_bool Tryz.underlying4 _),trodAll_mk3 (Below.trod a5K (by kernel_rfl) (of_decide_eq_true (by kernel_rfl)) h0 hb (fun x (hx:x∈p0)=>E2 x (by simp[hx]))) (shut_int Tryz.underlying5 wx1) (shut_int Tryz.underlying5 wx2),rfl,hb.frame _,fun h=>by cases h⟩
theorem holds:Rows.ParseAroundSaid :=
 OpenClaim.holds_of_wide 7 Tryz.f7 rfl rfl rfl rfl rfl rfl rfl ⟨rfl,rfl,rfl,rfl,rfl⟩ rfl rfl rfl rfl rfl (by kernel_rfl) Tryz.func7 (by kernel_rfl)
  (of_decide_eq_true (by kernel_rfl)) (by unfold Func.isWrapper;first|(rw[g8 (by decide +kernel)];kernel_rfl)|(rw[f6 (by decide +kernel)];exact⟨rfl,rfl⟩))
  (fun os started H enc _=>lifted os started H enc)
end ParseAround
end Go.Proofs.YteinegfbpfhflaaGreatDoor
