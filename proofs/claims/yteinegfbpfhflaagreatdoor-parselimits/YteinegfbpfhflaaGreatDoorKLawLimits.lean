/-
  An element within another one, and so on, as deep as may be, is a document; one more is beyond the limits (ParseLimits). Conditions: the seven tables of the row lie as the program's text lays them; of internal/bytealg.MaxLen nothing is asked but that it is a number.
-/
import Derived.Test.YteinegfbpfhflaaGreatDoorKLimits
import Derived.Test.YteinegfbpfhflaaGreatDoorK55
import Derived.OpenShut
import Derived.Stop.Joined
namespace Go.Proofs.YteinegfbpfhflaaGreatDoor
open Go.ChangeShapes Go.WideShapes Go.ChangeAt Go.RowKit
set_option maxRecDepth 100000
namespace ParseLimits
theorem lifted(os:Os)(started:os.Started)(H:Type)(enc:TypeId×Value->H) :
 ReturnsInHanded {} Tryz.checked os 6 .any (fun w args=>(Rows.parseLimitsSpec.pre enc Tryz.prog Tryz.f6 [] false w args/\laidMetH Tryz.prog Z7 w)/\sizedMet enc Tryz.prog Tryz.f6 (OpenSpec.ofChange Rows.parseLimitsSpec) false w args)
  (Rows.parseLimitsSpec.post enc Tryz.prog Tryz.f6 false true false false):=by
 refine a1x started (by kernel_rfl) Tryz.func6
  (ChangeSpec.witness_shaped (enc:=enc) (C:=Tryz.checked) (os:=os) (X:=fun w _=>laidMetH Tryz.prog Z7 w) false (World.laidAll Tryz.prog os Z7) #[.int .u8 0] 8 (World.laidAll_os _ _ _)
    (World.shaped_of_ZipB (by kernel_rfl) (by kernel_rfl)) (by kernel_rfl) (by kernel_rfl) (by kernel_rfl) (a28 os _)) ?_
 intro W base args ds gs before D0 hW _ D2;have D1:∀(j:Nat) t v,Tryz.f6.params[j]? = some t->args[j]? = some v->Value.okWide Tryz.prog W .any base t v:=D0;have hW':=hW;obtain⟨p,q,D3,hV,rfl,_,_⟩:=hW;have hA:DataW.TrodAll enc Tryz.prog W 0 (fun _=>true) true Tryz.f6.params.toList args.toList ds p:=D3;rw[Tryz.params6]at hA D1;obtain⟨v0,d0,rfl,rfl,h0⟩:=trodAll_one hA;obtain⟨rfl,rfl⟩:=trodVars_none hV;simp only[A7]at hW';obtain⟨x0,rfl,rfl,rfl,wx0⟩:=open_int Tryz.underlying5 (D1 0 5 v0 rfl rfl) h0;refine(b2p a9F x0 wx0 W (a5Z D2) D2).mono fun e W' ⟨he,hb⟩ => ?_;subst he;exact⟨_,rfl,_,_,_,[],[],[],hW',trodAll_mk1 (shut_bool Tryz.underlying4 _),trodAll_mk1 (shut_int Tryz.underlying5 wx0),rfl,hb.frame _,fun h=>by cases h⟩
theorem holds:Rows.ParseLimitsSaid :=
 OpenClaim.holds_of_wide 6 Tryz.f6 rfl rfl rfl rfl rfl rfl rfl ⟨rfl,rfl,rfl,rfl,rfl⟩ rfl rfl rfl rfl rfl (by kernel_rfl) Tryz.func6 (by kernel_rfl)
  (of_decide_eq_true (by kernel_rfl)) (by unfold Func.isWrapper;first|(rw[g8 (by decide +kernel)];kernel_rfl)|(rw[f6 (by decide +kernel)];exact⟨rfl,rfl⟩))
  (fun os started H enc _=>lifted os started H enc)
end ParseLimits
end Go.Proofs.YteinegfbpfhflaaGreatDoor
