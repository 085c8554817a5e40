/-
  Any bytes are the document that the document says, or none, and why (ParseReads). Conditions: the seven tables of the row lie as the program's text lays them; of internal/bytealg.MaxLen nothing is asked but that it is a number.
-/
import Derived.Test.YteinegfbpfhflaaGreatDoorK56
import Derived.Test.YteinegfbpfhflaaGreatDoorK53
import Derived.Test.YteinegfbpfhflaaGreatDoorK55
import Derived.OpenShut
import Derived.Stop.Joined
namespace Go.Proofs.YteinegfbpfhflaaGreatDoor
open Go.ChangeShapes Go.WideShapes Go.ChangeAt Go.RowKit
set_option maxRecDepth 100000
namespace ParseReads
theorem lifted(os:Os)(started:os.Started)(H:Type)(enc:TypeId×Value->H) :
 ReturnsInHanded {} Tryz.checked os 3 .any (fun w args=>(Rows.parseReadsSpec.pre enc Tryz.prog Tryz.f3 [] false w args/\laidMetH Tryz.prog Z7 w)/\sizedMet enc Tryz.prog Tryz.f3 (OpenSpec.ofChange Rows.parseReadsSpec) false w args)
  (Rows.parseReadsSpec.post enc Tryz.prog Tryz.f3 false true false false):=by
 refine a1x started (by kernel_rfl) Tryz.func3
  (ChangeSpec.witness_shaped (enc:=enc) (C:=Tryz.checked) (os:=os) (X:=fun w _=>laidMetH Tryz.prog Z7 w) false (World.laidAll Tryz.prog os Z7) #[.slice none 0 0] 8 (World.laidAll_os _ _ _)
    (World.shaped_of_ZipB (by kernel_rfl) (by kernel_rfl)) (by kernel_rfl) (by kernel_rfl) (by kernel_rfl) (a28 os _)) ?_
 intro W base args ds gs before D0 hW _ E0;have D1:∀(j:Nat) t v,Tryz.f3.params[j]? = some t->args[j]? = some v->Value.okWide Tryz.prog W .any base t v:=D0;have hW':=hW;obtain⟨p,q,E1,hV,rfl,_,_⟩:=hW;have hA:DataW.TrodAll enc Tryz.prog W 0 (fun _=>true) true Tryz.f3.params.toList args.toList ds p:=E1;rw[Tryz.params3]at hA D1;obtain⟨v0,d0,rfl,rfl,h0⟩:=trodAll_one hA;obtain⟨rfl,rfl⟩:=trodVars_none hV;obtain⟨A0,bs0,cap0,rfl,D2,D3,D9⟩:=a8Z (D1 0 22 v0 rfl rfl) h0;simp only[A7]at hW';have E2:∀x∈p,x.block<W.heap.size:=fun x hx=>by simpa using hW'.lt x hx
 refine(b4o a9F A0 cap0 bs0 W (a5Z E0) E0 D9 D2 D3).mono fun e W' ⟨he,hb⟩ => ?_;subst he;exact⟨_,rfl,_,_,_,[],p,[],hW',trodAll_mk1 (shut_bool Tryz.underlying4 _),trodAll_mk1 (Below.trod a5K (by kernel_rfl) (of_decide_eq_true (by kernel_rfl)) h0 hb E2),rfl,hb.frame _,fun h=>by cases h⟩
theorem holds:Rows.ParseReadsSaid :=
 OpenClaim.holds_of_wide 3 Tryz.f3 rfl rfl rfl rfl rfl rfl rfl ⟨rfl,rfl,rfl,rfl,rfl⟩ rfl rfl rfl rfl rfl (by kernel_rfl) Tryz.func3 (by kernel_rfl)
  (of_decide_eq_true (by kernel_rfl)) (by unfold Func.isWrapper;first|(rw[g8 (by decide +kernel)];kernel_rfl)|(rw[f6 (by decide +kernel)];exact⟨rfl,rfl⟩))
  (fun os started H enc _=>lifted os started H enc)
end ParseReads
end Go.Proofs.YteinegfbpfhflaaGreatDoor
