/-
  apostilleref08: small, said. Conditions: the reader lies as it is; the texts are not too long.
  apostilleref08.Reader: declaration. Conditions: the reader lies at a text's beginning; the text is not too long.
  apostilleref08.Parse: what it stands on. Conditions: none.
-/
import Derived.Test.YteinegfbpfhflaaGreatDoorM50
import Derived.Test.YteinegfbpfhflaaGreatDoorM35
import Derived.Test.YteinegfbpfhflaaGreatDoorM41
namespace Go.Proofs.YteinegfbpfhflaaGreatDoor
open Go.RowKit
set_option linter.unusedVariables false
set_option maxRecDepth 100000
set_option maxHeartbeats 64000000
def DV(w:World)(s:List UInt8)(v i:Value)(wr:World):Prop :=
 ∃k:Nat,k<=s.length/\i=.int .i64 (k:Int)/\iW wr w.heap.size v (jW (s.take k))/\Below w.heap.size w wr
theorem Ce{s:List UInt8}{k:Nat}(h:k<s.length):jW (s.take (k+1))=jW (s.take k)++[zN s[k]]:=by
 unfold jW;rw[aN h,List.map_append];rfl
theorem zM(S:ByteArray)(hlen:S.size<=1000000)(w:World):Calls Tryz.prog 61 #[.string S] w fun e w'=>e=.returned (.string (ba (jW S.data.toList)))/\Below w.heap.size w w':=by
 obtain⟨N,hN⟩ : ∃N,S.size=N:=⟨_,rfl⟩;have hNl:S.data.toList.length=N:=by rw[<-aF];exact hN
 have HNL:=aa hNl;rw[hN]at hlen;obtain⟨R,hR⟩ : ∃R:ByteArray,ba (jW S.data.toList)=R:=⟨_,rfl⟩;rw[hR];have HR:=aa hR;clear hNl hR;go_enter Tryz.func61,Tryz.ntmps61;go_wp2
 go_loopw [3,8] (DV w S.data.toList) (fun _ i _=>N-(intOf i).toNat)
 case atStart=>exact⟨0,aM _,rfl,iW.nil _ _,ae _ _⟩
 case round =>
  obtain⟨k,hk,rfl,hO,hb⟩:=hrel;rw[HNL.out]at hk;have HB:=aa hb;have hbs:=hb.size;by_cases hlt:k<N
  ·have hkl:k<S.data.toList.length:=by rw[HNL.out];exact hlt
   have hix:=cz S hkl;have hsn:=Ce hkl;have hkz:(k:Int)<(N:Int):=by omega
   have hol:(jW (S.data.toList.take k)).length<=k:=by unfold jW;rw[bN,aY];omega
   obtain⟨O,hOe⟩ : ∃O,jW (S.data.toList.take k)=O:=⟨_,rfl⟩;rw[hOe]at hO hsn hol;have HO:=aa hO;have hOn:O.length+1<=1000000000000:=by omega
   generalize S.data.toList[k]=c at *;have hcm:zN c=if 65<=c.toNat/\c.toNat<=90 then c+32 else c:=rfl
   have hc32:c.toNat<=90->(c+32).toNat=c.toNat+32:=fun h=>by
    rw[UInt8.toNat_add]
    show(c.toNat+32)%256=_
    omega
   obtain⟨x,hx⟩ : ∃x,c.toNat=x:=⟨_,rfl⟩;rw[hx]at hcm hix hc32;have HX:=aa hx;have hx256:x<256:=by rw[<-hx];exact c.toNat_lt
   clear hb hOe hO hx hkl;have HFIN:Hid (∀y,zN c=y->∀v3 w3,iW w3 w.heap.size v3 (O++[y])->Below w.heap.size wr w3->DV w S.data.toList v3 (.int .i64 ((k+1:Nat):Int)) w3):=fun y hy v3 w3 h3 hb3=>⟨k+1,by rw[HNL.out];exact hlt,rfl,by rw[hsn,hy];exact h3,HB.out.trans hb3⟩
   by_cases h65:65<=x
   ·have hz65:(65:Int)<=(x:Int):=by omega
    by_cases h90:x<=90
    ·have hz90:(x:Int)<=(90:Int):=by omega
     rw[av ⟨h65,h90⟩]at hcm;have HC:=aa (HFIN.out (c+32) hcm);have hcx:((x:Int)+32)=(((c+32).toNat:Nat):Int):=by rw[hc32 h90];omega
     have HCX:=aa hcx;clear hcm hc32 hcx HFIN
     go_wp2_with (at_builtin;refine ez rfl _ _ rfl w.heap.size O u3 rfl HO.out hbs (c+32) _ (by first|exact HCX.out|(rw[<-HCX.out];simp;omega)) rfl hOn ?_;intro v3 w3 hO3 hb3)
     have HO3:=aa (HC.out v3 w3 hO3 hb3);clear hO3 hb3;go_wp2
     go_roundw
     case rel=>exact(show Value.int .i64 ((k+1:Nat):Int)=_ by go_num) ▸ HO3.out
     case measure=>simp[intOf];omega
    ·have hz90:¬(x:Int)<=(90:Int):=by omega
     have hd90:=ap hz90;rw[am (fun h=>h90 h.2)]at hcm;have HC:=aa (HFIN.out c hcm);clear hcm hc32 HFIN
     go_wp2_with (at_builtin;refine ez rfl _ _ rfl w.heap.size O u3 rfl HO.out hbs c _ (by rw[HX.out]) rfl hOn ?_;intro v3 w3 hO3 hb3)
     have HO3:=aa (HC.out v3 w3 hO3 hb3);clear hO3 hb3;go_wp2
     go_roundw
     case rel=>exact(show Value.int .i64 ((k+1:Nat):Int)=_ by go_num) ▸ HO3.out
     case measure=>simp[intOf];omega
   ·have hz65:¬(65:Int)<=(x:Int):=by omega
    have hd65:=ap hz65;rw[am (fun h=>h65 h.1)]at hcm;have HC:=aa (HFIN.out c hcm);clear hcm hc32 HFIN
    go_wp2_with (at_builtin;refine ez rfl _ _ rfl w.heap.size O u3 rfl HO.out hbs c _ (by rw[HX.out]) rfl hOn ?_;intro v3 w3 hO3 hb3)
    have HO3:=aa (HC.out v3 w3 hO3 hb3);clear hO3 hb3;go_wp2
    go_roundw
    case rel=>exact(show Value.int .i64 ((k+1:Nat):Int)=_ by go_num) ▸ HO3.out
    case measure=>simp[intOf];omega
  ·have hkz:¬(k:Int)<(N:Int):=by omega
   have hkz1:=ap hkz;have hfin:=hO;rw[bC (by rw[HNL.out];omega)]at hfin
   obtain⟨A',cap',hv,hcl,hcm,hli⟩:=hfin.lies;have hcv:=cF cap' hli;rw[show(⟨(jW S.data.toList).toArray⟩ : ByteArray)=R from HR.out]at hcv;generalize (jW S.data.toList).length=n at *;subst hv;clear hli hfin hO hb;go_wp2;go_ret;exact⟨rfl,HB.out⟩
theorem pk(S key:ByteArray)(b:Nat)(v:Value)(s:Rf)(k:Nat)(w:World)(h:eR w b S v s k)(hS:S.size<=1000000)(hK:key.size<=1000000) :
 Calls Tryz.prog 60 #[.pointer (some ⟨b,0,none⟩),.string key] w fun e w'=>e=.returned (.tuple #[.bool (ea key.data.toList s).1.isSome,.string (ba ((ea key.data.toList s).1.getD []))])/\dA b S v (ea key.data.toList s).2 w w':=by
 have HB1:=aa (eN S b v s k w h hS);have HSE:Hid (∀w' k',eR w' b S v (bG s) k'->_):=fun w' k' hm=>dP S key b v (bG s) k' w' hm hS hK;have HTK:Hid (∀w' k',eR w' b S v (bG s) k'->_):=fun w' k' hm=>eT S key b v (bG s) k' w' hm hS hK;have HQU:Hid (∀w' k',eR w' b S v (bI key.data.toList (bG s)) k'->_):=fun w' k' hm=>nL S b v (bI key.data.toList (bG s)) k' w' hm hS;obtain⟨c0,c1,_,c3⟩:=h.cells;have hlt:=h.lt;have hk:=h.le
 have HBACK:Hid (∀w1 w2:World,dA b S v (bG s) w w1->dA b S v (bG s) w1 w2->dA b S v s w (w2.setCell ⟨b,1,none⟩ (.int .i64 (k:Int)))):=fun w1 w2 h1 h2=>by
  obtain⟨k2,hm2⟩:=h2.at';have h3:=dA.go hm2 (j:=k) hk;have e:(bG s).to (S.data.toList.drop k)=s:=by rw[<-h.rest];rfl
  rw[e]at h3;exact(h1.trans h2).trans h3
 have HLT:=aa hlt;by_cases hz:fN s=0
 ·have hR:ea key.data.toList s=(none,s):=by unfold ea;rw[av (.inl hz)]
  rw[hR];rw[hz]at HB1;clear h hR c0 c3 HSE HTK HQU hz;go_enter Tryz.func60,Tryz.ntmps60
  go_wp2_with fail
  refine HB1.out.mono ?_;rintro e w1⟨rfl,hr1⟩;obtain⟨k1,hm1⟩:=hr1.at';have d1:=hm1.cells.2.1;have df:=hm1.frozen 1;have dl:=hm1.lt;have HEND:=aa (HBACK.out w1 w1 hr1 (dA.of hm1 (ae _ _)));clear hr1 hm1 HBACK c1;go_wp2
  go_ret2
  exact⟨rfl,HEND.out⟩
 ·have hzz:((fN s:Nat):Int)≠0:=by omega
  have hzb:(((fN s:Nat):Int)==0)=false:=by rw[ak];exact hzz
  generalize hB:fN s=N8 at *;cases hse:bX key.data.toList (bG s)with
  |false =>
   have hR:ea key.data.toList s=(none,s):=by unfold ea;rw[av (.inr hse)]
   rw[hR];rw[hse]at HSE;clear h hR c0 c3 HTK HQU hse hB;go_enter Tryz.func60,Tryz.ntmps60
   go_wp2_with fail
   refine HB1.out.mono ?_;rintro e w1⟨rfl,hr1⟩;obtain⟨k1,hm1⟩:=hr1.at';have HC2:=aa (HSE.out w1 k1 hm1);have HR1:=aa hr1;clear hr1 hm1
   go_wp2_with fail
   refine HC2.out.mono ?_;rintro e w2⟨rfl,hr2⟩;obtain⟨k2,hm2⟩:=hr2.at';have d1:=hm2.cells.2.1;have df:=hm2.frozen 1;have dl:=hm2.lt;have HEND:=aa (HBACK.out w1 w2 HR1.out hr2);clear hr2 hm2 HBACK c1;go_wp2
   go_ret2
   exact⟨rfl,HEND.out⟩
  |true =>
   have hR:ea key.data.toList s=(some (dq (bI key.data.toList (bG s))).1,(dq (bI key.data.toList (bG s))).2):=by
    have hno:¬(fN s=0∨bX key.data.toList (bG s)=false):=fun h=>h.elim (fun h1=>hz (hB.symm.trans h1)) (fun h2=>by rw[hse]at h2;cases h2)
    unfold ea;rw[am hno]
   rw[hR];rw[hse]at HSE;clear h hR c0 c3 hse HBACK hB;go_enter Tryz.func60,Tryz.ntmps60
   go_wp2_with fail
   refine HB1.out.mono ?_;rintro e w1⟨rfl,hr1⟩;obtain⟨k1,hm1⟩:=hr1.at';have HC2:=aa (HSE.out w1 k1 hm1);have HR1:=aa hr1;clear hr1 hm1
   go_wp2_with fail
   refine HC2.out.mono ?_;rintro e w2⟨rfl,hr2⟩;obtain⟨k2,hm2⟩:=hr2.at';have HC3:=aa (HTK.out w2 k2 hm2);have HR2:=aa (HR1.out.trans hr2);clear hr2 hm2 c1
   go_wp2_with fail
   refine HC3.out.mono ?_;rintro e w3⟨rfl,hr3⟩;obtain⟨k3,hm3⟩:=hr3.at';have HC4:=aa (HQU.out w3 k3 hm3);have HR3:=aa (HR2.out.trans hr3);clear hr3 hm3
   go_wp2_with fail
   refine HC4.out.mono ?_;rintro e w4⟨rfl,hr4⟩;have HR4:=aa (HR3.out.trans hr4);clear hr4;go_wp2
   go_ret2
   exact⟨rfl,HR4.out⟩
theorem Gp{key:List UInt8}{s:Rf}{n:Nat}(h:s.rest.length<=n):((ea key s).1.getD []).length<=n:=by
 unfold ea;split
 ·exact aM _
 ·show(dq (bI key (bG s))).1.length<=n
  have h1:=py (bI key (bG s));have h2:=((cJ s).trans (cA key (bG s))).len;omega
theorem jK{v l:List UInt8}(h:v≠l):((ba v).toList==l)=false:=by
 rw[aq,ak];exact fun e=>h e
theorem jL(v:List UInt8):((ba v).toList==v)=true:=by
 rw[aq,bc];rfl
theorem Dt(S:ByteArray)(b:Nat)(v:Value)(s:Rf)(w:World)(h:eR w b S v s 0)(hS:S.size<=1000000)(hd:it s.rest=false) :
 Calls Tryz.prog 33 #[.pointer (some ⟨b,0,none⟩)] w fun e w'=>e=.returned (.tuple #[])/\dA b S v s w w':=by
 have HSE:Hid (Calls Tryz.prog 57 #[.pointer (some ⟨b,0,none⟩),.string ⟨#[60,63,120,109,108]⟩] w fun e w'=>e=.returned (.bool (bX [60,63,120,109,108] s))/\dA b S v s w w'):=dP S ⟨#[60,63,120,109,108]⟩ b v s 0 w h hS (by decide)
 have hrs:s.rest=S.data.toList:=by rw[h.rest,List.drop_zero]
 cases hp:aH [60,63,120,109,108] s.rest with
 |none =>
  rw[ek hp]at HSE;clear hd hrs hp;go_enter Tryz.func33,Tryz.ntmps33
  go_wp2_with fail
  refine HSE.out.mono ?_;rintro e w1⟨rfl,hr1⟩;have HR1:=aa hr1;clear hr1;go_wp2;refine bodyPost_ret (results_none rfl _ _ _) rfl ?_;exact⟨rfl,HR1.out⟩
 |some r =>
  rw[dw hp]at HSE;have hSr:S.data.toList=[60,63,120,109,108]++r:=by rw[<-hrs];exact cH hp
  cases r with
  |nil =>
   have hsz:S.size=5:=by rw[aF,hSr];rfl
   clear hd hrs hp hSr;go_enter Tryz.func33,Tryz.ntmps33
   go_wp2_with fail
   refine HSE.out.mono ?_;rintro e w1⟨rfl,hr1⟩;obtain⟨k1,hm1⟩:=hr1.at';have c0:=hm1.cells.1;have HR1:=aa hr1;clear hr1 hm1;go_wp2;refine bodyPost_ret (results_none rfl _ _ _) rfl ?_;exact⟨rfl,HR1.out⟩
  |cons c t =>
   have hbc:fq c=false:=by unfold it at hd;rw[hp]at hd;exact hd
   have hl5:5<S.data.toList.length:=by rw[hSr];simp
   have hix:=cz S hl5
   have h5:S.data.toList[5]=c:=by
    apply Option.some_inj.1
    rw[<-aw hl5,hSr];rfl
   rw[h5]at hix;have hix':∀w,(Instr.index 9 (.string S) (.int .i64 5)).run Tryz.prog w=.ok (.int .u8 (c.toNat:Int)) w:=hix;have hsz:¬(S.size:Int)<6:=by rw[aF];omega
   have hszd:=ap hsz
   have HBK:Hid (∀w',Calls Tryz.prog 58 #[.int .u8 (c.toNat:Int)] w' fun e w''=>e=.returned (.bool false)/\w''=w'):=fun w'=>by
    have:=gW (c.toNat:Int) w';rw[gj,hbc]at this;exact this
   clear hd hrs hp hSr hix h5 hbc hl5;go_enter Tryz.func33,Tryz.ntmps33
   go_wp2_with fail
   refine HSE.out.mono ?_;rintro e w1⟨rfl,hr1⟩;obtain⟨k1,hm1⟩:=hr1.at';have c0:=hm1.cells.1;have HR1:=aa hr1;clear hr1 hm1
   go_wp2_with fail
   refine(HBK.out _).mono ?_;rintro e w2⟨rfl,hw⟩;rw[hw];clear hw;go_wp2;refine bodyPost_ret (results_none rfl _ _ _) rfl ?_;exact⟨rfl,HR1.out⟩
def I1:Option (List UInt8)->Bool
 |some v=>decide (v≠[49,46,48])
 |none=>true
def IO:Option (List UInt8)->Bool
 |some v=>decide (jW v≠[117,116,102,45,56])
 |none=>false
def I0:Option (List UInt8)->Bool
 |some v=>decide (v≠[121,101,115])&&decide (v≠[110,111])
 |none=>false
theorem zi(s:Rf):lH s=(ea gp s).2.or (I1 (ea gp s).1):=by unfold lH;cases(ea gp s).1<;>rfl
theorem zh(s:Rf):lf s=(ea eb s).2.or (IO (ea eb s).1):=by unfold lf;cases(ea eb s).1<;>rfl
theorem zg(s:Rf):ld s=(ea fc s).2.or (I0 (ea fc s).1):=by unfold ld;cases(ea fc s).1<;>rfl
theorem dA.marked{b:Nat}{S:ByteArray}{v:Value}{s s':Rf}{w w1:World}(h:dA b S v s w w1){x:Bool}(e:({ s with bad:=x }:Rf)=s'):dA b S v s' w (w1.setCell ⟨b,3,none⟩ (.bool x)):=by
 obtain⟨k,hk⟩:=h.at';rw[<-e];exact h.trans (dA.mark hk x)
theorem Fx(S:ByteArray)(b:Nat)(v:Value)(s:Rf)(w:World)(h:eR w b S v s 0)(hS:S.size<=1000000)(hd:it s.rest=true) :
 Calls Tryz.prog 33 #[.pointer (some ⟨b,0,none⟩)] w fun e w'=>e=.returned (.tuple #[])/\dA b S v (gZ s) w w':=by
 have HSE:Hid (Calls Tryz.prog 57 #[.pointer (some ⟨b,0,none⟩),.string ⟨#[60,63,120,109,108]⟩] w fun e w'=>e=.returned (.bool (bX [60,63,120,109,108] s))/\dA b S v s w w'):=dP S ⟨#[60,63,120,109,108]⟩ b v s 0 w h hS (by decide)
 have hrs:s.rest=S.data.toList:=by rw[h.rest,List.drop_zero]
 have hdec:gZ s=bI [63,62] (bG (ld (lf (lH (bI [60,63,120,109,108] s))))):=by unfold gZ;rw[av hd]
 rw[hdec];have hrl:s.rest.length<=1000000:=by rw[hrs,<-aF];exact hS
 have HT0:Hid (∀w' k',eR w' b S v s k'->Calls Tryz.prog 59 #[.pointer (some ⟨b,0,none⟩),.string ⟨#[60,63,120,109,108]⟩] w' fun e w''=>e=.returned (.tuple #[])/\dA b S v (bI [60,63,120,109,108] s) w' w''):=fun w' k' hm=>eT S ⟨#[60,63,120,109,108]⟩ b v s k' w' hm hS (by decide)
 have hl1:=(cA [60,63,120,109,108] s).len;obtain⟨s1,hs1⟩ : ∃s1,bI [60,63,120,109,108] s=s1:=⟨_,rfl⟩;rw[hs1]at HT0 hl1 ⊢;obtain⟨oA,hoA⟩ : ∃oA,(ea gp s1).1=oA:=⟨_,rfl⟩;obtain⟨sA,hsA⟩ : ∃sA,(ea gp s1).2=sA:=⟨_,rfl⟩
 have HSA:Hid (∀w' k',eR w' b S v s1 k'->Calls Tryz.prog 60 #[.pointer (some ⟨b,0,none⟩),.string ⟨#[118,101,114,115,105,111,110]⟩] w' fun e w''=>e=.returned (.tuple #[.bool oA.isSome,.string (ba (oA.getD []))])/\dA b S v sA w' w''):=fun w' k' hm=>by
  rw[<-hoA,<-hsA];exact pk S ⟨#[118,101,114,115,105,111,110]⟩ b v s1 k' w' hm hS (by decide)
 have hA:lH s1=sA.or (I1 oA):=by rw[zi,hoA,hsA]
 obtain⟨s2,hs2⟩ : ∃s2,lH s1=s2:=⟨_,rfl⟩;rw[hs2]at hA ⊢;have hl2:s2.rest.length<=s1.rest.length:=by rw[hA];show sA.rest.length<=_;rw[<-hsA];exact(jb gp s1).len
 obtain⟨oB,hoB⟩ : ∃oB,(ea eb s2).1=oB:=⟨_,rfl⟩;obtain⟨sB,hsB⟩ : ∃sB,(ea eb s2).2=sB:=⟨_,rfl⟩;have hbl:(oB.getD []).length<=1000000:=by rw[<-hoB];exact Gp (by omega)
 have HSB:Hid (∀w' k',eR w' b S v s2 k'->Calls Tryz.prog 60 #[.pointer (some ⟨b,0,none⟩),.string ⟨#[101,110,99,111,100,105,110,103]⟩] w' fun e w''=>e=.returned (.tuple #[.bool oB.isSome,.string (ba (oB.getD []))])/\dA b S v sB w' w''):=fun w' k' hm=>by
  rw[<-hoB,<-hsB];exact pk S ⟨#[101,110,99,111,100,105,110,103]⟩ b v s2 k' w' hm hS (by decide)
 have HSMA:Hid (∀w',Calls Tryz.prog 61 #[.string (ba (oB.getD []))] w' fun e w''=>e=.returned (.string (ba (jW (oB.getD []))))/\Below w'.heap.size w' w''):=fun w'=>by
  have:=zM (ba (oB.getD [])) (by rw[cV];exact hbl) w'
  rw[bp]at this;exact this
 have hB:lf s2=sB.or (IO oB):=by rw[zh,hoB,hsB]
 obtain⟨s3,hs3⟩ : ∃s3,lf s2=s3:=⟨_,rfl⟩;rw[hs3]at hB ⊢;obtain⟨oC,hoC⟩ : ∃oC,(ea fc s3).1=oC:=⟨_,rfl⟩;obtain⟨sC,hsC⟩ : ∃sC,(ea fc s3).2=sC:=⟨_,rfl⟩
 have HSC:Hid (∀w' k',eR w' b S v s3 k'->Calls Tryz.prog 60 #[.pointer (some ⟨b,0,none⟩),.string ⟨#[115,116,97,110,100,97,108,111,110,101]⟩] w' fun e w''=>e=.returned (.tuple #[.bool oC.isSome,.string (ba (oC.getD []))])/\dA b S v sC w' w''):=fun w' k' hm=>by
  rw[<-hoC,<-hsC];exact pk S ⟨#[115,116,97,110,100,97,108,111,110,101]⟩ b v s3 k' w' hm hS (by decide)
 have hC:ld s3=sC.or (I0 oC):=by rw[zg,hoC,hsC]
 obtain⟨s4,hs4⟩ : ∃s4,ld s3=s4:=⟨_,rfl⟩;rw[hs4]at hC ⊢;have HBL4:Hid (∀w' k',eR w' b S v s4 k'->Calls Tryz.prog 62 #[.pointer (some ⟨b,0,none⟩)] w' fun e w''=>e=.returned (.int .i64 (fN s4:Nat))/\dA b S v (bG s4) w' w''):=fun w' k' hm=>eN S b v s4 k' w' hm hS;have HT5:Hid (∀w' k',eR w' b S v (bG s4) k'->Calls Tryz.prog 59 #[.pointer (some ⟨b,0,none⟩),.string ⟨#[63,62]⟩] w' fun e w''=>e=.returned (.tuple #[])/\dA b S v (bI [63,62] (bG s4)) w' w''):=fun w' k' hm=>eT S ⟨#[63,62]⟩ b v (bG s4) k' w' hm hS (by decide)
 have HA:=aa hA;have HB:=aa hB;have HC:=aa hC
 obtain⟨c,t,hp,hbc⟩ : ∃c t,aH [60,63,120,109,108] s.rest=some (c::t)/\fq c=true:=by
  unfold it at hd;cases hp:aH [60,63,120,109,108] s.rest with
  |none=>rw[hp]at hd;cases hd
  |some r =>
   rw[hp]at hd;cases r with
   |nil=>cases hd
   |cons c t=>exact⟨c,t,rfl,hd⟩
 rw[dw hp]at HSE;have hSr:S.data.toList=[60,63,120,109,108]++c::t:=by rw[<-hrs];exact cH hp
 have hl5:5<S.data.toList.length:=by rw[hSr];simp
 have hix:=cz S hl5
 have h5:S.data.toList[5]=c:=by
  apply Option.some_inj.1
  rw[<-aw hl5,hSr];rfl
 rw[h5]at hix;have hix':∀w,(Instr.index 9 (.string S) (.int .i64 5)).run Tryz.prog w=.ok (.int .u8 (c.toNat:Int)) w:=hix;have hsz:¬(S.size:Int)<6:=by rw[aF];omega
 have hszd:=ap hsz
 have HBK:Hid (∀w',Calls Tryz.prog 58 #[.int .u8 (c.toNat:Int)] w' fun e w''=>e=.returned (.bool true)/\w''=w'):=fun w'=>by
  have:=gW (c.toNat:Int) w';rw[gj,hbc]at this;exact this
 clear h hd hrs hdec hrl hl1 hs1 hoA hsA hA hs2 hl2 hoB hsB hbl hB hs3 hoC hsC hC hs4 hp hbc hSr hix h5 hl5;go_enter Tryz.func33,Tryz.ntmps33
 go_wp2_with fail
 refine HSE.out.mono ?_;rintro e w1⟨rfl,hr1⟩;obtain⟨k1,hm1⟩:=hr1.at';have c0:=hm1.cells.1;have HR1:=aa hr1;have HC1:=aa (HT0.out w1 k1 hm1);clear hr1 hm1
 go_wp2_with fail
 refine(HBK.out _).mono ?_;rintro e w2⟨rfl,hw⟩;rw[hw];clear hw hix' hsz hszd
 go_wp2_with fail
 refine HC1.out.mono ?_;rintro e w3⟨rfl,hr3⟩;obtain⟨k3,hm3⟩:=hr3.at';have HR3:=aa (HR1.out.trans hr3);have HC3:=aa (HSA.out w3 k3 hm3);clear hr3 hm3 c0
 go_wp2_with fail
 refine HC3.out.mono ?_;rintro e w4⟨rfl,hr4⟩;obtain⟨k4,hm4⟩:=hr4.at';have c3:=hm4.cells.2.2.2;have cf:=hm4.frozen 3;have dl:=hm4.lt;have HR4:=aa (HR3.out.trans hr4);have HEND:Hid (∀x:Bool,({ sA with bad:=x }:Rf)=s2->dA b S v s2 w (w4.setCell ⟨b,3,none⟩ (.bool x))):=fun x hx=>HR4.out.marked hx;clear hr4 hm4
 go_upto_region 3 with fail
 go_cut [] (fun wx=>dA b S v s2 w wx)
 case first =>
  cases hb:sA.bad with
  |true =>
   rw[hb]at c3;have HE:=aa (HEND.out true (by rw[HA.out];unfold Rf.or;rw[hb];rfl))
   clear HEND HSE HT0 HSA HSB HSMA HSC HBL4 HT5;go_wp2
   go_meet
   exact HE.out
  |false =>
   rw[hb]at c3;cases oA with
   |none =>
    dsimp only[Option.isSome]at *;have HE:=aa (HEND.out true (by rw[HA.out];unfold Rf.or;rw[hb];rfl))
    clear HEND HSE HT0 HSA HSB HSMA HSC HBL4 HT5;go_wp2
    go_meet
    exact HE.out
   |some q =>
    dsimp only[Option.isSome,Option.getD]at *;by_cases hq:q=[49,46,48]
    ·subst hq
     have te:=jL [49,46,48];have HE:=aa (HEND.out false (by rw[HA.out];unfold Rf.or;rw[hb];rfl))
     clear HEND HSE HT0 HSA HSB HSMA HSC HBL4 HT5;go_wp2
     go_meet
     exact HE.out
    ·have te:=jK hq
     have HE:=aa (HEND.out true (by rw[HA.out];unfold Rf.or;rw[hb];unfold I1;simp[hq]))
     clear HEND HSE HT0 HSA HSB HSMA HSC HBL4 HT5;go_wp2
     go_meet
     exact HE.out
 case rest =>
  have HR5:=aa hcut;obtain⟨w5,hw5⟩ : ∃w5:World,w5=wc:=⟨_,rfl⟩;subst hw5;obtain⟨k5,hm5⟩:=hcut.at';have HC5:=aa (HSB.out w5 k5 hm5);clear hm5 HEND c3 cf dl hcut
  go_wp2_with fail
  refine HC5.out.mono ?_;rintro e w6⟨rfl,hr6⟩;obtain⟨k6,hm6⟩:=hr6.at';have c3:=hm6.cells.2.2.2;have cf:=hm6.frozen 3;have dl:=hm6.lt;have HR6:=aa (HR5.out.trans hr6);have HEND:Hid (∀x:Bool,({ sB with bad:=x }:Rf)=s3->dA b S v s3 w (w6.setCell ⟨b,3,none⟩ (.bool x))):=fun x hx=>HR6.out.marked hx
  have HEN2:Hid (∀w7,Below w6.heap.size w6 w7->(w7.cell? ⟨b,3,none⟩=some (.bool sB.bad)/\w7.frozen? ⟨b,3,none⟩=false)/\∀x:Bool,({ sB with bad:=x }:Rf)=s3->dA b S v s3 w (w7.setCell ⟨b,3,none⟩ (.bool x))):=fun w7 hb7=>by
   have hr7:=hm6.below hb7;exact⟨⟨hr7.cells.2.2.2,hr7.frozen 3⟩,fun x hx=>(HR6.out.trans (dA.of hm6 hb7)).marked hx⟩
  clear hr6 hm6
  go_upto_region 5 with fail
  go_cut [] (fun wx=>dA b S v s3 w wx)
  case first =>
   cases hb:sB.bad with
   |true =>
    rw[hb]at c3;have HE:=aa (HEND.out true (by rw[HB.out];unfold Rf.or;rw[hb];rfl))
    clear HEND HSE HT0 HSA HSB HSMA HSC HBL4 HT5 HEN2;go_wp2
    go_meet
    exact HE.out
   |false =>
    rw[hb]at c3;cases oB with
    |none =>
     dsimp only[Option.isSome]at *;have HE:=aa (HEND.out false (by rw[HB.out];unfold Rf.or;rw[hb];rfl))
     clear HEND HSE HT0 HSA HSB HSMA HSC HBL4 HT5 HEN2;go_wp2
     go_meet
     exact HE.out
    |some q =>
     dsimp only[Option.isSome,Option.getD]at *;have HSM:=aa (HSMA.out w6);clear HEND HSMA
     go_wp2_with fail
     refine HSM.out.mono ?_;rintro e w7⟨rfl,hb7⟩;obtain⟨⟨d3,df⟩,hset⟩:=HEN2.out w7 hb7;rw[hb]at d3;have HEND:=aa hset;have dl7:b<w7.heap.size:=a8 dl hb7.size;clear hset hb7 c3 cf dl;by_cases hq:jW q=[117,116,102,45,56]
     ·rw[hq]
      have te:=jL [117,116,102,45,56];have HE:=aa (HEND.out false (by rw[HB.out];unfold Rf.or;rw[hb];unfold IO;simp[hq]))
      clear HEND HSE HT0 HSA HSB HSC HBL4 HT5 HEN2;go_wp2
      go_meet
      exact HE.out
     ·have te:=jK hq
      have HE:=aa (HEND.out true (by rw[HB.out];unfold Rf.or;rw[hb];unfold IO;simp[hq]))
      clear HEND HSE HT0 HSA HSB HSC HBL4 HT5 HEN2;go_wp2
      go_meet
      exact HE.out
  case rest =>
   have HR7:=aa hcut;obtain⟨w7,hw7⟩ : ∃w7:World,w7=wc:=⟨_,rfl⟩;subst hw7;obtain⟨k7,hm7⟩:=hcut.at';have HC7:=aa (HSC.out w7 k7 hm7);clear hm7 HEND HEN2 c3 cf dl hcut
   go_wp2_with fail
   refine HC7.out.mono ?_;rintro e w8⟨rfl,hr8⟩;obtain⟨k8,hm8⟩:=hr8.at';have c3:=hm8.cells.2.2.2;have cf:=hm8.frozen 3;have dl:=hm8.lt;have HR8:=aa (HR7.out.trans hr8);have HEND:Hid (∀x:Bool,({ sC with bad:=x }:Rf)=s4->dA b S v s4 w (w8.setCell ⟨b,3,none⟩ (.bool x))):=fun x hx=>HR8.out.marked hx;clear hr8 hm8
   go_upto_region 7 with fail
   go_cut [] (fun wx=>dA b S v s4 w wx)
   case first =>
    cases hb:sC.bad with
    |true =>
     rw[hb]at c3;have HE:=aa (HEND.out true (by rw[HC.out];unfold Rf.or;rw[hb];rfl))
     clear HEND HSE HT0 HSA HSB HSMA HSC HBL4 HT5;go_wp2
     go_meet
     exact HE.out
    |false =>
     rw[hb]at c3;cases oC with
     |none =>
      dsimp only[Option.isSome]at *;have HE:=aa (HEND.out false (by rw[HC.out];unfold Rf.or;rw[hb];rfl))
      clear HEND HSE HT0 HSA HSB HSMA HSC HBL4 HT5;go_wp2
      go_meet
      exact HE.out
     |some q =>
      dsimp only[Option.isSome,Option.getD]at *;by_cases hq:q=[121,101,115]
      ·subst hq
       have te:=jL [121,101,115];have HE:=aa (HEND.out false (by rw[HC.out];unfold Rf.or;rw[hb];rfl))
       clear HEND HSE HT0 HSA HSB HSMA HSC HBL4 HT5;go_wp2
       go_meet
       exact HE.out
      ·have te:=jK hq
       by_cases hq2:q=[110,111]
       ·subst hq2
        have te2:=jL [110,111];have HE:=aa (HEND.out false (by rw[HC.out];unfold Rf.or;rw[hb];rfl))
        clear HEND HSE HT0 HSA HSB HSMA HSC HBL4 HT5;go_wp2
        go_meet
        exact HE.out
       ·have te2:=jK hq2
        have HE:=aa (HEND.out true (by rw[HC.out];unfold Rf.or;rw[hb];unfold I0;simp[hq,hq2]))
        clear HEND HSE HT0 HSA HSB HSMA HSC HBL4 HT5;go_wp2
        go_meet
        exact HE.out
   case rest =>
    have HR9:=aa hcut;obtain⟨w9,hw9⟩ : ∃w9:World,w9=wc:=⟨_,rfl⟩;subst hw9;obtain⟨k9,hm9⟩:=hcut.at';have HC9:=aa (HBL4.out w9 k9 hm9);clear hm9 HEND c3 cf dl hcut
    go_wp2_with fail
    refine HC9.out.mono ?_;rintro e w10⟨rfl,hr10⟩;obtain⟨k10,hm10⟩:=hr10.at';have HC10:=aa (HT5.out w10 k10 hm10);have HR10:=aa (HR9.out.trans hr10);clear hr10 hm10
    go_wp2_with fail
    refine HC10.out.mono ?_;rintro e w11⟨rfl,hr11⟩;have HR11:=aa (HR10.out.trans hr11);clear hr11;go_wp2
    go_end0
    exact⟨rfl,HR11.out⟩
theorem tX:∀(k:Nat) (s:Rf),Kp s->s.rest.length<=100000->Kp (iB k s)/\ey (iB k s)<=ey s
 |0,s,h,_=>⟨h,af _⟩
 |k+1,s,h,hr=>by
  have h0:0<s.ns.length:=bO.2 h.ne;have hb:=(cJ s).len;have hbn:(bG s).ns=s.ns:=rfl;have hbk:Kp (bG s):=h.of hbn;rw[iB];split
  ·exact⟨h,af _⟩
  ·split
   ·next hc =>
    have hl:=oK (n:=0) hc;have hn:=tQ 0 (bG s);obtain⟨a1,a2⟩:=tX k (fM 0 (bG s)) (xX hbk (by omega) (Int.le_refl _) (by rw[hbn];omega)) (by omega)
    refine⟨a1,ag a2 ?_⟩;unfold ey;rw[hn,hbn];omega
   ·split
    ·next hc =>
     have hl:=ov (n:=0) hc;have hn:=ou 0 (bG s);obtain⟨a1,a2⟩:=tX k (fm 0 (bG s)) (tk hbk (by omega) (Int.le_refl _) (by rw[hbn];omega)) (by omega)
     refine⟨a1,ag a2 ?_⟩;unfold ey;rw[hn,hbn];omega
    ·refine⟨hbk,?_⟩
     unfold ey;rw[hbn];omega
theorem E8(s:List UInt8):Kp (fR s):=by
 refine⟨by show[cM]≠[];simp,rfl,fun j h1 h2 => ?_,(IX s).ns⟩
 have h2':j<1:=h2;omega
theorem FB(s:Rf):(lH s).ns=s.ns:=(congrArg Rf.ns (zi s)).trans (xd gp s)
theorem FA(s:Rf):(lf s).ns=s.ns:=(congrArg Rf.ns (zh s)).trans (xd eb s)
theorem Fz(s:Rf):(ld s).ns=s.ns:=(congrArg Rf.ns (zg s)).trans (xd fc s)
theorem tM(s:Rf):(gZ s).ns=s.ns:=by
 unfold gZ;split
 ·generalize hs1:bI [60,63,120,109,108] s=s1
  have h1:s1.ns=s.ns:=by rw[<-hs1];exact dX _ _
  rw[<-h1];generalize hs2:lH s1=s2;have h2:s2.ns=s1.ns:=by rw[<-hs2];exact FB _
  rw[<-h2];generalize hs3:lf s2=s3;have h3:s3.ns=s2.ns:=by rw[<-hs3];exact FA _
  rw[<-h3];generalize hs4:ld s3=s4;have h4:s4.ns=s3.ns:=by rw[<-hs4];exact Fz _
  rw[<-h4];rw[dX];rfl
 ·rfl
theorem Jo{s:List UInt8}(h:s.length<=100000):Kp (ik s)/\ey (ik s)<=1+2*s.length/\(ik s).rest.length<=s.length:=by
 have h1:=(ma (fR s)).len;have h1':(gZ (fR s)).rest.length<=s.length:=h1;have hn:=tM (fR s);obtain⟨a1,a2⟩:=tX (s.length+1) (gZ (fR s)) ((E8 s).of hn) (by omega)
 refine⟨a1,ag a2 ?_,ag (fG _ _).len h1'⟩;unfold ey;rw[hn]
 show 1+2*_<=_
 omega
theorem Jn{s:List UInt8}(h:s.length<=100000):Kp (fB s)/\ey (fB s)<=2+2*s.length/\(fB s).rest.length<=s.length:=by
 obtain⟨a1,a2,a3⟩:=Jo h;unfold fB;split
 ·exact⟨a1,by omega,a3⟩
 ·have h0:0<(ik s).ns.length:=bO.2 a1.ne
  obtain⟨b1,b2,_⟩:=xQ (s.length+1) 0 (ik s) a1 (by omega) (by omega) (Int.le_refl _) (by omega)
  exact⟨b1,by omega,ag (iq _ _ _).len a3⟩
theorem Jm{s:List UInt8}(h:s.length<=100000):Kp (gx s)/\ey (gx s)<=2+2*s.length/\(gx s).rest.length<=s.length:=by
 obtain⟨a1,a2,a3⟩:=Jn h;unfold gx;split
 ·exact⟨a1,a2,a3⟩
 ·obtain⟨b1,b2⟩:=tX (s.length+1) (fB s) a1 (by omega)
  exact⟨b1,by omega,ag (fG _ _).len a3⟩
theorem Ct{W:World}{B g:Nat}(h:W.heap[g]? = some (.cells #[.int .i64 0,.int .i64 (-1),.string ⟨#[]⟩,.string ⟨#[]⟩,.string ⟨#[]⟩,.string ⟨#[]⟩,.slice none 0 0,.slice none 0 0] 42 (0,0)))(hB:B<=g):W.ownsRow B 42 8 (.slice (some ⟨g,0,none⟩) 1 1) 1 ([(⟨cM,.slice none 0 0,.slice none 0 0⟩ : Ny)].flatMap gS) :=
 ⟨rfl,.inr ⟨g,1,_,rfl,hB,h,af _,by decide,rfl,rfl⟩⟩
noncomputable def q8(bs:List UInt8):Option (List Nd):=if iZ bs=true then lc (bJ bs)else none
def qM(bs:List UInt8)(e:Ending)(w':World):Prop:=match q8 bs with
 |none=>e=.returned (.tuple #[.slice none 0 0,.int .i64 2])
 |some l=>if eI l=0 then ∃v,eD w' w'.heap.size v l/\e=.returned (.tuple #[v,.int .i64 0])else e=.returned (.tuple #[.slice none 0 0,.int .i64 (eI l)])
end Go.Proofs.YteinegfbpfhflaaGreatDoor
