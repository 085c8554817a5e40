/-
  The document's own answer for a reference. Conditions: the text is not too long.
  The document's own text with its references' characters. Conditions: the text is not too long.
-/
import Derived.Test.YteinegfbpfhflaaGreatDoorM25
import Derived.Test.YteinegfbpfhflaaGreatDoorM00
namespace Go.Proofs.YteinegfbpfhflaaGreatDoor
open Go.RowKit
set_option linter.unusedVariables false
set_option maxHeartbeats 8000000
set_option maxRecDepth 100000
def gC(S:ByteArray)(e:Ending):Prop :=
 (∃Y:ByteArray,fw S.data.toList=some Y.data.toList/\e=.returned (.tuple #[.string Y,.bool true]))∨(fw S.data.toList=none/\e=.returned (.tuple #[.string ⟨#[]⟩,.bool false]))
theorem jF{S:ByteArray}(h:eZ S.data.toList=none):(S.toList == [108,116])=false/\(S.toList == [103,116])=false/\(S.toList == [97,109,112])=false/\(S.toList == [97,112,111,115])=false/\(S.toList == [113,117,111,116])=false:=by
 unfold eZ at h
 split at h
 ·cases h
 split at h
 ·cases h
 split at h
 ·cases h
 split at h
 ·cases h
 split at h
 ·cases h
 ·next a b c d e =>
  refine⟨?_,?_,?_,?_,?_⟩<;>rw[iC,ak]
  ·exact a
  ·exact b
  ·exact c
  ·exact d
  ·exact e
theorem uu(S:ByteArray)(r:Int)(hr:eZ S.data.toList=some r)(w:World):Calls Tryz.prog 184 #[.string S] w fun e w'=>gC S e/\Below w.heap.size w w':=by
 unfold eZ at hr
 split at hr
 ·next e =>
  obtain rfl:S=⟨#[108,116]⟩:=cp e;clear hr e;go_enter Tryz.func184,Tryz.ntmps184;go_wp2
  go_ret2
  exact⟨.inl ⟨⟨#[60]⟩,by decide,rfl⟩,ae _ _⟩
 split at hr
 ·next e =>
  obtain rfl:S=⟨#[103,116]⟩:=cp e;clear hr e;go_enter Tryz.func184,Tryz.ntmps184;go_wp2
  go_ret2
  exact⟨.inl ⟨⟨#[62]⟩,by decide,rfl⟩,ae _ _⟩
 split at hr
 ·next e =>
  obtain rfl:S=⟨#[97,109,112]⟩:=cp e;clear hr e;go_enter Tryz.func184,Tryz.ntmps184;go_wp2
  go_ret2
  exact⟨.inl ⟨⟨#[38]⟩,by decide,rfl⟩,ae _ _⟩
 split at hr
 ·next e =>
  obtain rfl:S=⟨#[97,112,111,115]⟩:=cp e;clear hr e;go_enter Tryz.func184,Tryz.ntmps184;go_wp2
  go_ret2
  exact⟨.inl ⟨⟨#[39]⟩,by decide,rfl⟩,ae _ _⟩
 split at hr
 ·next e =>
  obtain rfl:S=⟨#[113,117,111,116]⟩:=cp e;clear hr e;go_enter Tryz.func184,Tryz.ntmps184;go_wp2
  go_ret2
  exact⟨.inl ⟨⟨#[34]⟩,by decide,rfl⟩,ae _ _⟩
 ·cases hr
theorem lA(S:ByteArray){c:UInt8}{t:List UInt8}(h:S.data.toList=c::t)(w:World):(Instr.index 9 (.string S) (.int .i64 0)).run Tryz.prog w=.ok (.int .u8 (c.toNat:Int)) w:=by
 have hl:0<S.data.toList.length:=by rw[h];simp
 have:=cz S hl w;have e:S.data.toList[0]=c:=by simp[h]
 rw[e]at this;simpa using this
theorem nR(S:ByteArray){c d:UInt8}{t:List UInt8}(h:S.data.toList=c::d::t)(w:World):(Instr.index 9 (.string S) (.int .i64 1)).run Tryz.prog w=.ok (.int .u8 (d.toNat:Int)) w:=by
 have hl:1<S.data.toList.length:=by rw[h];simp
 have:=cz S hl w;have e:S.data.toList[1]=d:=by simp[h]
 rw[e]at this;simpa using this
theorem sq(S:ByteArray)(h1:eZ S.data.toList=none)(h2:S.size<2)(w:World):Calls Tryz.prog 184 #[.string S] w fun e w'=>gC S e/\Below w.heap.size w w':=by
 have HR:Hid (fw S.data.toList=none):=by
  unfold Hid;by_cases h35:S.data.toList.head? = some 35
  ·have e:S.data.toList=[35]:=by
    rw[aF]at h2;cases hs:S.data.toList with
    |nil=>rw[hs]at h35;cases h35
    |cons c t =>
     rw[hs]at h35 h2
     injection h35 with h
     have ht:t=[]:=aD (by rw[az]at h2;omega)
     rw[h,ht]
   rw[e];decide
  ·exact xt h1 h35
 obtain⟨b1,b2,b3,b4,b5⟩:=jF h1;have hz:(S.size:Int)<2:=by omega
 clear h1 h2;go_enter Tryz.func184,Tryz.ntmps184;go_wp2
 go_ret2
 exact⟨.inr ⟨HR.out,rfl⟩,ae _ _⟩
theorem sr(S:ByteArray)(c d:UInt8)(t:List UInt8)(hS:S.data.toList=c::d::t)(h1:eZ S.data.toList=none)(h2:c≠35)(hlen:S.size<=100000)(w:World):Calls Tryz.prog 184 #[.string S] w fun e w'=>gC S e/\Below w.heap.size w w':=by
 have HR:Hid (fw S.data.toList=none):=xt h1 (by rw[hS];intro h;injection h with h;exact h2 h)
 obtain⟨b1,b2,b3,b4,b5⟩:=jF h1;have hix:=lA S hS;have hn:2<=S.size:=by rw[aF,hS];simp
 have hz:¬(S.size:Int)<2:=by omega
 have hz1:=ap hz;have hc:¬(c.toNat:Int)=35:=fun e=>h2 (cK.1 (show _=35 by omega))
 clear h1 hS h2;generalize c.toNat=x at *;have hcb:((x:Int) != 35)=true:=by simpa using hc
 go_enter Tryz.func184,Tryz.ntmps184;go_wp2
 go_ret2
 exact⟨.inr ⟨HR.out,rfl⟩,ae _ _⟩
def n0(base:Nat)(w:World)(s R:List UInt8)(i v:Value)(wr:World):Prop :=
 ∃k n:Nat,k<=s.length/\i=.int .i64 (k:Int)/\v=.int .i32 (n:Int)/\n<=40000000/\n8 base 0 R=n8 base n (s.drop k)/\wr=w
theorem Dr{base:Nat}(hb:base<=16){c:UInt8}:(xV base c=none/\dz base c = -1)∨(∃d:Nat,xV base c=some d/\dz base c=(d:Int)/\d<base):=by
 rw[xU hb];unfold dz;by_cases h:dv c<base
 ·rw[av h,av h];exact .inr ⟨dv c,rfl,rfl,h⟩
 ·rw[am h,am h];exact .inl ⟨rfl,rfl⟩
theorem vY(r:Int)(W:World):(convert 22 9 (.slice (some ⟨W.heap.size,0,none⟩) (bD r).length (bD r).length)).run Tryz.prog (W.alloc (.cells (ec (bD r)).toArray 5))=.ok (.string ⟨(bD r).toArray⟩) (W.alloc (.cells (ec (bD r)).toArray 5)) :=
 cF (B:=W.heap.size+1) (bs:=bD r) (bD r).length (fun _=>⟨W.heap.size,0,rfl,by omega,fun j hj=>by rw[ci,World.cell?_alloc_mark];simp⟩)
theorem wV(S:ByteArray)(d:UInt8)(t:List UInt8)(hS:S.data.toList=35::d::t)(hX:d≠120)(hlen:S.size<=100000)(w:World):Calls Tryz.prog 184 #[.string S] w fun e w'=>gC S e/\Below w.heap.size w w':=by
 have hnn:eZ S.data.toList=none:=oo (by rw[hS];rfl)
 have hix0:∀w,(Instr.index 9 (.string S) (.int .i64 0)).run Tryz.prog w=.ok (.int .u8 35) w:=lA S hS;have hix1:=nR S hS;have hdz:¬(d.toNat:Int)=120:=fun e=>hX (cK.1 (show _=120 by omega))
 have hdb:((d.toNat:Int)==120)=false:=by simpa using hdz
 have he1:((1:Int)==(S.size:Int))=false:=by
  have:S.size=t.length+2:=by rw[aF,hS];simp
  rw[ak];omega
 obtain⟨Q,hQ⟩ : ∃Q,Q=d::t:=⟨_,rfl⟩;obtain⟨b1,b2,b3,b4,b5⟩:=jF hnn;obtain⟨N,hN⟩ : ∃N,S.size=N:=⟨_,rfl⟩;have hNl:S.data.toList.length=N:=by rw[<-aF];exact hN
 have HNL:=aa hNl;rw[hN]at hlen he1;have hn:2<=N:=by rw[<-hNl,hS];simp
 have hz:¬(N:Int)<2:=by omega
 have hz1:=ap hz;have hrf:fw S.data.toList=lg 10 Q:=by rw[hS,hQ];exact uK _ (by intro h;injection h with h;exact hX h)
 rw[wg 10 (by omega),am (by rw[hQ];simp)]at hrf
 have HRF:=aa hrf;have HST:Hid (n0 10 w S.data.toList Q (.int .i64 1) (.int .i32 0) w):=⟨1,0,by rw[hNl];omega,rfl,rfl,by omega,by rw[hS,hQ];rfl,rfl⟩
 clear hrf hS hnn hNl hQ hX;go_enter Tryz.func184,Tryz.ntmps184;go_wp2;clear hix0 hix1
 go_loopw [4,6] (n0 10 w S.data.toList Q) (fun i _ _=>N-(intOf i).toNat)
 case atStart=>exact HST.out
 case round =>
  obtain⟨k,n,hk,rfl,rfl,hnb,hsat,rfl⟩:=hrel;rw[HNL.out]at hk;have HSAT:=aa hsat;clear hsat;by_cases hlt:k<N
  ·have hkl:k<S.data.toList.length:=by rw[HNL.out];exact hlt
   have hix:=cz S hkl;have hdr:S.data.toList.drop k=S.data.toList[k]::S.data.toList.drop (k+1):=bv hkl;have HDR:=aa hdr;have HDG:=aa (lR 10 (by omega) S.data.toList[k])
   have hdz:=Dr (base:=10) (by omega) (c:=S.data.toList[k])
   have hkz:(k:Int)<(N:Int):=by omega
   clear hdr;generalize S.data.toList[k]=y at *;obtain⟨x,hx⟩ : ∃x,y.toNat=x:=⟨_,rfl⟩;rw[hx]at HDG hix;clear hx;have hB:((10:Nat):Int)=10:=rfl;rw[hB]at HDG;clear hB;rcases hdz with⟨h1,h2⟩|⟨d,h1,h2,h3⟩
   ·rw[h2]at HDG
    have HOUT:Hid (n8 10 0 Q=none):=by
     have h4:=HSAT.out;rw[HDR.out,gw,h1]at h4;exact h4
    clear h1 h2 HSAT HDR hkl
    go_wp2_with fail
    refine(HDG.out _).mono ?_;rintro e w'⟨rfl,hw⟩;rw[hw];clear hw;go_wp2
    go_ret2
    refine⟨.inr ⟨?_,rfl⟩,ae _ _⟩;rw[HRF.out,HOUT.out]
   ·rw[h2]at HDG
    have hd0:¬(d:Int)<0:=by omega
    have hd1:=ap hd0;by_cases hlow:n<2097152
    ·have HNX:Hid (n0 10 wr S.data.toList Q (.int .i64 ((k+1:Nat):Int)) (.int .i32 ((n*10+d:Nat):Int)) wr):=⟨k+1,n*10+d,by rw[HNL.out];exact hlt,rfl,rfl,by omega,by
      have h4:=HSAT.out;rw[HDR.out,gw,h1]at h4;dsimp only at h4;rw[av hlow]at h4;exact h4,rfl⟩
     have hlz:(n:Int)<2097152:=by omega
     have hval:((n*10+d:Nat):Int)=(n:Int)*10+(d:Int):=by omega
     have HV:=aa hval;clear h1 h2 HSAT HDR hkl hval
     go_wp2_with fail
     refine(HDG.out _).mono ?_;rintro e w'⟨rfl,hw⟩;rw[hw];clear hw;go_wp2
     go_roundw
     case rel=>rw[<-HV.out];exact(show Value.int .i64 ((k+1:Nat):Int)=_ by go_num) ▸ HNX.out
     case measure=>simp[intOf];omega
    ·have HNX:Hid (n0 10 wr S.data.toList Q (.int .i64 ((k+1:Nat):Int)) (.int .i32 (n:Int)) wr):=⟨k+1,n,by rw[HNL.out];exact hlt,rfl,rfl,hnb,by
      have h4:=HSAT.out;rw[HDR.out,gw,h1]at h4;dsimp only at h4;rw[am hlow]at h4;exact h4,rfl⟩
     have hlz:¬(n:Int)<2097152:=by omega
     have hlz1:=ap hlz;clear h1 h2 HSAT HDR hkl
     go_wp2_with fail
     refine(HDG.out _).mono ?_;rintro e w'⟨rfl,hw⟩;rw[hw];clear hw;go_wp2
     go_roundw
     case rel=>exact(show Value.int .i64 ((k+1:Nat):Int)=_ by go_num) ▸ HNX.out
     case measure=>simp[intOf];omega
  ·have hkz:¬(k:Int)<(N:Int):=by omega
   have hkz1:=ap hkz
   have HOUT:Hid (n8 10 0 Q=some n):=by
    have h4:=HSAT.out;rw[cj (by rw[HNL.out];omega)]at h4
    exact h4
   have HX:=aa (lu (n:Int));clear HSAT;cases hx:ep (n:Int)with
   |false =>
    rw[hx]at HX;have HXX:=aa hx;clear hx
    go_wp2_with fail
    refine(HX.out _).mono ?_;rintro e w'⟨rfl,hw⟩;rw[<-hw];clear hw;go_wp2
    go_ret2
    refine⟨.inr ⟨?_,rfl⟩,ae _ _⟩;rw[HRF.out,HOUT.out];dsimp only;rw[HXX.out,am (by simp)]
   |true =>
    rw[hx]at HX;have HXX:=aa hx;have HON:=aa (gy (n:Int) (oW hx) wr);have hcv:=vY (n:Int) wr;have HBW:Hid (Below wr.heap.size wr (wr.alloc (.cells (ec (bD (n:Int))).toArray 5))):=(ae _ _).alloc (af _) _;obtain⟨Y,hY⟩ : ∃Y:ByteArray,⟨(bD (n:Int)).toArray⟩=Y:=⟨_,rfl⟩;have HYY:Hid (bD (n:Int)=Y.data.toList):=by rw[Hid,<-hY]
    rw[hY]at hcv;generalize (bD (n:Int)).length=M at *;obtain⟨W,hW⟩ : ∃W,wr.alloc (.cells (ec (bD (n:Int))).toArray 5)=W:=⟨_,rfl⟩;rw[hW]at hcv HBW HON;clear hx hY hW
    go_wp2_with fail
    refine(HX.out _).mono ?_;rintro e w'⟨rfl,hw⟩;rw[<-hw];clear hw
    go_wp2_with fail
    refine HON.out.mono ?_;rintro e w'⟨rfl,hw⟩;rw[<-hw];clear hw;go_wp2
    go_ret2
    refine⟨.inl ⟨Y,?_,rfl⟩,HBW.out⟩;rw[HRF.out,HOUT.out];dsimp only;rw[HXX.out,av rfl,HYY.out]
theorem wW(S:ByteArray)(t:List UInt8)(hS:S.data.toList=35::120::t)(hT:t≠[])(hlen:S.size<=100000)(w:World):Calls Tryz.prog 184 #[.string S] w fun e w'=>gC S e/\Below w.heap.size w w':=by
 have hnn:eZ S.data.toList=none:=oo (by rw[hS];rfl)
 have hix0:∀w,(Instr.index 9 (.string S) (.int .i64 0)).run Tryz.prog w=.ok (.int .u8 35) w:=lA S hS;have hix1:∀w,(Instr.index 9 (.string S) (.int .i64 1)).run Tryz.prog w=.ok (.int .u8 120) w:=nR S hS
 have he1:((2:Int)==(S.size:Int))=false:=by
  have h0:0<t.length:=bO.2 hT;have:S.size=t.length+2:=by rw[aF,hS];simp
  rw[ak];omega
 obtain⟨Q,hQ⟩ : ∃Q,Q=t:=⟨_,rfl⟩;obtain⟨b1,b2,b3,b4,b5⟩:=jF hnn;obtain⟨N,hN⟩ : ∃N,S.size=N:=⟨_,rfl⟩;have hNl:S.data.toList.length=N:=by rw[<-aF];exact hN
 have HNL:=aa hNl;rw[hN]at hlen he1;have hn:2<=N:=by rw[<-hNl,hS];simp
 have hz:¬(N:Int)<2:=by omega
 have hz1:=ap hz;have hrf:fw S.data.toList=lg 16 Q:=by rw[hS,hQ];exact uL _
 rw[wg 16 (by omega),am (by rw[hQ];exact hT)]at hrf
 have HRF:=aa hrf;have HST:Hid (n0 16 w S.data.toList Q (.int .i64 2) (.int .i32 0) w):=⟨2,0,by rw[hNl];omega,rfl,rfl,by omega,by rw[hS,hQ];rfl,rfl⟩
 clear hrf hS hnn hNl hQ hT;go_enter Tryz.func184,Tryz.ntmps184;go_wp2;clear hix0 hix1
 go_loopw [4,6] (n0 16 w S.data.toList Q) (fun i _ _=>N-(intOf i).toNat)
 case atStart=>exact HST.out
 case round =>
  obtain⟨k,n,hk,rfl,rfl,hnb,hsat,rfl⟩:=hrel;rw[HNL.out]at hk;have HSAT:=aa hsat;clear hsat;by_cases hlt:k<N
  ·have hkl:k<S.data.toList.length:=by rw[HNL.out];exact hlt
   have hix:=cz S hkl;have hdr:S.data.toList.drop k=S.data.toList[k]::S.data.toList.drop (k+1):=bv hkl;have HDR:=aa hdr;have HDG:=aa (lR 16 (by omega) S.data.toList[k])
   have hdz:=Dr (base:=16) (by omega) (c:=S.data.toList[k])
   have hkz:(k:Int)<(N:Int):=by omega
   clear hdr;generalize S.data.toList[k]=y at *;obtain⟨x,hx⟩ : ∃x,y.toNat=x:=⟨_,rfl⟩;rw[hx]at HDG hix;clear hx;have hB:((16:Nat):Int)=16:=rfl;rw[hB]at HDG;clear hB;rcases hdz with⟨h1,h2⟩|⟨d,h1,h2,h3⟩
   ·rw[h2]at HDG
    have HOUT:Hid (n8 16 0 Q=none):=by
     have h4:=HSAT.out;rw[HDR.out,gw,h1]at h4;exact h4
    clear h1 h2 HSAT HDR hkl
    go_wp2_with fail
    refine(HDG.out _).mono ?_;rintro e w'⟨rfl,hw⟩;rw[hw];clear hw;go_wp2
    go_ret2
    refine⟨.inr ⟨?_,rfl⟩,ae _ _⟩;rw[HRF.out,HOUT.out]
   ·rw[h2]at HDG
    have hd0:¬(d:Int)<0:=by omega
    have hd1:=ap hd0;by_cases hlow:n<2097152
    ·have HNX:Hid (n0 16 wr S.data.toList Q (.int .i64 ((k+1:Nat):Int)) (.int .i32 ((n*16+d:Nat):Int)) wr):=⟨k+1,n*16+d,by rw[HNL.out];exact hlt,rfl,rfl,by omega,by
      have h4:=HSAT.out;rw[HDR.out,gw,h1]at h4;dsimp only at h4;rw[av hlow]at h4;exact h4,rfl⟩
     have hlz:(n:Int)<2097152:=by omega
     have hval:((n*16+d:Nat):Int)=(n:Int)*16+(d:Int):=by omega
     have HV:=aa hval;clear h1 h2 HSAT HDR hkl hval
     go_wp2_with fail
     refine(HDG.out _).mono ?_;rintro e w'⟨rfl,hw⟩;rw[hw];clear hw;go_wp2
     go_roundw
     case rel=>rw[<-HV.out];exact(show Value.int .i64 ((k+1:Nat):Int)=_ by go_num) ▸ HNX.out
     case measure=>simp[intOf];omega
    ·have HNX:Hid (n0 16 wr S.data.toList Q (.int .i64 ((k+1:Nat):Int)) (.int .i32 (n:Int)) wr):=⟨k+1,n,by rw[HNL.out];exact hlt,rfl,rfl,hnb,by
      have h4:=HSAT.out;rw[HDR.out,gw,h1]at h4;dsimp only at h4;rw[am hlow]at h4;exact h4,rfl⟩
     have hlz:¬(n:Int)<2097152:=by omega
     have hlz1:=ap hlz;clear h1 h2 HSAT HDR hkl
     go_wp2_with fail
     refine(HDG.out _).mono ?_;rintro e w'⟨rfl,hw⟩;rw[hw];clear hw;go_wp2
     go_roundw
     case rel=>exact(show Value.int .i64 ((k+1:Nat):Int)=_ by go_num) ▸ HNX.out
     case measure=>simp[intOf];omega
  ·have hkz:¬(k:Int)<(N:Int):=by omega
   have hkz1:=ap hkz
   have HOUT:Hid (n8 16 0 Q=some n):=by
    have h4:=HSAT.out;rw[cj (by rw[HNL.out];omega)]at h4
    exact h4
   have HX:=aa (lu (n:Int));clear HSAT;cases hx:ep (n:Int)with
   |false =>
    rw[hx]at HX;have HXX:=aa hx;clear hx
    go_wp2_with fail
    refine(HX.out _).mono ?_;rintro e w'⟨rfl,hw⟩;rw[<-hw];clear hw;go_wp2
    go_ret2
    refine⟨.inr ⟨?_,rfl⟩,ae _ _⟩;rw[HRF.out,HOUT.out];dsimp only;rw[HXX.out,am (by simp)]
   |true =>
    rw[hx]at HX;have HXX:=aa hx;have HON:=aa (gy (n:Int) (oW hx) wr);have hcv:=vY (n:Int) wr;have HBW:Hid (Below wr.heap.size wr (wr.alloc (.cells (ec (bD (n:Int))).toArray 5))):=(ae _ _).alloc (af _) _;obtain⟨Y,hY⟩ : ∃Y:ByteArray,⟨(bD (n:Int)).toArray⟩=Y:=⟨_,rfl⟩;have HYY:Hid (bD (n:Int)=Y.data.toList):=by rw[Hid,<-hY]
    rw[hY]at hcv;generalize (bD (n:Int)).length=M at *;obtain⟨W,hW⟩ : ∃W,wr.alloc (.cells (ec (bD (n:Int))).toArray 5)=W:=⟨_,rfl⟩;rw[hW]at hcv HBW HON;clear hx hY hW
    go_wp2_with fail
    refine(HX.out _).mono ?_;rintro e w'⟨rfl,hw⟩;rw[<-hw];clear hw
    go_wp2_with fail
    refine HON.out.mono ?_;rintro e w'⟨rfl,hw⟩;rw[<-hw];clear hw;go_wp2
    go_ret2
    refine⟨.inl ⟨Y,?_,rfl⟩,HBW.out⟩;rw[HRF.out,HOUT.out];dsimp only;rw[HXX.out,av rfl,HYY.out]
theorem Cc(w:World):Calls Tryz.prog 184 #[.string ⟨#[35,120]⟩] w fun e w'=>gC ⟨#[35,120]⟩ e/\Below w.heap.size w w':=by
 have hix0:∀w,(Instr.index 9 (.string ⟨#[35,120]⟩) (.int .i64 0)).run Tryz.prog w=.ok (.int .u8 35) w:=fun w=>by kernel_rfl
 have hix1:∀w,(Instr.index 9 (.string ⟨#[35,120]⟩) (.int .i64 1)).run Tryz.prog w=.ok (.int .u8 120) w:=fun w=>by kernel_rfl
 go_enter Tryz.func184,Tryz.ntmps184;go_wp2
 go_ret2
 exact⟨.inr ⟨by decide,rfl⟩,ae _ _⟩
theorem Cv(S:ByteArray)(hlen:S.size<=100000)(w:World):Calls Tryz.prog 184 #[.string S] w fun e w'=>gC S e/\Below w.heap.size w w':=by
 cases hn:eZ S.data.toList with
 |some r=>exact uu S r hn w
 |none =>
  by_cases h2:S.size<2
  ·exact sq S hn h2 w
  ·obtain⟨c,d,t,hS⟩ : ∃c d t,S.data.toList=c::d::t:=by
    rw[aF]at h2;cases hs:S.data.toList with
    |nil=>rw[hs]at h2;exact absurd (show(0:Nat)<2 by omega) h2
    |cons c t =>
     cases t with
     |nil=>rw[hs]at h2;exact absurd (show(1:Nat)<2 by omega) h2
     |cons d t=>exact⟨c,d,t,rfl⟩
   by_cases h35:c=35
   ·subst h35
    by_cases hx:d=120
    ·subst hx
     by_cases ht:t=[]
     ·subst ht
      obtain rfl:S=⟨#[35,120]⟩:=cp hS;exact Cc w
     ·exact wW S t hS ht hlen w
    ·exact wV S d t hS hx hlen w
   ·exact sr S c d t hS hn h35 hlen w
def Ga(w:World)(s:List UInt8)(b:Bool)(v i:Value)(wr:World):Prop :=
 ∃(k:Nat) (O:List UInt8),k<=s.length/\i=.int .i64 (k:Int)/\iW wr w.heap.size v O/\Below w.heap.size w wr/\O.length<=4*k/\dI b s=(dI b (s.drop k)).map (O++·)
def Gc(w:World)(s:List UInt8)(k:Nat)(i:Value)(wr:World):Prop :=
 ∃e:Nat,k+1<=e/\e<=s.length/\i=.int .i64 (e:Int)/\59∉(s.take e).drop (k+1)/\wr=w
theorem mB{s:List UInt8}{k:Nat}(h:k<s.length):s.drop k=s[k]::s.drop (k+1):=bv h
theorem Fs{s:List UInt8}{k e:Nat}(h1:k+1<=e)(h:e<s.length)(hn:59∉(s.take e).drop (k+1))(hc:s[e]≠59):59∉(s.take (e+1)).drop (k+1):=by
 rw[aN h,List.drop_append_of_le_length (by rw[aY];omega)]
 simp only[bS,aW,not_or];exact⟨hn,Ne.symm hc⟩
theorem Dn{s:List UInt8}{k e:Nat}(h0:k<s.length)(hk:s[k]=38)(h1:k+1<=e)(h:e<s.length)(hc:s[e]=59):s.drop k=38::((s.take e).drop (k+1)++59::s.drop (e+1)):=by
 rw[mB h0,hk]
 congr 1
 have h2:s=s.take e++s.drop e:=(cG e s).symm
 conv=>lhs;rw[h2]
 rw[List.drop_append_of_le_length (by rw[aY];omega),mB h,hc]
theorem yZ{b:Bool}{s O y T:List UInt8}(h:dI b s=(dI b T).map (O++·)){R:List UInt8}(h2:dI b T=(dI b R).map (y++·)):dI b s=(dI b R).map ((O++y)++·):=by
 rw[h,h2,j9]
theorem Fn{b:Bool}{s:List UInt8}{k:Nat}(h:k<s.length)(h1:s[k]≠60)(h2:s[k]≠38):dI b (s.drop k)=(dI b (s.drop (k+1))).map ([gz b s[k]]++·):=by
 rw[mB h,rL h1 h2];rfl
theorem qa(S:ByteArray)(b:Bool)(hlen:S.size<=100000)(w:World):Calls Tryz.prog 151 #[.string S,.bool b] w fun e w'=>FQ (if iZ S.data.toList=true then dI b S.data.toList else none) e/\Below w.heap.size w w':=by
 obtain⟨c,W,hcv,hcell,hsz,hbW,hc1,hc2,_⟩:=jm S (by omega) w
 have HTX:Hid (Calls Tryz.prog 31 #[.slice (some ⟨w.heap.size,0,none⟩) S.size c] W fun e w'=>e=.returned (.bool (iZ S.data.toList))/\Below W.heap.size W w'):=by
  have h:=jX (some ⟨w.heap.size,0,none⟩) c S.data.toList W (fI hsz hcell) (by rw[<-aF];exact hc1) hc2 (by rw[<-aF];omega)
  rw[<-aF]at h;exact h.mono fun e w' ⟨h1,h2⟩=>⟨i4 h1,h2⟩
 clear hcell hsz hc1 hc2;cases ht:iZ S.data.toList with
 |false =>
  rw[ht]at HTX;rw[am (by simp)]
  clear ht;go_enter Tryz.func151,Tryz.ntmps151
  go_wp2_with fail
  refine HTX.out.mono ?_;rintro e w1⟨rfl,hb1⟩;go_wp2
  go_ret2
  exact⟨.inr ⟨rfl,rfl⟩,hbW.trans (hb1.mono hbW.size)⟩
 |true =>
  rw[ht]at HTX;rw[av rfl];obtain⟨Z,hZ⟩ : ∃Z,dI b S.data.toList=Z:=⟨_,rfl⟩;rw[hZ];have HZ:=aa hZ;obtain⟨N,hN⟩ : ∃N,S.size=N:=⟨_,rfl⟩;have hNl:S.data.toList.length=N:=by rw[<-aF];exact hN
  have HNL:=aa hNl;rw[hN]at hlen hcv HTX;clear ht hZ hNl;go_enter Tryz.func151,Tryz.ntmps151
  go_wp2_with fail
  refine HTX.out.mono ?_;rintro e w1⟨rfl,hb1⟩;have hbx:=hbW.trans (hb1.mono hbW.size);clear hcv HTX hbW hb1;go_wp2
  go_loopw [6,7] (Ga w S.data.toList b) (fun _ i _=>N-(intOf i).toNat)
  case atStart=>exact⟨0,[],aM _,rfl,iW.nil _ _,hbx,aM _,by rw[List.drop_zero];cases dI b S.data.toList<;>simp⟩
  case round =>
   obtain⟨k,O,hk,rfl,hO,hb,hOl,hex⟩:=hrel;rw[HNL.out]at hk;have HO:=aa hO;have HB:=aa hb;have HEX:=aa hex;have hbs:=hb.size;clear hO hb hex;by_cases hlt:k<N
   ·have hkl:k<S.data.toList.length:=by rw[HNL.out];exact hlt
    have hix:=cz S hkl;have hkz:(k:Int)<(N:Int):=by omega
    have hOn:O.length+1<=1000000000000:=by omega
    by_cases h60:S.data.toList[k]=60
    ·rw[h60]at hix
     have hix':∀w,(Instr.index 9 (.string S) (.int .i64 (k:Int))).run Tryz.prog w=.ok (.int .u8 60) w:=hix
     have hN0:none=Z:=by
      rw[<-HZ.out,HEX.out,mB hkl,h60,GY];rfl
     subst hN0;clear hix h60 HZ HEX hkl;go_wp2
     go_ret2
     exact⟨.inr ⟨rfl,rfl⟩,HB.out⟩
    by_cases h38:S.data.toList[k]=38
    ·rw[h38]at hix
     have hix':∀w,(Instr.index 9 (.string S) (.int .i64 (k:Int))).run Tryz.prog w=.ok (.int .u8 38) w:=hix;have H38:=aa h38;clear hix h60 h38;go_wp2;clear hix'
     go_loopw [9] (Gc wr S.data.toList k) (fun i _=>N-(intOf i).toNat)
     case atStart=>exact⟨k+1,af _,by rw[HNL.out];exact hlt,by go_num,by
      rw[cj (by rw[aY];omega)];simp,rfl⟩
     case round =>
      obtain⟨e,he1,he2,rfl,hno,rfl⟩:=hrel;rw[HNL.out]at he2;have HNO:=aa hno;clear hno;by_cases hel:e<N
      ·have hell:e<S.data.toList.length:=by rw[HNL.out];exact hel
       have hie:=cz S hell;have hez:(e:Int)<(N:Int):=by omega
       by_cases h59:S.data.toList[e]=59
       ·rw[h59]at hie
        have hie':∀w,(Instr.index 9 (.string S) (.int .i64 (e:Int))).run Tryz.prog w=.ok (.int .u8 59) w:=hie;have hpt:=Dn hkl H38.out he1 hell h59;obtain⟨X,hX⟩ : ∃X,S.extract (k+1) e=X:=⟨_,rfl⟩;have hXl:X.data.toList=(S.data.toList.take e).drop (k+1):=by rw[<-hX,cS]
        have hXs:X.size<=100000:=by rw[aF,hXl,bq,aY];omega
        rw[<-hXl]at hpt;have hno2:(59:UInt8)∉X.data.toList:=by rw[hXl];exact HNO.out
        have HPT:Hid (dI b (S.data.toList.drop k)=match fw X.data.toList with|none=>none|some y=>(dI b (S.data.toList.drop (e+1))).map (y++·)):=by
         rw[Hid,hpt];exact yW hno2 _
        have HSD:=aa (Cv X hXs wr);have hen:((e:Int)==(N:Int))=false:=by rw[ak];omega
        have hs1:(k:Int)+1<=(e:Int):=by omega
        have hs2:(e:Int)<=(N:Int):=by omega
        have hs3:(0:Int)<=(k:Int)+1:=by omega
        clear hie h59 hpt hXl hno2 HNO hell
        go_wp2_with fail
        refine HSD.out.mono ?_;rintro e1 x1⟨⟨Y,hy,rfl⟩|⟨hy,rfl⟩,hx1⟩
        ·have hyl:=sE hy
         rw[<-aF]at hyl;have hbq:=HB.out.trans (hx1.mono hbs);have hbqs:=hbq.size;have HO1:=aa (HO.out.later (hx1.mono (af _)));have hpt2:=HPT.out;rw[hy]at hpt2;have HMO:Hid (dI b S.data.toList=(dI b (S.data.toList.drop (e+1))).map ((O++Y.data.toList)++·)):=yZ HEX.out hpt2
         have hn2:O.length+Y.size<=1000000000000:=by omega
         clear hpt2 hy HPT HSD hx1 HO
         go_wp2_with (at_builtin;refine mL rfl _ _ rfl w.heap.size O u6 rfl HO1.out hbqs Y rfl hn2 ?_;intro v2 w2' hO5 hb5)
         have HO5:=aa hO5;have hbv:=hbq.trans hb5;have HNX:Hid (Ga w S.data.toList b v2 (.int .i64 ((e+1:Nat):Int)) w2'):=⟨e+1,O++Y.data.toList,by rw[HNL.out];omega,rfl,HO5.out,hbv,by rw[aj,<-aF];omega,HMO.out⟩
         clear hO5 hb5 hbq;go_wp2
         go_roundw
         case rel=>exact(show Value.int .i64 ((e+1:Nat):Int)=_ by go_num) ▸ HNX.out
         case measure=>simp[intOf];omega
        ·have hN0:none=Z:=by
          have hpt2:=HPT.out;rw[hy]at hpt2;rw[<-HZ.out,HEX.out,hpt2];rfl
         subst hN0;have hbq:=HB.out.trans (hx1.mono hbs);clear hy HPT HSD HZ HEX;go_wp2
         go_ret2
         exact⟨.inr ⟨rfl,rfl⟩,hbq⟩
       ·have HNX:Hid (Gc wr S.data.toList k (.int .i64 ((e+1:Nat):Int)) wr):=⟨e+1,by omega,by rw[HNL.out];exact hel,rfl,Fs he1 hell HNO.out h59,rfl⟩
        have hdz:¬(S.data.toList[e].toNat:Int)=59:=fun e1=>h59 (cK.1 (show _=59 by omega))
        clear h59 HNO;generalize S.data.toList[e].toNat=x at *;have hdb:((x:Int) != 59)=true:=by simpa using hdz
        clear hell;go_wp2
        go_roundw
        case rel=>exact(show Value.int .i64 ((e+1:Nat):Int)=_ by go_num) ▸ HNX.out
        case measure=>simp[intOf];omega
      ·have hez:¬(e:Int)<(N:Int):=by omega
       have hez1:=ap hez;have hen:((e:Int)==(N:Int))=true:=by rw[bc];omega
       have hN0:none=Z:=by
        have h1:=HNO.out;rw[bC (by rw[HNL.out];omega)]at h1
        rw[<-HZ.out,HEX.out,mB hkl,H38.out,vG h1];rfl
       subst hN0;clear HNO HZ HEX hkl H38;go_wp2
       go_ret2
       exact⟨.inr ⟨rfl,rfl⟩,HB.out⟩
    ·have hby:=Fn (b:=b) hkl h60 h38
     have z60:¬(S.data.toList[k].toNat:Int)=60:=fun e1=>h60 (cK.1 (show _=60 by omega))
     have z38:¬(S.data.toList[k].toNat:Int)=38:=fun e1=>h38 (cK.1 (show _=38 by omega))
     have HMO:Hid (dI b S.data.toList=(dI b (S.data.toList.drop (k+1))).map ((O++[gz b S.data.toList[k]])++·)):=yZ HEX.out hby
     clear hby h60 h38 HEX;generalize S.data.toList[k]=y at *;by_cases hq:b=true/\(y=9∨y=10∨y=13)
     ·have hpl:gz b y=32:=by unfold gz;rw[av hq]
      rw[hpl]at HMO;obtain⟨rfl,hor⟩:=hq;clear hpl;rcases hor with rfl|rfl|rfl
      ·have hix':∀w,(Instr.index 9 (.string S) (.int .i64 (k:Int))).run Tryz.prog w=.ok (.int .u8 9) w:=hix
       clear hix z60 z38 hkl
       go_wp2_with (at_builtin;refine ez rfl _ _ rfl w.heap.size O u6 rfl HO.out hbs 32 _ rfl rfl hOn ?_;intro v3 w3 hO3 hb3)
       have HO3:=aa hO3;have HB3:=aa hb3;clear hO3 hb3;go_wp2
       go_roundw
       case rel=>exact⟨k+1,O++[32],by rw[HNL.out];exact hlt,by go_num,HO3.out,HB.out.trans HB3.out,by rw[aj,aB];omega,HMO.out⟩
       case measure=>simp[intOf];omega
      ·have hix':∀w,(Instr.index 9 (.string S) (.int .i64 (k:Int))).run Tryz.prog w=.ok (.int .u8 10) w:=hix
       clear hix z60 z38 hkl
       go_wp2_with (at_builtin;refine ez rfl _ _ rfl w.heap.size O u6 rfl HO.out hbs 32 _ rfl rfl hOn ?_;intro v3 w3 hO3 hb3)
       have HO3:=aa hO3;have HB3:=aa hb3;clear hO3 hb3;go_wp2
       go_roundw
       case rel=>exact⟨k+1,O++[32],by rw[HNL.out];exact hlt,by go_num,HO3.out,HB.out.trans HB3.out,by rw[aj,aB];omega,HMO.out⟩
       case measure=>simp[intOf];omega
      ·have hix':∀w,(Instr.index 9 (.string S) (.int .i64 (k:Int))).run Tryz.prog w=.ok (.int .u8 13) w:=hix
       clear hix z60 z38 hkl
       go_wp2_with (at_builtin;refine ez rfl _ _ rfl w.heap.size O u6 rfl HO.out hbs 32 _ rfl rfl hOn ?_;intro v3 w3 hO3 hb3)
       have HO3:=aa hO3;have HB3:=aa hb3;clear hO3 hb3;go_wp2
       go_roundw
       case rel=>exact⟨k+1,O++[32],by rw[HNL.out];exact hlt,by go_num,HO3.out,HB.out.trans HB3.out,by rw[aj,aB];omega,HMO.out⟩
       case measure=>simp[intOf];omega
     ·have hpl:gz b y=y:=by unfold gz;rw[am hq]
      rw[hpl]at HMO;obtain⟨x,hx⟩ : ∃x,y.toNat=x:=⟨_,rfl⟩
      have hqx:b=true->¬(x:Int)=9/\¬(x:Int)=10/\¬(x:Int)=13:=fun hb=>by
       rw[<-hx];refine⟨fun e1=>hq ⟨hb,.inl (cK.1 (show _=9 by omega))⟩,fun e1=>hq ⟨hb,.inr (.inl (cK.1 (show _=10 by omega)))⟩,fun e1=>hq ⟨hb,.inr (.inr (cK.1 (show _=13 by omega)))⟩⟩
      rw[hx]at hix z60 z38;have HX:=aa hx;have b60:((x:Int)==60)=false:=by simpa using z60
      have b38:((x:Int)==38)=false:=by simpa using z38
      clear hpl hq hx hkl;cases b with
      |false =>
       clear hqx
       go_wp2_with (at_builtin;refine ez rfl _ _ rfl w.heap.size O u6 rfl HO.out hbs y _ (by rw[HX.out]) rfl hOn ?_;intro v3 w3 hO3 hb3)
       have HO3:=aa hO3;have HB3:=aa hb3;clear hO3 hb3;go_wp2
       go_roundw
       case rel=>exact⟨k+1,O++[y],by rw[HNL.out];exact hlt,by go_num,HO3.out,HB.out.trans HB3.out,by rw[aj,aB];omega,HMO.out⟩
       case measure=>simp[intOf];omega
      |true =>
       obtain⟨z9,z10,z13⟩:=hqx rfl;have b9:((x:Int)==9)=false:=by simpa using z9
       have b10:((x:Int)==10)=false:=by simpa using z10
       have b13:((x:Int)==13)=false:=by simpa using z13
       clear hqx
       go_wp2_with (at_builtin;refine ez rfl _ _ rfl w.heap.size O u6 rfl HO.out hbs y _ (by rw[HX.out]) rfl hOn ?_;intro v3 w3 hO3 hb3)
       have HO3:=aa hO3;have HB3:=aa hb3;clear hO3 hb3;go_wp2
       go_roundw
       case rel=>exact⟨k+1,O++[y],by rw[HNL.out];exact hlt,by go_num,HO3.out,HB.out.trans HB3.out,by rw[aj,aB];omega,HMO.out⟩
       case measure=>simp[intOf];omega
   ·have hkz:¬(k:Int)<(N:Int):=by omega
    have hkz1:=ap hkz;have hfin:=HEX.out;rw[cj (by rw[HNL.out];omega),yX]at hfin
    obtain⟨A',cap',hv,hcl,hcm,hli⟩:=HO.out.lies;have hcv:=cF cap' hli;obtain⟨Y,hY⟩ : ∃Y:ByteArray,⟨O.toArray⟩=Y:=⟨_,rfl⟩;have hZY:some Y.data.toList=Z:=by rw[<-HZ.out,hfin,<-hY];simp
    have HZY:=aa hZY;rw[hY]at hcv;generalize O.length=n at *;subst hv;clear hli hfin hZY hY HO HEX HZ;go_wp2
    go_ret2
    exact⟨.inl ⟨Y,HZY.out.symm,rfl⟩,HB.out⟩
end Go.Proofs.YteinegfbpfhflaaGreatDoor
