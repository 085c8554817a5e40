/-
  The character of a number, and of a reference: chars.number, named, meant. Conditions: the text is not too long.
  chars.meant: the bytes of what a reference is. Conditions: the text is not too long.
  chars.replaced: a text with what its references are in their places. Conditions: the tables lie as they are laid; the text is not too long.
-/
import Derived.Test.YteinegfbpfhflaaGreatDoorM24
import Derived.Test.YteinegfbpfhflaaGreatDoorM10
import Derived.Test.YteinegfbpfhflaaGreatDoorM09
import Derived.Test.YteinegfbpfhflaaGreatDoorM07
namespace Go.Proofs.YteinegfbpfhflaaGreatDoor
open Go.RowKit
set_option linter.unusedVariables false
set_option maxHeartbeats 8000000
def DY(base:Nat)(S:ByteArray)(e:Ending):Prop :=
 (mg base 0 S.data.toList=none/\e=.returned (.tuple #[.int .i32 0,.bool false]))∨(∃n:Nat,mg base 0 S.data.toList=some n/\e=.returned (.tuple #[.int .i32 (n:Int),.bool (ep (n:Int))]))
def FP(base:Nat)(w:World)(s:List UInt8)(v i:Value)(wr:World):Prop :=
 ∃k n:Nat,k<=s.length/\i=.int .i64 (k:Int)/\v=.int .i32 (n:Int)/\n<=1114112/\mg base 0 s=mg base n (s.drop k)/\wr=w
theorem sZ(S:ByteArray)(hlen:S.size<=100000)(w:World):Calls Tryz.prog 210 #[.string S,.int .i32 10] w fun e w'=>DY 10 S e/\Below w.heap.size w w':=by
 obtain⟨c,W,hcv,hcell,hsz,hbW,hc1,hc2,_⟩:=jm S (by omega) w
 obtain⟨N,hN⟩ : ∃N,S.size=N:=⟨_,rfl⟩;rw[hN]at hcv hc1 hlen;have hNl:S.data.toList.length=N:=by rw[<-aF];exact hN
 have HNL:=aa hNl;have HB:=aa hbW;have HC:=aa hcell;clear hbW hcell hN hNl hc2;go_enter Tryz.func210,Tryz.ntmps210;go_wp2;clear hcv
 go_loopw [6,13] (FP 10 W S.data.toList) (fun _ i _=>N-(intOf i).toNat)
 case atStart=>exact⟨0,0,aM _,rfl,rfl,by omega,by rw[List.drop_zero],rfl⟩
 case round =>
  obtain⟨k,n,hk,rfl,rfl,hn,hlow,rfl⟩:=hrel;rw[HNL.out]at hk;have HLOW:=aa hlow;clear hlow;by_cases hlt:k<N
  ·have hkl:k<S.data.toList.length:=by rw[HNL.out];exact hlt
   have hck:=HC.out k hkl;rw[ci]at hck;have hdr:S.data.toList.drop k=S.data.toList[k]::S.data.toList.drop (k+1):=bv hkl;have HDR:=aa hdr;have HDG:=aa (rR S.data.toList[k]);have hdd:=xU (base:=10) (by omega) S.data.toList[k]
   have HDD:=aa hdd;have hdle:=F1 S.data.toList[k];clear hdr hdd;generalize S.data.toList[k]=y at *;have hkz:(k:Int)<(N:Int):=by omega
   obtain⟨d,hd⟩ : ∃d,dv y=d:=⟨_,rfl⟩;rw[hd]at HDG HDD hdle;clear hd;obtain⟨x,hx⟩ : ∃x,y.toNat=x:=⟨_,rfl⟩;rw[hx]at HDG hck;clear hx;by_cases hdb:d<10
   ·have hz:¬(10:Int)<=(d:Int):=by omega
    have hz1:=ap hz
    have HNX:Hid (FP 10 wr S.data.toList (.int .i32 ((min (n*10+d) 1114112:Nat):Int)) (.int .i64 ((k+1:Nat):Int)) wr) :=
     ⟨k+1,min (n*10+d) 1114112,by rw[HNL.out];exact hlt,rfl,rfl,Nat.min_le_right _ _,by
      have h1:=HLOW.out;have h2:=HDD.out;rw[av hdb]at h2;rw[HDR.out,jc,h2]at h1;exact h1,rfl⟩
    have HM:Hid ((min ((n:Int)*10+(d:Int)) 1114112)=((min (n*10+d) 1114112:Nat):Int)):=by
     unfold Hid;omega
    generalize min (n*10+d) 1114112=m at *;clear HC HLOW HDR HDD
    go_wp2_with fail
    refine(HDG.out _).mono ?_;rintro e w'⟨rfl,hw⟩;rw[hw];clear hw;go_wp2
    go_roundw
    case rel=>rw[HM.out];exact(show Value.int .i64 ((k+1:Nat):Int)=_ by go_num) ▸ HNX.out
    case measure=>simp[intOf];omega
   ·have hz:(10:Int)<=(d:Int):=by omega
    have HOUT:Hid (mg 10 0 S.data.toList=none):=by
     have h1:=HLOW.out;have h2:=HDD.out;rw[am hdb]at h2;rw[HDR.out,jc,h2]at h1;exact h1
    clear HC HLOW HDR HDD
    go_wp2_with fail
    refine(HDG.out _).mono ?_;rintro e w'⟨rfl,hw⟩;rw[hw];clear hw;go_wp2
    go_ret2
    exact⟨.inl ⟨HOUT.out,rfl⟩,HB.out⟩
  ·have hkz:¬(k:Int)<(N:Int):=by omega
   have hkz1:=ap hkz
   have HOUT:Hid (mg 10 0 S.data.toList=some n):=by
    have h1:=HLOW.out;rw[cj (by rw[HNL.out];omega)]at h1
    exact h1
   have HX:=aa (oj (n:Int));clear HC HLOW
   go_wp2_with fail
   refine(HX.out _).mono ?_;rintro e w'⟨rfl,hw⟩;rw[<-hw];clear hw;go_wp2
   go_ret2
   exact⟨.inr ⟨n,HOUT.out,rfl⟩,HB.out⟩
theorem sY(S:ByteArray)(hlen:S.size<=100000)(w:World):Calls Tryz.prog 210 #[.string S,.int .i32 16] w fun e w'=>DY 16 S e/\Below w.heap.size w w':=by
 obtain⟨c,W,hcv,hcell,hsz,hbW,hc1,hc2,_⟩:=jm S (by omega) w
 obtain⟨N,hN⟩ : ∃N,S.size=N:=⟨_,rfl⟩;rw[hN]at hcv hc1 hlen;have hNl:S.data.toList.length=N:=by rw[<-aF];exact hN
 have HNL:=aa hNl;have HB:=aa hbW;have HC:=aa hcell;clear hbW hcell hN hNl hc2;go_enter Tryz.func210,Tryz.ntmps210;go_wp2;clear hcv
 go_loopw [6,13] (FP 16 W S.data.toList) (fun _ i _=>N-(intOf i).toNat)
 case atStart=>exact⟨0,0,aM _,rfl,rfl,by omega,by rw[List.drop_zero],rfl⟩
 case round =>
  obtain⟨k,n,hk,rfl,rfl,hn,hlow,rfl⟩:=hrel;rw[HNL.out]at hk;have HLOW:=aa hlow;clear hlow;by_cases hlt:k<N
  ·have hkl:k<S.data.toList.length:=by rw[HNL.out];exact hlt
   have hck:=HC.out k hkl;rw[ci]at hck;have hdr:S.data.toList.drop k=S.data.toList[k]::S.data.toList.drop (k+1):=bv hkl;have HDR:=aa hdr;have HDG:=aa (rR S.data.toList[k]);have hdd:=xU (base:=16) (by omega) S.data.toList[k]
   have HDD:=aa hdd;have hdle:=F1 S.data.toList[k];clear hdr hdd;generalize S.data.toList[k]=y at *;have hkz:(k:Int)<(N:Int):=by omega
   obtain⟨d,hd⟩ : ∃d,dv y=d:=⟨_,rfl⟩;rw[hd]at HDG HDD hdle;clear hd;obtain⟨x,hx⟩ : ∃x,y.toNat=x:=⟨_,rfl⟩;rw[hx]at HDG hck;clear hx;by_cases hdb:d<16
   ·have hz:¬(16:Int)<=(d:Int):=by omega
    have hz1:=ap hz
    have HNX:Hid (FP 16 wr S.data.toList (.int .i32 ((min (n*16+d) 1114112:Nat):Int)) (.int .i64 ((k+1:Nat):Int)) wr) :=
     ⟨k+1,min (n*16+d) 1114112,by rw[HNL.out];exact hlt,rfl,rfl,Nat.min_le_right _ _,by
      have h1:=HLOW.out;have h2:=HDD.out;rw[av hdb]at h2;rw[HDR.out,jc,h2]at h1;exact h1,rfl⟩
    have HM:Hid ((min ((n:Int)*16+(d:Int)) 1114112)=((min (n*16+d) 1114112:Nat):Int)):=by
     unfold Hid;omega
    generalize min (n*16+d) 1114112=m at *;clear HC HLOW HDR HDD
    go_wp2_with fail
    refine(HDG.out _).mono ?_;rintro e w'⟨rfl,hw⟩;rw[hw];clear hw;go_wp2
    go_roundw
    case rel=>rw[HM.out];exact(show Value.int .i64 ((k+1:Nat):Int)=_ by go_num) ▸ HNX.out
    case measure=>simp[intOf];omega
   ·have hz:(16:Int)<=(d:Int):=by omega
    have HOUT:Hid (mg 16 0 S.data.toList=none):=by
     have h1:=HLOW.out;have h2:=HDD.out;rw[am hdb]at h2;rw[HDR.out,jc,h2]at h1;exact h1
    clear HC HLOW HDR HDD
    go_wp2_with fail
    refine(HDG.out _).mono ?_;rintro e w'⟨rfl,hw⟩;rw[hw];clear hw;go_wp2
    go_ret2
    exact⟨.inl ⟨HOUT.out,rfl⟩,HB.out⟩
  ·have hkz:¬(k:Int)<(N:Int):=by omega
   have hkz1:=ap hkz
   have HOUT:Hid (mg 16 0 S.data.toList=some n):=by
    have h1:=HLOW.out;rw[cj (by rw[HNL.out];omega)]at h1
    exact h1
   have HX:=aa (oj (n:Int));clear HC HLOW
   go_wp2_with fail
   refine(HX.out _).mono ?_;rintro e w'⟨rfl,hw⟩;rw[<-hw];clear hw;go_wp2
   go_ret2
   exact⟨.inr ⟨n,HOUT.out,rfl⟩,HB.out⟩
def eZ(s:List UInt8):Option Int :=
 if s=[108,116]then some 60 else if s=[103,116]then some 62 else if s=[97,109,112]then some 38 else if s=[97,112,111,115]then some 39 else if s=[113,117,111,116]then some 34 else none
def D0(s:List UInt8)(e:Ending):Prop :=
 (∃r,eZ s=some r/\e=.returned (.tuple #[.int .i32 r,.bool true]))∨(eZ s=none/\e=.returned (.tuple #[.int .i32 0,.bool false]))
theorem kM(S:ByteArray)(w:World):Calls Tryz.prog 209 #[.string S] w fun e w'=>D0 S.data.toList e/\w'=w:=by
 by_cases h1:S.data.toList=[108,116]
 ·obtain rfl:S=⟨#[108,116]⟩:=cp h1
  go_enter Tryz.func209,Tryz.ntmps209;go_wp2
  go_ret2
  exact⟨.inl ⟨60,by decide,rfl⟩,rfl⟩
 by_cases h2:S.data.toList=[103,116]
 ·obtain rfl:S=⟨#[103,116]⟩:=cp h2
  go_enter Tryz.func209,Tryz.ntmps209;go_wp2
  go_ret2
  exact⟨.inl ⟨62,by decide,rfl⟩,rfl⟩
 by_cases h3:S.data.toList=[97,109,112]
 ·obtain rfl:S=⟨#[97,109,112]⟩:=cp h3
  go_enter Tryz.func209,Tryz.ntmps209;go_wp2
  go_ret2
  exact⟨.inl ⟨38,by decide,rfl⟩,rfl⟩
 by_cases h4:S.data.toList=[97,112,111,115]
 ·obtain rfl:S=⟨#[97,112,111,115]⟩:=cp h4
  go_enter Tryz.func209,Tryz.ntmps209;go_wp2
  go_ret2
  exact⟨.inl ⟨39,by decide,rfl⟩,rfl⟩
 by_cases h5:S.data.toList=[113,117,111,116]
 ·obtain rfl:S=⟨#[113,117,111,116]⟩:=cp h5
  go_enter Tryz.func209,Tryz.ntmps209;go_wp2
  go_ret2
  exact⟨.inl ⟨34,by decide,rfl⟩,rfl⟩
 have HN:Hid (eZ S.data.toList=none):=by
  unfold Hid eZ;rw[am h1,am h2,am h3,am h4,am h5]
 have b1:(S.toList == [108,116])=false:=by rw[iC,ak];exact h1
 have b2:(S.toList == [103,116])=false:=by rw[iC,ak];exact h2
 have b3:(S.toList == [97,109,112])=false:=by rw[iC,ak];exact h3
 have b4:(S.toList == [97,112,111,115])=false:=by rw[iC,ak];exact h4
 have b5:(S.toList == [113,117,111,116])=false:=by rw[iC,ak];exact h5
 clear h1 h2 h3 h4 h5;go_enter Tryz.func209,Tryz.ntmps209;go_wp2
 go_ret2
 exact⟨.inr ⟨HN.out,rfl⟩,rfl⟩
def kC(S:ByteArray)(B:Nat)(e:Ending)(w':World):Prop :=
 (∃y v,fw S.data.toList=some y/\e=.returned (.tuple #[v,.bool true])/\iW w' B v y)∨(fw S.data.toList=none/\e=.returned (.tuple #[.slice none 0 0,.bool false]))
theorem iW.mono{w:World}{B B':Nat}{v:Value}{l:List UInt8}(h:iW w B v l)(hB:B'<=B):iW w B' v l:=by
 rcases h with h|⟨g,cap,e,h1,h2⟩
 ·exact .inl h
 ·exact .inr ⟨g,cap,e,by omega,h2⟩
theorem nC(r:Int)(hr:eA r=true)(w:World):Calls Tryz.prog 211 #[.slice (some ⟨w.heap.size,0,none⟩) 1 1] (w.alloc (.cells #[.int .i32 r] 21)) fun e w' => ∃v,e=.returned (.tuple #[v,.bool true])/\iW w' w.heap.size v (bD r)/\Below w.heap.size w w':=by
 have hb:=(ae w.heap.size w).alloc (af _) (.cells #[.int .i32 r] 21)
 have hl:en (w.alloc (.cells #[.int .i32 r] 21)) (w.alloc (.cells #[.int .i32 r] 21)).heap.size (some ⟨w.heap.size,0,none⟩) (fo [r]):=fun _=>⟨w.heap.size,0,rfl,by simp,fun j hj=>by
  have hj0:j=0:=by simpa [fo]using hj
  subst hj0;rw[ci,ai _ _ 0 _ _ _ (ar w _)]
  rfl⟩
 refine(Br (some ⟨w.heap.size,0,none⟩) 1 [r] _ hl (by simp)).mono ?_
 rintro e w'⟨h1,⟨_,v,rfl,h2⟩|⟨h2,_⟩⟩
 ·refine⟨v,rfl,?_,hb.trans (h1.mono hb.size)⟩
  have e1:wJ (jI [r])=ec (bD r):=by
   rw[uk (by simp[hr])];simp[bg]
  rw[e1]at h2;exact(iW.of_row h2).mono hb.size
 ·simp[hr]at h2
theorem CR{s:List UInt8}{r:Int}(h:eZ s=some r):fw s=some (bD r)/\eA r=true/\(¬∃t,s=[35,120]++t)/\(¬∃t,s=[35]++t):=by
 unfold eZ at h
 split at h
 ·next e=>subst e;injection h with h;subst h;exact⟨by decide,by decide,by simp,by simp⟩
 split at h
 ·next e=>subst e;injection h with h;subst h;exact⟨by decide,by decide,by simp,by simp⟩
 split at h
 ·next e=>subst e;injection h with h;subst h;exact⟨by decide,by decide,by simp,by simp⟩
 split at h
 ·next e=>subst e;injection h with h;subst h;exact⟨by decide,by decide,by simp,by simp⟩
 split at h
 ·next e=>subst e;injection h with h;subst h;exact⟨by decide,by decide,by simp,by simp⟩
 ·cases h
theorem oo{s:List UInt8}(h:s.head? = some 35):eZ s=none:=by
 unfold eZ;rw[am (by rintro rfl;simp at h),am (by rintro rfl;simp at h),am (by rintro rfl;simp at h),am (by rintro rfl;simp at h),am (by rintro rfl;simp at h)]
theorem xt{s:List UInt8}(h:eZ s=none)(h1:s.head?≠some 35):fw s=none:=by
 unfold fw;unfold eZ at h
 split at h
 ·cases h
 split at h
 ·cases h
 split at h
 ·cases h
 split at h
 ·cases h
 split at h
 ·cases h
 ·next a b c d e=>rw[am a,am b,am c,am d,am e,am h1]
theorem xz(S:ByteArray)(r:Int)(hr:eZ S.data.toList=some r)(w:World):Calls Tryz.prog 200 #[.string S] w fun e w'=>kC S w.heap.size e w'/\Below w.heap.size w w':=by
 obtain⟨h1,h2,h3,h4⟩:=CR hr;have HR:=aa h1
 have HN:Hid (∀w,Calls Tryz.prog 209 #[.string S] w fun e w'=>e=.returned (.tuple #[.int .i32 r,.bool true])/\w'=w):=fun w=>by
  refine(kM S w).mono ?_;rintro e w'⟨⟨r',h,he⟩|⟨h,_⟩,hw⟩
  ·rw[hr]at h
   injection h with h
   exact⟨by rw[he,h],hw⟩
  ·rw[hr]at h;cases h
 have HX:=aa (i7 S ⟨#[35,120]⟩ h3);have HD:=aa (i7 S ⟨#[35]⟩ h4);have HB:=aa (nC r h2 w);clear h1 h2 h3 h4 hr;go_enter Tryz.func200,Tryz.ntmps200
 go_wp2_with fail
 refine(HN.out _).mono ?_;rintro e w'⟨rfl,hw⟩;rw[hw];clear hw
 go_wp2_with fail
 refine(HX.out _).mono ?_;rintro e w'⟨rfl,hw⟩;rw[hw];clear hw
 go_wp2_with fail
 refine(HD.out _).mono ?_;rintro e w'⟨rfl,hw⟩;rw[hw];clear hw
 go_wp2_with fail
 refine HB.out.mono ?_;rintro e w1⟨v,rfl,ho,hb⟩;have HO:=aa ho;clear ho;go_wp2
 go_ret2
 exact⟨.inl ⟨_,v,HR.out,rfl,HO.out⟩,hb⟩
theorem Ar(S R:ByteArray)(hS:S.data.toList=[35,120]++R.data.toList)(hlen:S.size<=100000)(w:World):Calls Tryz.prog 200 #[.string S] w fun e w'=>kC S w.heap.size e w'/\Below w.heap.size w w':=by
 have hRs:R.size<=100000:=by
  have:=congrArg List.length hS;rw[aj,<-aF,<-aF]at this;omega
 have hnn:eZ S.data.toList=none:=oo (by rw[hS];rfl)
 have hrf:fw S.data.toList=lg 16 R.data.toList:=by rw[hS];exact uL _
 rw[wh 16 (by omega)]at hrf
 have HRF:=aa hrf
 have HN:Hid (∀w,Calls Tryz.prog 209 #[.string S] w fun e w'=>e=.returned (.tuple #[.int .i32 0,.bool false])/\w'=w):=fun w=>by
  refine(kM S w).mono ?_;rintro e w'⟨⟨r',h,he⟩|⟨h,he⟩,hw⟩
  ·rw[hnn]at h;cases h
  ·exact⟨he,hw⟩
 have HX:=aa (sO S R ⟨#[35,120]⟩ hS);have HM:=aa (sY R hRs w);clear hrf hnn hS hRs;go_enter Tryz.func200,Tryz.ntmps200
 go_wp2_with fail
 refine(HN.out _).mono ?_;rintro e w'⟨rfl,hw⟩;rw[hw];clear hw
 go_wp2_with fail
 refine(HX.out _).mono ?_;rintro e w'⟨rfl,hw⟩;rw[hw];clear hw
 go_wp2_with fail
 refine HM.out.mono ?_;rintro e w1⟨⟨hl,rfl⟩|⟨n,hl,rfl⟩,hb1⟩
 ·have HL:=aa hl
  clear hl;go_wp2
  go_ret2
  refine⟨.inr ⟨?_,rfl⟩,hb1⟩;rw[HRF.out,HL.out]
 ·have HL:=aa hl
  clear hl;cases hx:ep (n:Int)with
  |false =>
   have HXX:=aa hx;clear hx;go_wp2
   go_ret2
   refine⟨.inr ⟨?_,rfl⟩,hb1⟩;rw[HRF.out,HL.out];dsimp only;rw[HXX.out,am (by simp)]
  |true =>
   have HXX:=aa hx;have HB:=aa (nC (n:Int) (oW hx) w1);clear hx
   go_wp2_with fail
   refine HB.out.mono ?_;rintro e w2⟨v,rfl,ho,hb2⟩;have HO:=aa (ho.mono hb1.size);have hbf:=hb1.trans (hb2.mono hb1.size);clear ho hb1 hb2;go_wp2
   go_ret2
   refine⟨.inl ⟨_,v,?_,rfl,HO.out⟩,hbf⟩;rw[HRF.out,HL.out];dsimp only;rw[HXX.out,av rfl]
theorem Aq(S R:ByteArray)(hS:S.data.toList=[35]++R.data.toList)(hX:R.data.toList.head?≠some 120)(hlen:S.size<=100000)(w:World):Calls Tryz.prog 200 #[.string S] w fun e w'=>kC S w.heap.size e w'/\Below w.heap.size w w':=by
 have hRs:R.size<=100000:=by
  have:=congrArg List.length hS;rw[aj,<-aF,<-aF]at this;omega
 have hnn:eZ S.data.toList=none:=oo (by rw[hS];rfl)
 have hrf:fw S.data.toList=lg 10 R.data.toList:=by rw[hS];exact uK _ hX
 rw[wh 10 (by omega)]at hrf
 have HRF:=aa hrf
 have HN:Hid (∀w,Calls Tryz.prog 209 #[.string S] w fun e w'=>e=.returned (.tuple #[.int .i32 0,.bool false])/\w'=w):=fun w=>by
  refine(kM S w).mono ?_;rintro e w'⟨⟨r',h,he⟩|⟨h,he⟩,hw⟩
  ·rw[hnn]at h;cases h
  ·exact⟨he,hw⟩
 have HX:=aa (i7 S ⟨#[35,120]⟩ (by
  rintro⟨t,ht⟩;rw[hS]at ht
  have h2:R.data.toList=120::t:=by
   have:(35:UInt8)::R.data.toList=35::120::t:=ht
   injection this
  exact hX (by rw[h2];rfl)))
 have HD:=aa (sO S R ⟨#[35]⟩ hS);clear hX;have HM:=aa (sZ R hRs w);clear hrf hnn hS hRs;go_enter Tryz.func200,Tryz.ntmps200
 go_wp2_with fail
 refine(HN.out _).mono ?_;rintro e w'⟨rfl,hw⟩;rw[hw];clear hw
 go_wp2_with fail
 refine(HX.out _).mono ?_;rintro e w'⟨rfl,hw⟩;rw[hw];clear hw
 go_wp2_with fail
 refine(HD.out _).mono ?_;rintro e w'⟨rfl,hw⟩;rw[hw];clear hw
 go_wp2_with fail
 refine HM.out.mono ?_;rintro e w1⟨⟨hl,rfl⟩|⟨n,hl,rfl⟩,hb1⟩
 ·have HL:=aa hl
  clear hl;go_wp2
  go_ret2
  refine⟨.inr ⟨?_,rfl⟩,hb1⟩;rw[HRF.out,HL.out]
 ·have HL:=aa hl
  clear hl;cases hx:ep (n:Int)with
  |false =>
   have HXX:=aa hx;clear hx;go_wp2
   go_ret2
   refine⟨.inr ⟨?_,rfl⟩,hb1⟩;rw[HRF.out,HL.out];dsimp only;rw[HXX.out,am (by simp)]
  |true =>
   have HXX:=aa hx;have HB:=aa (nC (n:Int) (oW hx) w1);clear hx
   go_wp2_with fail
   refine HB.out.mono ?_;rintro e w2⟨v,rfl,ho,hb2⟩;have HO:=aa (ho.mono hb1.size);have hbf:=hb1.trans (hb2.mono hb1.size);clear ho hb1 hb2;go_wp2
   go_ret2
   refine⟨.inl ⟨_,v,?_,rfl,HO.out⟩,hbf⟩;rw[HRF.out,HL.out];dsimp only;rw[HXX.out,av rfl]
theorem xy(S:ByteArray)(h1:eZ S.data.toList=none)(h2:S.data.toList.head?≠some 35)(w:World):Calls Tryz.prog 200 #[.string S] w fun e w'=>kC S w.heap.size e w'/\Below w.heap.size w w':=by
 have HR:=aa (xt h1 h2)
 have HN:Hid (∀w,Calls Tryz.prog 209 #[.string S] w fun e w'=>e=.returned (.tuple #[.int .i32 0,.bool false])/\w'=w):=fun w=>by
  refine(kM S w).mono ?_;rintro e w'⟨⟨r',h,he⟩|⟨h,he⟩,hw⟩
  ·rw[h1]at h;cases h
  ·exact⟨he,hw⟩
 have HX:=aa (i7 S ⟨#[35,120]⟩ (by rintro⟨t,ht⟩;rw[ht]at h2;exact h2 rfl))
 have HD:=aa (i7 S ⟨#[35]⟩ (by rintro⟨t,ht⟩;rw[ht]at h2;exact h2 rfl))
 clear h1 h2;go_enter Tryz.func200,Tryz.ntmps200
 go_wp2_with fail
 refine(HN.out _).mono ?_;rintro e w'⟨rfl,hw⟩;rw[hw];clear hw
 go_wp2_with fail
 refine(HX.out _).mono ?_;rintro e w'⟨rfl,hw⟩;rw[hw];clear hw
 go_wp2_with fail
 refine(HD.out _).mono ?_;rintro e w'⟨rfl,hw⟩;rw[hw];clear hw;go_wp2
 go_ret2
 exact⟨.inr ⟨HR.out,rfl⟩,ae _ _⟩
theorem rp(S:ByteArray)(hlen:S.size<=100000)(w:World):Calls Tryz.prog 200 #[.string S] w fun e w'=>kC S w.heap.size e w'/\Below w.heap.size w w':=by
 cases hn:eZ S.data.toList with
 |some r=>exact xz S r hn w
 |none =>
  by_cases h35:S.data.toList.head? = some 35
  ·obtain⟨t,ht⟩ : ∃t,S.data.toList=35::t:=by
    cases hs:S.data.toList with
    |nil=>rw[hs]at h35;cases h35
    |cons c t =>
     rw[hs]at h35
     injection h35 with h
     exact⟨t,by rw[h]⟩
   by_cases hx:t.head? = some 120
   ·obtain⟨u,hu⟩ : ∃u,t=120::u:=by
     cases t with
     |nil=>cases hx
     |cons c u =>
      injection hx with h
      exact⟨u,by rw[h]⟩
    exact Ar S ⟨u.toArray⟩ (by rw[ht,hu];rfl) hlen w
   ·exact Aq S ⟨t.toArray⟩ (by rw[ht];rfl) hx hlen w
  ·exact xy S hn h35 w
open Classical in
theorem Em{s:List UInt8}(h:iZ s=false):¬mZ s:=fun h'=>by rw[eS.2 h']at h;cases h
def FQ(o:Option (List UInt8))(e:Ending):Prop :=
 (∃Y:ByteArray,o=some Y.data.toList/\e=.returned (.tuple #[.string Y,.bool true]))∨(o=none/\e=.returned (.tuple #[.string ⟨#[]⟩,.bool false]))
theorem FQ.same{o:Option (List UInt8)}{e e':Ending}(h:FQ o e)(h':FQ o e'):e=e':=by
 rcases h with⟨Y,h1,rfl⟩|⟨h1,rfl⟩
 ·rcases h' with⟨Z,h2,rfl⟩|⟨h2,_⟩
  ·rw[h1]at h2
   injection h2 with h2
   rw[cp h2]
  ·rw[h1]at h2;cases h2
 ·rcases h' with⟨Z,h2,_⟩|⟨_,rfl⟩
  ·rw[h1]at h2;cases h2
  ·rfl
theorem iW.there{w:World}{B:Nat}{v:Value}{l:List UInt8}(h:iW w B v l)(hl:1<=l.length):∃g cap,v=.slice (some ⟨g,0,none⟩) l.length cap/\∀j u,(ec l)[j]? = some u->w.cell? ((⟨g,0,none⟩ : Addr).add j)=some u:=by
 rcases h with⟨_,rfl⟩|⟨g,cap,e,_,_,_,_,_,h6⟩
 ·simp at hl
 ·exact⟨g,cap,e,fun j u hu=>by rw[mN,ci];exact h6 j u hu⟩
def DW(w:World)(s:List UInt8)(r m v:Value)(wr:World):Prop :=
 ∃(R:ByteArray) (M:Bool) (O:List UInt8),r=.string R/\m=.bool M/\iW wr w.heap.size v O/\Below w.heap.size w wr/\O.length+4*R.size<=4*s.length/\60∉R.data.toList /\
  ((M=true/\dI false s=(dI false (38::R.data.toList)).map (O++·))∨(M=false/\dI false s=some O))
def Gs:Value->Value->Nat
 | .string R,.bool true=>R.size+1
 |_,_=>0
theorem j9(o:Option (List UInt8))(a b:List UInt8):(o.map (b++·)).map (a++·)=o.map ((a++b)++·):=by cases o<;>simp
theorem lP(S:ByteArray)(hlen:S.size<=100000)(w:World)(hT:qw w):Calls Tryz.prog 174 #[.string S] w fun e w'=>FQ (lQ S.data.toList) e/\Below w.heap.size w w':=by
 obtain⟨c,W,hcv,hcell,hsz,hbW,hc1,hc2,_⟩:=jm S (by omega) w
 have HTX:Hid (Calls Tryz.prog 27 #[.slice (some ⟨w.heap.size,0,none⟩) S.size c] W fun e w'=>e=.returned (.bool (iZ S.data.toList))/\Below W.heap.size W w'):=by
  have h:=pb (some ⟨w.heap.size,0,none⟩) c S.data.toList W (hT.below hT.two hbW) (fI hsz hcell) (by rw[<-aF];exact hc1) hc2 (by rw[<-aF];omega)
  rw[<-aF]at h;exact h.mono fun e w' ⟨h1,h2⟩=>⟨i4 h1,h2⟩
 obtain⟨Z,hZ⟩ : ∃Z,lQ S.data.toList=Z:=⟨_,rfl⟩;rw[hZ];have HZ:=aa hZ;clear hcell hsz hc1 hc2 hT hZ;cases ht:iZ S.data.toList with
 |false =>
  rw[ht]at HTX;have hN:none=Z:=by rw[<-HZ.out];exact(Gr (Em ht)).symm
  subst hN;clear ht HZ;go_enter Tryz.func174,Tryz.ntmps174
  go_wp2_with fail
  refine HTX.out.mono ?_;rintro e w1⟨rfl,hb1⟩;go_wp2
  go_ret2
  exact⟨.inr ⟨rfl,rfl⟩,hbW.trans (hb1.mono hbW.size)⟩
 |true =>
  rw[ht]at HTX;have HZ2:Hid (dI false S.data.toList=Z):=by rw[Hid,<-HZ.out];exact(EM (eS.1 ht)).symm
  clear ht;have HLT:=aa (Fd 60 S);by_cases hlt:(60:UInt8)∈S.data.toList
  ·rw[ax hlt]at HLT
   have hN:none=Z:=by rw[<-HZ2.out];exact(xP hlt).symm
   subst hN;clear HZ HZ2 hlt;go_enter Tryz.func174,Tryz.ntmps174
   go_wp2_with fail
   refine HTX.out.mono ?_;rintro e w1⟨rfl,hb1⟩
   go_wp2_with fail
   refine(HLT.out _).mono ?_;rintro e w2⟨rfl,hw⟩;rw[hw];go_wp2
   go_ret2
   exact⟨.inr ⟨rfl,rfl⟩,hbW.trans (hb1.mono hbW.size)⟩
  ·rw[ap hlt]at HLT
   have HNL:=aa hlt;clear HZ hlt;go_enter Tryz.func174,Tryz.ntmps174
   go_wp2_with fail
   refine HTX.out.mono ?_;rintro e w1⟨rfl,hb1⟩;have hbx:=hbW.trans (hb1.mono hbW.size);clear hcv HTX hbW hb1
   go_wp2_with fail
   refine(HLT.out _).mono ?_;rintro e w2⟨rfl,hw⟩;rw[hw];clear hw HLT
   go_wp2_with fail
   refine(oI 38 S (by omega) w1).mono ?_
   rintro e w3⟨hcut,hb3⟩;have hby:=hbx.trans (hb3.mono hbx.size);clear hbx hb3
   obtain⟨P,R,M,rfl,HREL⟩ : ∃(P R:ByteArray) (M:Bool),e=.returned (.tuple #[.string P,.string R,.bool M])/\Hid (P.size+R.size<=S.size/\60∉R.data.toList/\((M=true/\dI false S.data.toList=(dI false (38::R.data.toList)).map (P.data.toList++·))∨(M=false/\dI false S.data.toList=some P.data.toList))):=by
    rcases hcut with⟨h1,rfl⟩|⟨P,R,h1,h2,rfl⟩
    ·exact⟨S,⟨#[]⟩,false,rfl,by show S.size+0<=S.size;omega,by simp,.inr ⟨rfl,yY HNL.out h1⟩⟩
    ·have h60:=HNL.out
     rw[h1]at h60;simp only[bS,aU,not_or]at h60;exact⟨P,R,true,rfl,by rw[aF S,h1,aj,az,<-aF,<-aF];omega,h60.2.2,.inl ⟨rfl,by rw[h1,kX h60.1 h2]⟩⟩
   have hPs:P.size<=100000:=by have:=HREL.out.1;omega
   obtain⟨c2,W2,hcv2,_,_,hbW2,_,_,hown2⟩:=jm P (by omega) w3
   have HST:Hid (DW w S.data.toList (.string R) (.bool M) (.slice (some ⟨w3.heap.size,0,none⟩) P.size c2) W2):=⟨R,M,P.data.toList,rfl,rfl,hown2.mono hby.size,hby.trans (hbW2.mono hby.size),by rw[<-aF,<-aF];have:=HREL.out.1;omega,HREL.out.2.1,HREL.out.2.2⟩
   clear hcut HREL hown2 hbW2 hby;go_wp2;clear hcv2
   go_loopw [5,6,7] (DW w S.data.toList) (fun r m _ _=>Gs r m)
   case atStart=>exact HST.out
   case round =>
    obtain⟨R,M,O,rfl,rfl,hO,hb,hsum,h60,hcase⟩:=hrel;rw[<-aF]at hsum;have HO:=aa hO;have HB:=aa hb;have H60:=aa h60;have hbs:=hb.size;have hRs:R.size<=100000:=by omega
    have hOl:O.length<=400000:=by omega
    clear hO hb h60 HST;rcases hcase with⟨rfl,hex⟩|⟨rfl,hex⟩
    ·have HEX:=aa hex
     clear hex;have HC1:=aa (oI 59 R (by omega) wr)
     go_wp2_with fail
     refine HC1.out.mono ?_;rintro e x1⟨⟨h1,rfl⟩|⟨X,Q,h1,h2,rfl⟩,hx1⟩
     ·have hN:none=Z:=by
       rw[<-HZ2.out,HEX.out,vG h1];rfl
      subst hN;have hbq:=HB.out.trans (hx1.mono hbs);have HM:=aa (rp R hRs x1);clear h1 HZ2 HEX HC1 hx1
      go_wp2_with fail
      refine HM.out.mono ?_;rintro e x2⟨⟨y,v,_,rfl,_⟩|⟨_,rfl⟩,hx2⟩
      ·go_wp2
       go_ret2
       exact⟨.inr ⟨rfl,rfl⟩,hbq.trans (hx2.mono hbq.size)⟩
      ·go_wp2
       go_ret2
       exact⟨.inr ⟨rfl,rfl⟩,hbq.trans (hx2.mono hbq.size)⟩
     ·have hRl:R.size=X.size+1+Q.size:=by rw[aF,h1,aj,az,<-aF,<-aF];omega
      have hbq:=HB.out.trans (hx1.mono hbs);have HO1:=aa (HO.out.later (hx1.mono (af _)));have HM:=aa (rp X (by omega) x1)
      have hex2:=HEX.out;rw[h1,yW h2]at hex2;have HEX2:=aa hex2;have h60:=H60.out;rw[h1]at h60;simp only[bS,aU,not_or]at h60;have H60Q:=aa h60.2.2;clear hex2 h60 h1 h2 HEX HC1 hx1 HO HB H60
      go_wp2_with fail
      refine HM.out.mono ?_;rintro e x2⟨⟨y,v,hy,rfl,hvo⟩|⟨hy,rfl⟩,hx2⟩
      ·have hyl:=sE hy
       have hex3:=HEX2.out;rw[hy]at hex3;have HEX3:=aa hex3;have hbr:=hbq.trans (hx2.mono hbq.size);have HO2:=aa (HO1.out.later (hx2.mono (af _)));have HVO:=aa hvo;have HC2:=aa (oI 38 Q (by omega) x2)
       clear hex3 hy hvo HEX2 HM hx2 HO1 hbq
       go_wp2_with fail
       refine HC2.out.mono ?_;rintro e x3⟨hcut,hx3⟩;have hbt:=hbr.trans (hx3.mono hbr.size);have hbts:=hbt.size;have HO3:=aa (HO2.out.later (hx3.mono (af _)));obtain⟨g,cap,rfl,hcy⟩:=(HVO.out.later (hx3.mono (af _))).there hyl.1;have HCY:=aa hcy
       obtain⟨P,R2,M2,rfl,HREL⟩ : ∃(P R2:ByteArray) (M2:Bool),e=.returned (.tuple #[.string P,.string R2,.bool M2])/\Hid (P.size+R2.size<=Q.size/\(M2=true->R2.size<Q.size)/\60∉R2.data.toList/\((M2=true/\dI false S.data.toList=(dI false (38::R2.data.toList)).map (((O++y)++P.data.toList)++·))∨(M2=false/\dI false S.data.toList=some ((O++y)++P.data.toList)))):=by
        have h5:=HEX3.out;rcases hcut with⟨h1,rfl⟩|⟨P,R2,h1,h2,rfl⟩
        ·refine⟨Q,⟨#[]⟩,false,rfl,by show Q.size+0<=Q.size;omega,fun h=>(by cases h),by simp,.inr ⟨rfl,?_⟩⟩
         rw[h5,yY H60Q.out h1];simp
        ·have h60:=H60Q.out
         rw[h1]at h60;simp only[bS,aU,not_or]at h60;have hQl:Q.size=P.size+1+R2.size:=by rw[aF,h1,aj,az,<-aF,<-aF];omega
         refine⟨P,R2,true,rfl,by omega,fun _=>by omega,h60.2.2,.inl ⟨rfl,?_⟩⟩
         rw[h5,h1,kX h60.1 h2,j9,j9]
       obtain⟨n,hn⟩ : ∃n,y.length=n:=⟨_,rfl⟩;rw[hn]at hyl ⊢;have HN:=aa hn;have hPQ:=HREL.out.1;have hn1:O.length+n<=1000000000000:=by omega
       clear hcut HEX3 HC2 hx3 hbr HO2 HVO hcy hn;have hn2:(O++y).length+P.size<=1000000000000:=by rw[aj,HN.out];omega
       go_wp2_with (first|(at_builtin;refine wA rfl (.tmp 53) (.tmp 54) rfl w.heap.size O u7 rfl HO3.out hbts ⟨g,0,none⟩ n cap y rfl HN.out HCY.out hn1 ?_;intro v1 w1' hO4 hb4)|(at_builtin;refine mL rfl (.tmp 55) (.tmp 56) rfl w.heap.size (O++y) v1 rfl hO4 (hbt.trans hb4).size P rfl hn2 ?_;intro v2 w2' hO5 hb5))
       have hbu:=hbt.trans hb4;have hbv:=hbu.trans hb5;have HO5:=aa hO5
       have HNX:Hid (DW w S.data.toList (.string R2) (.bool M2) v2 w2'):=⟨R2,M2,(O++y)++P.data.toList,rfl,rfl,HO5.out,hbv,by
        rw[aj,aj,HN.out,<-aF,<-aF];omega,HREL.out.2.2.1,HREL.out.2.2.2⟩
       have hms:Gs (.string R2) (.bool M2)<Gs (.string R) (.bool true):=by
        cases M2 with
        |false=>show 0<R.size+1;omega
        |true=>show R2.size+1<R.size+1;have:=HREL.out.2.1 rfl;omega
       have HMS:=aa hms;clear hO5 hb5 hbu hms hO4 hb4 hbt;go_wp2
       go_roundw
       case rel=>exact HNX.out
       case measure=>exact HMS.out
      ·have hN:none=Z:=by
        have h5:=HEX2.out;rw[hy]at h5;rw[<-HZ2.out,h5];rfl
       subst hN;clear hy HEX2 HZ2 HM;go_wp2
       go_ret2
       exact⟨.inr ⟨rfl,rfl⟩,hbq.trans (hx2.mono hbq.size)⟩
    ·obtain⟨A',cap',hv,hcl,hcm,hli⟩:=HO.out.lies
     have hcv3:=cF cap' hli;obtain⟨Y,hY⟩ : ∃Y:ByteArray,⟨O.toArray⟩=Y:=⟨_,rfl⟩;have hZY:some Y.data.toList=Z:=by rw[<-HZ2.out,hex,<-hY]
     have HZY:=aa hZY;rw[hY]at hcv3;generalize O.length=n at *;subst hv;clear hli hex hZY hY HO HZ2;go_wp2
     go_ret2
     exact⟨.inl ⟨Y,HZY.out.symm,rfl⟩,HB.out⟩
end Go.Proofs.YteinegfbpfhflaaGreatDoor
