/-
  The character of a number, and of a reference: chars.number, named, meant. Conditions: the text is not too long.
  chars.meant: the bytes of what a reference is. Conditions: the text is not too long.
  chars.replaced: a text with what its references are in their places. Conditions: the tables lie as they are laid; the text is not too long.
-/
import Derived.Test.YtlgcigmolfhamaaGreatDoorK24
import Derived.Test.YtlgcigmolfhamaaGreatDoorK10
import Derived.Test.YtlgcigmolfhamaaGreatDoorK09
import Derived.Test.YtlgcigmolfhamaaGreatDoorK07
namespace Go.Proofs.YtlgcigmolfhamaaGreatDoor
open Go.RowKit
set_option linter.unusedVariables false
set_option maxHeartbeats 8000000
def b7G(base:Nat)(S:ByteArray)(e:Ending):Prop :=
 (a4e base 0 S.data.toList=none/\e=.returned (.tuple #[.int .i32 0,.bool false]))∨(∃n:Nat,a4e base 0 S.data.toList=some n/\e=.returned (.tuple #[.int .i32 (n:Int),.bool (P9 (n:Int))]))
def b9n(base:Nat)(w:World)(s:List UInt8)(v i:Value)(wr:World):Prop :=
 ∃k n:Nat,k<=s.length/\i=.int .i64 (k:Int)/\v=.int .i32 (n:Int)/\n<=1114112/\a4e base 0 s=a4e base n (s.drop k)/\wr=w
theorem a83(S:ByteArray)(E3:S.size<=100000)(w:World):Calls Tryz.prog 239 #[.string S,.int .i32 10] w fun e w'=>b7G 10 S e/\Below w.heap.size w w':=by
 obtain⟨c,W,E5,D1,J3,E6,G8,G9,_⟩:=a0M S (by omega) w
 obtain⟨N,hN⟩ : ∃N,S.size=N:=⟨_,rfl⟩;rw[hN]at E5 G8 E3;have E7:S.data.toList.length=N:=by rw[<-j9];exact hN
 have E0:=a8 E7;have HB:=a8 E6;have HC:=a8 D1;clear E6 D1 hN E7 G9;go_enter Tryz.func239,Tryz.ntmps239;go_wp2;clear E5
 go_loopw [6,13] (b9n 10 W S.data.toList) (fun _ i _=>N-(intOf i).toNat)
 case atStart=>exact⟨0,0,o4 _,rfl,rfl,by omega,by rw[List.drop_zero],rfl⟩
 case round =>
  obtain⟨k,n,hk,rfl,rfl,hn,D3,rfl⟩:=hrel;rw[E0.out]at hk;have D0:=a8 D3;clear D3;by_cases E8:k<N
  ·have G0:k<S.data.toList.length:=by rw[E0.out];exact E8
   have G1:=HC.out k G0;rw[F5]at G1;have G4:S.data.toList.drop k=S.data.toList[k]::S.data.toList.drop (k+1):=B8 G0;have E1:=a8 G4;have E2:=a8 (a8h S.data.toList[k]);have G5:=b2I (base:=10) (by omega) S.data.toList[k]
   have D9:=a8 G5;have E4:=b9u S.data.toList[k];clear G4 G5;generalize S.data.toList[k]=y at *;have G6:(k:Int)<(N:Int):=by omega
   obtain⟨d,hd⟩ : ∃d,dv y=d:=⟨_,rfl⟩;rw[hd]at E2 D9 E4;clear hd;obtain⟨x,hx⟩ : ∃x,y.toNat=x:=⟨_,rfl⟩;rw[hx]at E2 G1;clear hx;by_cases G7:d<10
   ·have hz:¬(10:Int)<=(d:Int):=by omega
    have J4:=f8 hz
    have J1:Hid (b9n 10 wr S.data.toList (.int .i32 ((min (n*10+d) 1114112:Nat):Int)) (.int .i64 ((k+1:Nat):Int)) wr) :=
     ⟨k+1,min (n*10+d) 1114112,by rw[E0.out];exact E8,rfl,rfl,Nat.min_le_right _ _,by
      have h1:=D0.out;have h2:=D9.out;rw[g8 G7]at h2;rw[E1.out,a1Z,h2]at h1;exact h1,rfl⟩
    have HM:Hid ((min ((n:Int)*10+(d:Int)) 1114112)=((min (n*10+d) 1114112:Nat):Int)):=by
     unfold Hid;omega
    generalize min (n*10+d) 1114112=m at *;clear HC D0 E1 D9
    go_wp2_with fail
    refine(E2.out _).mono ?_;rintro e w'⟨rfl,hw⟩;rw[hw];clear hw;go_wp2
    go_roundw
    case rel=>rw[HM.out];exact(show Value.int .i64 ((k+1:Nat):Int)=_ by go_num) ▸ J1.out
    case measure=>simp[intOf];omega
   ·have hz:(10:Int)<=(d:Int):=by omega
    have D2:Hid (a4e 10 0 S.data.toList=none):=by
     have h1:=D0.out;have h2:=D9.out;rw[f6 G7]at h2;rw[E1.out,a1Z,h2]at h1;exact h1
    clear HC D0 E1 D9
    go_wp2_with fail
    refine(E2.out _).mono ?_;rintro e w'⟨rfl,hw⟩;rw[hw];clear hw;go_wp2
    go_ret2
    exact⟨.inl ⟨D2.out,rfl⟩,HB.out⟩
  ·have G6:¬(k:Int)<(N:Int):=by omega
   have J2:=f8 G6
   have D2:Hid (a4e 10 0 S.data.toList=some n):=by
    have h1:=D0.out;rw[F9 (by rw[E0.out];omega)]at h1
    exact h1
   have HX:=a8 (a5D (n:Int));clear HC D0
   go_wp2_with fail
   refine(HX.out _).mono ?_;rintro e w'⟨rfl,hw⟩;rw[<-hw];clear hw;go_wp2
   go_ret2
   exact⟨.inr ⟨n,D2.out,rfl⟩,HB.out⟩
theorem a82(S:ByteArray)(E3:S.size<=100000)(w:World):Calls Tryz.prog 239 #[.string S,.int .i32 16] w fun e w'=>b7G 16 S e/\Below w.heap.size w w':=by
 obtain⟨c,W,E5,D1,J3,E6,G8,G9,_⟩:=a0M S (by omega) w
 obtain⟨N,hN⟩ : ∃N,S.size=N:=⟨_,rfl⟩;rw[hN]at E5 G8 E3;have E7:S.data.toList.length=N:=by rw[<-j9];exact hN
 have E0:=a8 E7;have HB:=a8 E6;have HC:=a8 D1;clear E6 D1 hN E7 G9;go_enter Tryz.func239,Tryz.ntmps239;go_wp2;clear E5
 go_loopw [6,13] (b9n 16 W S.data.toList) (fun _ i _=>N-(intOf i).toNat)
 case atStart=>exact⟨0,0,o4 _,rfl,rfl,by omega,by rw[List.drop_zero],rfl⟩
 case round =>
  obtain⟨k,n,hk,rfl,rfl,hn,D3,rfl⟩:=hrel;rw[E0.out]at hk;have D0:=a8 D3;clear D3;by_cases E8:k<N
  ·have G0:k<S.data.toList.length:=by rw[E0.out];exact E8
   have G1:=HC.out k G0;rw[F5]at G1;have G4:S.data.toList.drop k=S.data.toList[k]::S.data.toList.drop (k+1):=B8 G0;have E1:=a8 G4;have E2:=a8 (a8h S.data.toList[k]);have G5:=b2I (base:=16) (by omega) S.data.toList[k]
   have D9:=a8 G5;have E4:=b9u S.data.toList[k];clear G4 G5;generalize S.data.toList[k]=y at *;have G6:(k:Int)<(N:Int):=by omega
   obtain⟨d,hd⟩ : ∃d,dv y=d:=⟨_,rfl⟩;rw[hd]at E2 D9 E4;clear hd;obtain⟨x,hx⟩ : ∃x,y.toNat=x:=⟨_,rfl⟩;rw[hx]at E2 G1;clear hx;by_cases G7:d<16
   ·have hz:¬(16:Int)<=(d:Int):=by omega
    have J4:=f8 hz
    have J1:Hid (b9n 16 wr S.data.toList (.int .i32 ((min (n*16+d) 1114112:Nat):Int)) (.int .i64 ((k+1:Nat):Int)) wr) :=
     ⟨k+1,min (n*16+d) 1114112,by rw[E0.out];exact E8,rfl,rfl,Nat.min_le_right _ _,by
      have h1:=D0.out;have h2:=D9.out;rw[g8 G7]at h2;rw[E1.out,a1Z,h2]at h1;exact h1,rfl⟩
    have HM:Hid ((min ((n:Int)*16+(d:Int)) 1114112)=((min (n*16+d) 1114112:Nat):Int)):=by
     unfold Hid;omega
    generalize min (n*16+d) 1114112=m at *;clear HC D0 E1 D9
    go_wp2_with fail
    refine(E2.out _).mono ?_;rintro e w'⟨rfl,hw⟩;rw[hw];clear hw;go_wp2
    go_roundw
    case rel=>rw[HM.out];exact(show Value.int .i64 ((k+1:Nat):Int)=_ by go_num) ▸ J1.out
    case measure=>simp[intOf];omega
   ·have hz:(16:Int)<=(d:Int):=by omega
    have D2:Hid (a4e 16 0 S.data.toList=none):=by
     have h1:=D0.out;have h2:=D9.out;rw[f6 G7]at h2;rw[E1.out,a1Z,h2]at h1;exact h1
    clear HC D0 E1 D9
    go_wp2_with fail
    refine(E2.out _).mono ?_;rintro e w'⟨rfl,hw⟩;rw[hw];clear hw;go_wp2
    go_ret2
    exact⟨.inl ⟨D2.out,rfl⟩,HB.out⟩
  ·have G6:¬(k:Int)<(N:Int):=by omega
   have J2:=f8 G6
   have D2:Hid (a4e 16 0 S.data.toList=some n):=by
    have h1:=D0.out;rw[F9 (by rw[E0.out];omega)]at h1
    exact h1
   have HX:=a8 (a5D (n:Int));clear HC D0
   go_wp2_with fail
   refine(HX.out _).mono ?_;rintro e w'⟨rfl,hw⟩;rw[<-hw];clear hw;go_wp2
   go_ret2
   exact⟨.inr ⟨n,D2.out,rfl⟩,HB.out⟩
def V2(s:List UInt8):Option Int :=
 if s=[108,116]then some 60 else if s=[103,116]then some 62 else if s=[97,109,112]then some 38 else if s=[97,112,111,115]then some 39 else if s=[113,117,111,116]then some 34 else none
def b7I(s:List UInt8)(e:Ending):Prop :=
 (∃r,V2 s=some r/\e=.returned (.tuple #[.int .i32 r,.bool true]))∨(V2 s=none/\e=.returned (.tuple #[.int .i32 0,.bool false]))
theorem a3a(S:ByteArray)(w:World):Calls Tryz.prog 238 #[.string S] w fun e w'=>b7I S.data.toList e/\w'=w:=by
 by_cases h1:S.data.toList=[108,116]
 ·obtain rfl:S=⟨#[108,116]⟩:=G0 h1
  go_enter Tryz.func238,Tryz.ntmps238;go_wp2
  go_ret2
  exact⟨.inl ⟨60,by decide,rfl⟩,rfl⟩
 by_cases h2:S.data.toList=[103,116]
 ·obtain rfl:S=⟨#[103,116]⟩:=G0 h2
  go_enter Tryz.func238,Tryz.ntmps238;go_wp2
  go_ret2
  exact⟨.inl ⟨62,by decide,rfl⟩,rfl⟩
 by_cases h3:S.data.toList=[97,109,112]
 ·obtain rfl:S=⟨#[97,109,112]⟩:=G0 h3
  go_enter Tryz.func238,Tryz.ntmps238;go_wp2
  go_ret2
  exact⟨.inl ⟨38,by decide,rfl⟩,rfl⟩
 by_cases h4:S.data.toList=[97,112,111,115]
 ·obtain rfl:S=⟨#[97,112,111,115]⟩:=G0 h4
  go_enter Tryz.func238,Tryz.ntmps238;go_wp2
  go_ret2
  exact⟨.inl ⟨39,by decide,rfl⟩,rfl⟩
 by_cases h5:S.data.toList=[113,117,111,116]
 ·obtain rfl:S=⟨#[113,117,111,116]⟩:=G0 h5
  go_enter Tryz.func238,Tryz.ntmps238;go_wp2
  go_ret2
  exact⟨.inl ⟨34,by decide,rfl⟩,rfl⟩
 have HN:Hid (V2 S.data.toList=none):=by
  unfold Hid V2;rw[f6 h1,f6 h2,f6 h3,f6 h4,f6 h5]
 have b1:(S.toList == [108,116])=false:=by rw[a1u,e9];exact h1
 have b2:(S.toList == [103,116])=false:=by rw[a1u,e9];exact h2
 have b3:(S.toList == [97,109,112])=false:=by rw[a1u,e9];exact h3
 have b4:(S.toList == [97,112,111,115])=false:=by rw[a1u,e9];exact h4
 have b5:(S.toList == [113,117,111,116])=false:=by rw[a1u,e9];exact h5
 clear h1 h2 h3 h4 h5;go_enter Tryz.func238,Tryz.ntmps238;go_wp2
 go_ret2
 exact⟨.inr ⟨HN.out,rfl⟩,rfl⟩
def a20(S:ByteArray)(B:Nat)(e:Ending)(w':World):Prop :=
 (∃y v,X1 S.data.toList=some y/\e=.returned (.tuple #[v,.bool true])/\Own w' B v y)∨(X1 S.data.toList=none/\e=.returned (.tuple #[.slice none 0 0,.bool false]))
theorem Own.mono{w:World}{B B':Nat}{v:Value}{l:List UInt8}(h:Own w B v l)(hB:B'<=B):Own w B' v l:=by
 rcases h with h|⟨g,cap,e,h1,h2⟩
 ·exact .inl h
 ·exact .inr ⟨g,cap,e,by omega,h2⟩
theorem a5b(r:Int)(hr:R7 r=true)(w:World):Calls Tryz.prog 240 #[.slice (some ⟨w.heap.size,0,none⟩) 1 1] (w.alloc (.cells #[.int .i32 r] 21)) fun e w' => ∃v,e=.returned (.tuple #[v,.bool true])/\Own w' w.heap.size v (C3 r)/\Below w.heap.size w w':=by
 have hb:=(b8 w.heap.size w).alloc (c9 _) (.cells #[.int .i32 r] 21)
 have hl:Q3 (w.alloc (.cells #[.int .i32 r] 21)) (w.alloc (.cells #[.int .i32 r] 21)).heap.size (some ⟨w.heap.size,0,none⟩) (W6 [r]):=fun _=>⟨w.heap.size,0,rfl,by simp,fun j hj=>by
  have D0:j=0:=by simpa [W6]using hj
  subst D0;rw[F5,d9 _ _ 0 _ _ _ (g9 w _)]
  rfl⟩
 refine(b5m (some ⟨w.heap.size,0,none⟩) 1 [r] _ hl (by simp)).mono ?_
 rintro e w'⟨h1,⟨_,v,rfl,h2⟩|⟨h2,_⟩⟩
 ·refine⟨v,rfl,?_,hb.trans (h1.mono hb.size)⟩
  have e1:u8s (a2n [r])=P6 (C3 r):=by
   rw[a9Y (by simp[hr])];simp[y9]
  rw[e1]at h2;exact(Own.of_row h2).mono hb.size
 ·simp[hr]at h2
theorem b6z{s:List UInt8}{r:Int}(h:V2 s=some r):X1 s=some (C3 r)/\R7 r=true/\(¬∃t,s=[35,120]++t)/\(¬∃t,s=[35]++t):=by
 unfold V2 at h
 split at h
 ·next e=>subst e;injection h with h;subst h;exact⟨by decide,by decide,by simp,by simp⟩
 split at h
 ·next e=>subst e;injection h with h;subst h;exact⟨by decide,by decide,by simp,by simp⟩
 split at h
 ·next e=>subst e;injection h with h;subst h;exact⟨by decide,by decide,by simp,by simp⟩
 split at h
 ·next e=>subst e;injection h with h;subst h;exact⟨by decide,by decide,by simp,by simp⟩
 split at h
 ·next e=>subst e;injection h with h;subst h;exact⟨by decide,by decide,by simp,by simp⟩
 ·cases h
theorem a5H{s:List UInt8}(h:s.head? = some 35):V2 s=none:=by
 unfold V2;rw[f6 (by rintro rfl;simp at h),f6 (by rintro rfl;simp at h),f6 (by rintro rfl;simp at h),f6 (by rintro rfl;simp at h),f6 (by rintro rfl;simp at h)]
theorem b2i{s:List UInt8}(h:V2 s=none)(h1:s.head?≠some 35):X1 s=none:=by
 unfold X1;unfold V2 at h
 split at h
 ·cases h
 split at h
 ·cases h
 split at h
 ·cases h
 split at h
 ·cases h
 split at h
 ·cases h
 ·next a b c d e=>rw[f6 a,f6 b,f6 c,f6 d,f6 e,f6 h1]
theorem b2m(S:ByteArray)(r:Int)(hr:V2 S.data.toList=some r)(w:World):Calls Tryz.prog 229 #[.string S] w fun e w'=>a20 S w.heap.size e w'/\Below w.heap.size w w':=by
 obtain⟨h1,h2,h3,h4⟩:=b6z hr;have HR:=a8 h1
 have HN:Hid (∀w,Calls Tryz.prog 238 #[.string S] w fun e w'=>e=.returned (.tuple #[.int .i32 r,.bool true])/\w'=w):=fun w=>by
  refine(a3a S w).mono ?_;rintro e w'⟨⟨r',h,he⟩|⟨h,_⟩,hw⟩
  ·rw[hr]at h
   injection h with h
   exact⟨by rw[he,h],hw⟩
  ·rw[hr]at h;cases h
 have HX:=a8 (a1T S ⟨#[35,120]⟩ h3);have HD:=a8 (a1T S ⟨#[35]⟩ h4);have HB:=a8 (a5b r h2 w);clear h1 h2 h3 h4 hr;go_enter Tryz.func229,Tryz.ntmps229
 go_wp2_with fail
 refine(HN.out _).mono ?_;rintro e w'⟨rfl,hw⟩;rw[hw];clear hw
 go_wp2_with fail
 refine(HX.out _).mono ?_;rintro e w'⟨rfl,hw⟩;rw[hw];clear hw
 go_wp2_with fail
 refine(HD.out _).mono ?_;rintro e w'⟨rfl,hw⟩;rw[hw];clear hw
 go_wp2_with fail
 refine HB.out.mono ?_;rintro e w1⟨v,rfl,ho,hb⟩;have HO:=a8 ho;clear ho;go_wp2
 go_ret2
 exact⟨.inl ⟨_,v,HR.out,rfl,HO.out⟩,hb⟩
theorem b4F(S R:ByteArray)(hS:S.data.toList=[35,120]++R.data.toList)(E2:S.size<=100000)(w:World):Calls Tryz.prog 229 #[.string S] w fun e w'=>a20 S w.heap.size e w'/\Below w.heap.size w w':=by
 have D9:R.size<=100000:=by
  have:=congrArg List.length hS;rw[e8,<-j9,<-j9]at this;omega
 have E0:V2 S.data.toList=none:=a5H (by rw[hS];rfl)
 have D1:X1 S.data.toList=a3w 16 R.data.toList:=by rw[hS];exact b0o _
 rw[b1n 16 (by omega)]at D1
 have D2:=a8 D1
 have HN:Hid (∀w,Calls Tryz.prog 238 #[.string S] w fun e w'=>e=.returned (.tuple #[.int .i32 0,.bool false])/\w'=w):=fun w=>by
  refine(a3a S w).mono ?_;rintro e w'⟨⟨r',h,he⟩|⟨h,he⟩,hw⟩
  ·rw[E0]at h;cases h
  ·exact⟨he,hw⟩
 have HX:=a8 (a8V S R ⟨#[35,120]⟩ hS);have HM:=a8 (a82 R D9 w);clear D1 E0 hS D9;go_enter Tryz.func229,Tryz.ntmps229
 go_wp2_with fail
 refine(HN.out _).mono ?_;rintro e w'⟨rfl,hw⟩;rw[hw];clear hw
 go_wp2_with fail
 refine(HX.out _).mono ?_;rintro e w'⟨rfl,hw⟩;rw[hw];clear hw
 go_wp2_with fail
 refine HM.out.mono ?_;rintro e w1⟨⟨hl,rfl⟩|⟨n,hl,rfl⟩,D0⟩
 ·have HL:=a8 hl
  clear hl;go_wp2
  go_ret2
  refine⟨.inr ⟨?_,rfl⟩,D0⟩;rw[D2.out,HL.out]
 ·have HL:=a8 hl
  clear hl;cases hx:P9 (n:Int)with
  |false =>
   have D3:=a8 hx;clear hx;go_wp2
   go_ret2
   refine⟨.inr ⟨?_,rfl⟩,D0⟩;rw[D2.out,HL.out];dsimp only;rw[D3.out,f6 (by simp)]
  |true =>
   have D3:=a8 hx;have HB:=a8 (a5b (n:Int) (a3C hx) w1);clear hx
   go_wp2_with fail
   refine HB.out.mono ?_;rintro e w2⟨v,rfl,ho,E1⟩;have HO:=a8 (ho.mono D0.size);have E3:=D0.trans (E1.mono D0.size);clear ho D0 E1;go_wp2
   go_ret2
   refine⟨.inl ⟨_,v,?_,rfl,HO.out⟩,E3⟩;rw[D2.out,HL.out];dsimp only;rw[D3.out,g8 rfl]
theorem b4E(S R:ByteArray)(hS:S.data.toList=[35]++R.data.toList)(hX:R.data.toList.head?≠some 120)(E2:S.size<=100000)(w:World):Calls Tryz.prog 229 #[.string S] w fun e w'=>a20 S w.heap.size e w'/\Below w.heap.size w w':=by
 have D9:R.size<=100000:=by
  have:=congrArg List.length hS;rw[e8,<-j9,<-j9]at this;omega
 have E0:V2 S.data.toList=none:=a5H (by rw[hS];rfl)
 have D1:X1 S.data.toList=a3w 10 R.data.toList:=by rw[hS];exact b0n _ hX
 rw[b1n 10 (by omega)]at D1
 have D2:=a8 D1
 have HN:Hid (∀w,Calls Tryz.prog 238 #[.string S] w fun e w'=>e=.returned (.tuple #[.int .i32 0,.bool false])/\w'=w):=fun w=>by
  refine(a3a S w).mono ?_;rintro e w'⟨⟨r',h,he⟩|⟨h,he⟩,hw⟩
  ·rw[E0]at h;cases h
  ·exact⟨he,hw⟩
 have HX:=a8 (a1T S ⟨#[35,120]⟩ (by
  rintro⟨t,ht⟩;rw[hS]at ht
  have h2:R.data.toList=120::t:=by
   have:(35:UInt8)::R.data.toList=35::120::t:=ht
   injection this
  exact hX (by rw[h2];rfl)))
 have HD:=a8 (a8V S R ⟨#[35]⟩ hS);clear hX;have HM:=a8 (a83 R D9 w);clear D1 E0 hS D9;go_enter Tryz.func229,Tryz.ntmps229
 go_wp2_with fail
 refine(HN.out _).mono ?_;rintro e w'⟨rfl,hw⟩;rw[hw];clear hw
 go_wp2_with fail
 refine(HX.out _).mono ?_;rintro e w'⟨rfl,hw⟩;rw[hw];clear hw
 go_wp2_with fail
 refine(HD.out _).mono ?_;rintro e w'⟨rfl,hw⟩;rw[hw];clear hw
 go_wp2_with fail
 refine HM.out.mono ?_;rintro e w1⟨⟨hl,rfl⟩|⟨n,hl,rfl⟩,D0⟩
 ·have HL:=a8 hl
  clear hl;go_wp2
  go_ret2
  refine⟨.inr ⟨?_,rfl⟩,D0⟩;rw[D2.out,HL.out]
 ·have HL:=a8 hl
  clear hl;cases hx:P9 (n:Int)with
  |false =>
   have D3:=a8 hx;clear hx;go_wp2
   go_ret2
   refine⟨.inr ⟨?_,rfl⟩,D0⟩;rw[D2.out,HL.out];dsimp only;rw[D3.out,f6 (by simp)]
  |true =>
   have D3:=a8 hx;have HB:=a8 (a5b (n:Int) (a3C hx) w1);clear hx
   go_wp2_with fail
   refine HB.out.mono ?_;rintro e w2⟨v,rfl,ho,E1⟩;have HO:=a8 (ho.mono D0.size);have E3:=D0.trans (E1.mono D0.size);clear ho D0 E1;go_wp2
   go_ret2
   refine⟨.inl ⟨_,v,?_,rfl,HO.out⟩,E3⟩;rw[D2.out,HL.out];dsimp only;rw[D3.out,g8 rfl]
theorem b2l(S:ByteArray)(h1:V2 S.data.toList=none)(h2:S.data.toList.head?≠some 35)(w:World):Calls Tryz.prog 229 #[.string S] w fun e w'=>a20 S w.heap.size e w'/\Below w.heap.size w w':=by
 have HR:=a8 (b2i h1 h2)
 have HN:Hid (∀w,Calls Tryz.prog 238 #[.string S] w fun e w'=>e=.returned (.tuple #[.int .i32 0,.bool false])/\w'=w):=fun w=>by
  refine(a3a S w).mono ?_;rintro e w'⟨⟨r',h,he⟩|⟨h,he⟩,hw⟩
  ·rw[h1]at h;cases h
  ·exact⟨he,hw⟩
 have HX:=a8 (a1T S ⟨#[35,120]⟩ (by rintro⟨t,ht⟩;rw[ht]at h2;exact h2 rfl))
 have HD:=a8 (a1T S ⟨#[35]⟩ (by rintro⟨t,ht⟩;rw[ht]at h2;exact h2 rfl))
 clear h1 h2;go_enter Tryz.func229,Tryz.ntmps229
 go_wp2_with fail
 refine(HN.out _).mono ?_;rintro e w'⟨rfl,hw⟩;rw[hw];clear hw
 go_wp2_with fail
 refine(HX.out _).mono ?_;rintro e w'⟨rfl,hw⟩;rw[hw];clear hw
 go_wp2_with fail
 refine(HD.out _).mono ?_;rintro e w'⟨rfl,hw⟩;rw[hw];clear hw;go_wp2
 go_ret2
 exact⟨.inr ⟨HR.out,rfl⟩,b8 _ _⟩
theorem a7V(S:ByteArray)(D0:S.size<=100000)(w:World):Calls Tryz.prog 229 #[.string S] w fun e w'=>a20 S w.heap.size e w'/\Below w.heap.size w w':=by
 cases hn:V2 S.data.toList with
 |some r=>exact b2m S r hn w
 |none =>
  by_cases D1:S.data.toList.head? = some 35
  ·obtain⟨t,ht⟩ : ∃t,S.data.toList=35::t:=by
    cases hs:S.data.toList with
    |nil=>rw[hs]at D1;cases D1
    |cons c t =>
     rw[hs]at D1
     injection D1 with h
     exact⟨t,by rw[h]⟩
   by_cases hx:t.head? = some 120
   ·obtain⟨u,hu⟩ : ∃u,t=120::u:=by
     cases t with
     |nil=>cases hx
     |cons c u =>
      injection hx with h
      exact⟨u,by rw[h]⟩
    exact b4F S ⟨u.toArray⟩ (by rw[ht,hu];rfl) D0 w
   ·exact b4E S ⟨t.toArray⟩ (by rw[ht];rfl) hx D0 w
  ·exact b2l S hn D1 w
open Classical in
theorem b70{s:List UInt8}(h:a1q s=false):¬txt s:=fun h'=>by rw[U6.2 h']at h;cases h
def Ans(o:Option (List UInt8))(e:Ending):Prop :=
 (∃Y:ByteArray,o=some Y.data.toList/\e=.returned (.tuple #[.string Y,.bool true]))∨(o=none/\e=.returned (.tuple #[.string ⟨#[]⟩,.bool false]))
theorem Ans.same{o:Option (List UInt8)}{e e':Ending}(h:Ans o e)(h':Ans o e'):e=e':=by
 rcases h with⟨Y,h1,rfl⟩|⟨h1,rfl⟩
 ·rcases h' with⟨Z,h2,rfl⟩|⟨h2,_⟩
  ·rw[h1]at h2
   injection h2 with h2
   rw[G0 h2]
  ·rw[h1]at h2;cases h2
 ·rcases h' with⟨Z,h2,_⟩|⟨_,rfl⟩
  ·rw[h1]at h2;cases h2
  ·rfl
theorem Own.there{w:World}{B:Nat}{v:Value}{l:List UInt8}(h:Own w B v l)(hl:1<=l.length):∃g cap,v=.slice (some ⟨g,0,none⟩) l.length cap/\∀j u,(P6 l)[j]? = some u->w.cell? ((⟨g,0,none⟩ : Addr).add j)=some u:=by
 rcases h with⟨_,rfl⟩|⟨g,cap,e,_,_,_,_,_,h6⟩
 ·simp at hl
 ·exact⟨g,cap,e,fun j u hu=>by rw[a18,F5];exact h6 j u hu⟩
def b7E(w:World)(s:List UInt8)(r m v:Value)(wr:World):Prop :=
 ∃(R:ByteArray) (M:Bool) (O:List UInt8),r=.string R/\m=.bool M/\Own wr w.heap.size v O/\Below w.heap.size w wr/\O.length+4*R.size<=4*s.length/\60∉R.data.toList /\
  ((M=true/\M9 false s=(M9 false (38::R.data.toList)).map (O++·))∨(M=false/\M9 false s=some O))
def b9V:Value->Value->Nat
 | .string R,.bool true=>R.size+1
 |_,_=>0
theorem a2H(o:Option (List UInt8))(a b:List UInt8):(o.map (b++·)).map (a++·)=o.map ((a++b)++·):=by cases o<;>simp
theorem a3Z(S:ByteArray)(N7:S.size<=100000)(w:World)(hT:a7k w):Calls Tryz.prog 203 #[.string S] w fun e w'=>Ans (a30 S.data.toList) e/\Below w.heap.size w w':=by
 obtain⟨c,W,N8,E0,L3,E1,L4,L5,_⟩:=a0M S (by omega) w
 have E7:Hid (Calls Tryz.prog 41 #[.slice (some ⟨w.heap.size,0,none⟩) S.size c] W fun e w'=>e=.returned (.bool (a1q S.data.toList))/\Below W.heap.size W w'):=by
  have h:=a6e (some ⟨w.heap.size,0,none⟩) c S.data.toList W (hT.below hT.two E1) (Y1 L3 E0) (by rw[<-j9];exact L4) L5 (by rw[<-j9];omega)
  rw[<-j9]at h;exact h.mono fun e w' ⟨h1,h2⟩=>⟨a1P h1,h2⟩
 obtain⟨Z,hZ⟩ : ∃Z,a30 S.data.toList=Z:=⟨_,rfl⟩;rw[hZ];have HZ:=a8 hZ;clear E0 L3 L4 L5 hT hZ;cases ht:a1q S.data.toList with
 |false =>
  rw[ht]at E7;have hN:none=Z:=by rw[<-HZ.out];exact(b9U (b70 ht)).symm
  subst hN;clear ht HZ;go_enter Tryz.func203,Tryz.ntmps203
  go_wp2_with fail
  refine E7.out.mono ?_;rintro e w1⟨rfl,E8⟩;go_wp2
  go_ret2
  exact⟨.inr ⟨rfl,rfl⟩,E1.trans (E8.mono E1.size)⟩
 |true =>
  rw[ht]at E7;have E2:Hid (M9 false S.data.toList=Z):=by rw[Hid,<-HZ.out];exact(b8n (U6.1 ht)).symm
  clear ht;have G1:=a8 (b8L 60 S);by_cases G0:(60:UInt8)∈S.data.toList
  ·rw[i6 G0]at G1
   have hN:none=Z:=by rw[<-E2.out];exact(b2D G0).symm
   subst hN;clear HZ E2 G0;go_enter Tryz.func203,Tryz.ntmps203
   go_wp2_with fail
   refine E7.out.mono ?_;rintro e w1⟨rfl,E8⟩
   go_wp2_with fail
   refine(G1.out _).mono ?_;rintro e w2⟨rfl,hw⟩;rw[hw];go_wp2
   go_ret2
   exact⟨.inr ⟨rfl,rfl⟩,E1.trans (E8.mono E1.size)⟩
  ·rw[f8 G0]at G1
   have L6:=a8 G0;clear HZ G0;go_enter Tryz.func203,Tryz.ntmps203
   go_wp2_with fail
   refine E7.out.mono ?_;rintro e w1⟨rfl,E8⟩;have J5:=E1.trans (E8.mono E1.size);clear N8 E7 E1 E8
   go_wp2_with fail
   refine(G1.out _).mono ?_;rintro e w2⟨rfl,hw⟩;rw[hw];clear hw G1
   go_wp2_with fail
   refine(a5U 38 S (by omega) w1).mono ?_
   rintro e w3⟨D2,L7⟩;have J1:=J5.trans (L7.mono J5.size);clear J5 L7
   obtain⟨P,R,M,rfl,D0⟩ : ∃(P R:ByteArray) (M:Bool),e=.returned (.tuple #[.string P,.string R,.bool M])/\Hid (P.size+R.size<=S.size/\60∉R.data.toList/\((M=true/\M9 false S.data.toList=(M9 false (38::R.data.toList)).map (P.data.toList++·))∨(M=false/\M9 false S.data.toList=some P.data.toList))):=by
    rcases D2 with⟨h1,rfl⟩|⟨P,R,h1,h2,rfl⟩
    ·exact⟨S,⟨#[]⟩,false,rfl,by show S.size+0<=S.size;omega,by simp,.inr ⟨rfl,b3y L6.out h1⟩⟩
    ·have D1:=L6.out
     rw[h1]at D1;simp only[D6,q8,not_or]at D1;exact⟨P,R,true,rfl,by rw[j9 S,h1,e8,i8,<-j9,<-j9];omega,D1.2.2,.inl ⟨rfl,by rw[h1,a3n D1.1 h2]⟩⟩
   have P9:P.size<=100000:=by have:=D0.out.1;omega
   obtain⟨c2,W2,J6,_,_,G4,_,_,E3⟩:=a0M P (by omega) w3
   have L8:Hid (b7E w S.data.toList (.string R) (.bool M) (.slice (some ⟨w3.heap.size,0,none⟩) P.size c2) W2):=⟨R,M,P.data.toList,rfl,rfl,E3.mono J1.size,J1.trans (G4.mono J1.size),by rw[<-j9,<-j9];have:=D0.out.1;omega,D0.out.2.1,D0.out.2.2⟩
   clear D2 D0 E3 G4 J1;go_wp2;clear J6
   go_loopw [5,6,7] (b7E w S.data.toList) (fun r m _ _=>b9V r m)
   case atStart=>exact L8.out
   case round =>
    obtain⟨R,M,O,rfl,rfl,hO,hb,J7,D1,G5⟩:=hrel;rw[<-j9]at J7;have HO:=a8 hO;have HB:=a8 hb;have L9:=a8 D1;have M0:=hb.size;have N9:R.size<=100000:=by omega
    have R0:O.length<=400000:=by omega
    clear hO hb D1 L8;rcases G5 with⟨rfl,G6⟩|⟨rfl,G6⟩
    ·have J2:=a8 G6
     clear G6;have J8:=a8 (a5U 59 R (by omega) wr)
     go_wp2_with fail
     refine J8.out.mono ?_;rintro e x1⟨⟨h1,rfl⟩|⟨X,Q,h1,h2,rfl⟩,G7⟩
     ·have hN:none=Z:=by
       rw[<-E2.out,J2.out,b03 h1];rfl
      subst hN;have D3:=HB.out.trans (G7.mono M0);have HM:=a8 (a7V R N9 x1);clear h1 E2 J2 J8 G7
      go_wp2_with fail
      refine HM.out.mono ?_;rintro e x2⟨⟨y,v,_,rfl,_⟩|⟨_,rfl⟩,E4⟩
      ·go_wp2
       go_ret2
       exact⟨.inr ⟨rfl,rfl⟩,D3.trans (E4.mono D3.size)⟩
      ·go_wp2
       go_ret2
       exact⟨.inr ⟨rfl,rfl⟩,D3.trans (E4.mono D3.size)⟩
     ·have R1:R.size=X.size+1+Q.size:=by rw[j9,h1,e8,i8,<-j9,<-j9];omega
      have D3:=HB.out.trans (G7.mono M0);have M1:=a8 (HO.out.later (G7.mono (c9 _)));have HM:=a8 (a7V X (by omega) x1)
      have E5:=J2.out;rw[h1,b3w h2]at E5;have D9:=a8 E5;have D1:=L9.out;rw[h1]at D1;simp only[D6,q8,not_or]at D1;have G8:=a8 D1.2.2;clear E5 D1 h1 h2 J2 J8 G7 HO HB L9
      go_wp2_with fail
      refine HM.out.mono ?_;rintro e x2⟨⟨y,v,hy,rfl,M3⟩|⟨hy,rfl⟩,E4⟩
      ·have M4:=a8K hy
       have E6:=D9.out;rw[hy]at E6;have G9:=a8 E6;have J9:=D3.trans (E4.mono D3.size);have M5:=a8 (M1.out.later (E4.mono (c9 _)));have M6:=a8 M3;have M7:=a8 (a5U 38 Q (by omega) x2)
       clear E6 hy M3 D9 HM E4 M1 D3
       go_wp2_with fail
       refine M7.out.mono ?_;rintro e x3⟨D2,J3⟩;have J4:=J9.trans (J3.mono J9.size);have L0:=J4.size;have P0:=a8 (M5.out.later (J3.mono (c9 _)));obtain⟨g,cap,rfl,M8⟩:=(M6.out.later (J3.mono (c9 _))).there M4.1;have P1:=a8 M8
       obtain⟨P,R2,M2,rfl,D0⟩ : ∃(P R2:ByteArray) (M2:Bool),e=.returned (.tuple #[.string P,.string R2,.bool M2])/\Hid (P.size+R2.size<=Q.size/\(M2=true->R2.size<Q.size)/\60∉R2.data.toList/\((M2=true/\M9 false S.data.toList=(M9 false (38::R2.data.toList)).map (((O++y)++P.data.toList)++·))∨(M2=false/\M9 false S.data.toList=some ((O++y)++P.data.toList)))):=by
        have h5:=G9.out;rcases D2 with⟨h1,rfl⟩|⟨P,R2,h1,h2,rfl⟩
        ·refine⟨Q,⟨#[]⟩,false,rfl,by show Q.size+0<=Q.size;omega,fun h=>(by cases h),by simp,.inr ⟨rfl,?_⟩⟩
         rw[h5,b3y G8.out h1];simp
        ·have D1:=G8.out
         rw[h1]at D1;simp only[D6,q8,not_or]at D1;have R3:Q.size=P.size+1+R2.size:=by rw[j9,h1,e8,i8,<-j9,<-j9];omega
         refine⟨P,R2,true,rfl,by omega,fun _=>by omega,D1.2.2,.inl ⟨rfl,?_⟩⟩
         rw[h5,h1,a3n D1.1 h2,a2H,a2H]
       obtain⟨n,hn⟩ : ∃n,y.length=n:=⟨_,rfl⟩;rw[hn]at M4 ⊢;have HN:=a8 hn;have R4:=D0.out.1;have P2:O.length+n<=1000000000000:=by omega
       clear D2 G9 M7 J3 J9 M5 M6 M8 hn;have P3:(O++y).length+P.size<=1000000000000:=by rw[e8,HN.out];omega
       go_wp2_with (first|(at_builtin;refine a4E rfl (.tmp 53) (.tmp 54) rfl w.heap.size O u7 rfl P0.out L0 ⟨g,0,none⟩ n cap y rfl HN.out P1.out P2 ?_;intro v1 w1' N0 L1)|(at_builtin;refine a4D rfl (.tmp 55) (.tmp 56) rfl w.heap.size (O++y) v1 rfl N0 (J4.trans L1).size P rfl P3 ?_;intro v2 w2' N1 N2))
       have N3:=J4.trans L1;have P4:=N3.trans N2;have P5:=a8 N1
       have P6:Hid (b7E w S.data.toList (.string R2) (.bool M2) v2 w2'):=⟨R2,M2,(O++y)++P.data.toList,rfl,rfl,P5.out,P4,by
        rw[e8,e8,HN.out,<-j9,<-j9];omega,D0.out.2.2.1,D0.out.2.2.2⟩
       have N4:b9V (.string R2) (.bool M2)<b9V (.string R) (.bool true):=by
        cases M2 with
        |false=>show 0<R.size+1;omega
        |true=>show R2.size+1<R.size+1;have:=D0.out.2.1 rfl;omega
       have P7:=a8 N4;clear N1 N2 N3 N4 N0 L1 J4;go_wp2
       go_roundw
       case rel=>exact P6.out
       case measure=>exact P7.out
      ·have hN:none=Z:=by
        have h5:=D9.out;rw[hy]at h5;rw[<-E2.out,h5];rfl
       subst hN;clear hy D9 E2 HM;go_wp2
       go_ret2
       exact⟨.inr ⟨rfl,rfl⟩,D3.trans (E4.mono D3.size)⟩
    ·obtain⟨A',cap',hv,R5,R6,N5⟩:=HO.out.lies
     have L2:=I4 cap' N5;obtain⟨Y,hY⟩ : ∃Y:ByteArray,⟨O.toArray⟩=Y:=⟨_,rfl⟩;have N6:some Y.data.toList=Z:=by rw[<-E2.out,G6,<-hY]
     have P8:=a8 N6;rw[hY]at L2;generalize O.length=n at *;subst hv;clear N5 G6 N6 hY HO E2;go_wp2
     go_ret2
     exact⟨.inl ⟨Y,P8.out.symm,rfl⟩,HB.out⟩
end Go.Proofs.YtlgcigmolfhamaaGreatDoor
