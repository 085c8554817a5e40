/-
  The document's own answer for a reference. Conditions: the text is not too long.
  The document's own text with its references' characters. Conditions: the text is not too long.
-/
import Derived.Test.YtlgcigmolfhamaaGreatDoorK25
import Derived.Test.YtlgcigmolfhamaaGreatDoorK00
namespace Go.Proofs.YtlgcigmolfhamaaGreatDoor
open Go.RowKit
set_option linter.unusedVariables false
set_option maxHeartbeats 8000000
set_option maxRecDepth 100000
def a0F(S:ByteArray)(e:Ending):Prop :=
 (∃Y:ByteArray,X1 S.data.toList=some Y.data.toList/\e=.returned (.tuple #[.string Y,.bool true]))∨(X1 S.data.toList=none/\e=.returned (.tuple #[.string ⟨#[]⟩,.bool false]))
theorem a2j{S:ByteArray}(h:V2 S.data.toList=none):(S.toList == [108,116])=false/\(S.toList == [103,116])=false/\(S.toList == [97,109,112])=false/\(S.toList == [97,112,111,115])=false/\(S.toList == [113,117,111,116])=false:=by
 unfold V2 at h
 split at h
 ·cases h
 split at h
 ·cases h
 split at h
 ·cases h
 split at h
 ·cases h
 split at h
 ·cases h
 ·next a b c d e =>
  refine⟨?_,?_,?_,?_,?_⟩<;>rw[a1u,e9]
  ·exact a
  ·exact b
  ·exact c
  ·exact d
  ·exact e
theorem a97(S:ByteArray)(r:Int)(hr:V2 S.data.toList=some r)(w:World):Calls Tryz.prog 213 #[.string S] w fun e w'=>a0F S e/\Below w.heap.size w w':=by
 unfold V2 at hr
 split at hr
 ·next e =>
  obtain rfl:S=⟨#[108,116]⟩:=G0 e;clear hr e;go_enter Tryz.func213,Tryz.ntmps213;go_wp2
  go_ret2
  exact⟨.inl ⟨⟨#[60]⟩,by decide,rfl⟩,b8 _ _⟩
 split at hr
 ·next e =>
  obtain rfl:S=⟨#[103,116]⟩:=G0 e;clear hr e;go_enter Tryz.func213,Tryz.ntmps213;go_wp2
  go_ret2
  exact⟨.inl ⟨⟨#[62]⟩,by decide,rfl⟩,b8 _ _⟩
 split at hr
 ·next e =>
  obtain rfl:S=⟨#[97,109,112]⟩:=G0 e;clear hr e;go_enter Tryz.func213,Tryz.ntmps213;go_wp2
  go_ret2
  exact⟨.inl ⟨⟨#[38]⟩,by decide,rfl⟩,b8 _ _⟩
 split at hr
 ·next e =>
  obtain rfl:S=⟨#[97,112,111,115]⟩:=G0 e;clear hr e;go_enter Tryz.func213,Tryz.ntmps213;go_wp2
  go_ret2
  exact⟨.inl ⟨⟨#[39]⟩,by decide,rfl⟩,b8 _ _⟩
 split at hr
 ·next e =>
  obtain rfl:S=⟨#[113,117,111,116]⟩:=G0 e;clear hr e;go_enter Tryz.func213,Tryz.ntmps213;go_wp2
  go_ret2
  exact⟨.inl ⟨⟨#[34]⟩,by decide,rfl⟩,b8 _ _⟩
 ·cases hr
theorem a3L(S:ByteArray){c:UInt8}{t:List UInt8}(h:S.data.toList=c::t)(w:World):(Instr.index 9 (.string S) (.int .i64 0)).run Tryz.prog w=.ok (.int .u8 (c.toNat:Int)) w:=by
 have hl:0<S.data.toList.length:=by rw[h];simp
 have:=G7 S hl w;have e:S.data.toList[0]=c:=by simp[h]
 rw[e]at this;simpa using this
theorem a5o(S:ByteArray){c d:UInt8}{t:List UInt8}(h:S.data.toList=c::d::t)(w:World):(Instr.index 9 (.string S) (.int .i64 1)).run Tryz.prog w=.ok (.int .u8 (d.toNat:Int)) w:=by
 have hl:1<S.data.toList.length:=by rw[h];simp
 have:=G7 S hl w;have e:S.data.toList[1]=d:=by simp[h]
 rw[e]at this;simpa using this
theorem a8B(S:ByteArray)(h1:V2 S.data.toList=none)(h2:S.size<2)(w:World):Calls Tryz.prog 213 #[.string S] w fun e w'=>a0F S e/\Below w.heap.size w w':=by
 have HR:Hid (X1 S.data.toList=none):=by
  unfold Hid;by_cases D0:S.data.toList.head? = some 35
  ·have e:S.data.toList=[35]:=by
    rw[j9]at h2;cases hs:S.data.toList with
    |nil=>rw[hs]at D0;cases D0
    |cons c t =>
     rw[hs]at D0 h2
     injection D0 with h
     have ht:t=[]:=j8 (by rw[i8]at h2;omega)
     rw[h,ht]
   rw[e];decide
  ·exact b2i h1 D0
 obtain⟨b1,b2,b3,b4,b5⟩:=a2j h1;have hz:(S.size:Int)<2:=by omega
 clear h1 h2;go_enter Tryz.func213,Tryz.ntmps213;go_wp2
 go_ret2
 exact⟨.inr ⟨HR.out,rfl⟩,b8 _ _⟩
theorem a8C(S:ByteArray)(c d:UInt8)(t:List UInt8)(hS:S.data.toList=c::d::t)(h1:V2 S.data.toList=none)(h2:c≠35)(D0:S.size<=100000)(w:World):Calls Tryz.prog 213 #[.string S] w fun e w'=>a0F S e/\Below w.heap.size w w':=by
 have HR:Hid (X1 S.data.toList=none):=b2i h1 (by rw[hS];intro h;injection h with h;exact h2 h)
 obtain⟨b1,b2,b3,b4,b5⟩:=a2j h1;have D1:=a3L S hS;have hn:2<=S.size:=by rw[j9,hS];simp
 have hz:¬(S.size:Int)<2:=by omega
 have D2:=f8 hz;have hc:¬(c.toNat:Int)=35:=fun e=>h2 (F1.1 (show _=35 by omega))
 clear h1 hS h2;generalize c.toNat=x at *;have D3:((x:Int) != 35)=true:=by simpa using hc
 go_enter Tryz.func213,Tryz.ntmps213;go_wp2
 go_ret2
 exact⟨.inr ⟨HR.out,rfl⟩,b8 _ _⟩
def a5w(base:Nat)(w:World)(s R:List UInt8)(i v:Value)(wr:World):Prop :=
 ∃k n:Nat,k<=s.length/\i=.int .i64 (k:Int)/\v=.int .i32 (n:Int)/\n<=40000000/\a5x base 0 R=a5x base n (s.drop k)/\wr=w
theorem b68{base:Nat}(hb:base<=16){c:UInt8}:(dig base c=none/\dz base c = -1)∨(∃d:Nat,dig base c=some d/\dz base c=(d:Int)/\d<base):=by
 rw[b2I hb];unfold dz;by_cases h:dv c<base
 ·rw[g8 h,g8 h];exact .inr ⟨dv c,rfl,rfl,h⟩
 ·rw[f6 h,f6 h];exact .inl ⟨rfl,rfl⟩
theorem b1j(r:Int)(W:World):(convert 22 9 (.slice (some ⟨W.heap.size,0,none⟩) (C3 r).length (C3 r).length)).run Tryz.prog (W.alloc (.cells (P6 (C3 r)).toArray 5))=.ok (.string ⟨(C3 r).toArray⟩) (W.alloc (.cells (P6 (C3 r)).toArray 5)) :=
 I4 (B:=W.heap.size+1) (bs:=C3 r) (C3 r).length (fun _=>⟨W.heap.size,0,rfl,by omega,fun j hj=>by rw[F5,World.cell?_alloc_mark];simp⟩)
theorem b1T(S:ByteArray)(d:UInt8)(t:List UInt8)(hS:S.data.toList=35::d::t)(hX:d≠120)(E5:S.size<=100000)(w:World):Calls Tryz.prog 213 #[.string S] w fun e w'=>a0F S e/\Below w.heap.size w w':=by
 have G8:V2 S.data.toList=none:=a5H (by rw[hS];rfl)
 have E6:∀w,(Instr.index 9 (.string S) (.int .i64 0)).run Tryz.prog w=.ok (.int .u8 35) w:=a3L S hS;have E7:=a5o S hS;have E8:¬(d.toNat:Int)=120:=fun e=>hX (F1.1 (show _=120 by omega))
 have L4:((d.toNat:Int)==120)=false:=by simpa using E8
 have J6:((1:Int)==(S.size:Int))=false:=by
  have:S.size=t.length+2:=by rw[j9,hS];simp
  rw[e9];omega
 obtain⟨Q,hQ⟩ : ∃Q,Q=d::t:=⟨_,rfl⟩;obtain⟨b1,b2,b3,b4,b5⟩:=a2j G8;obtain⟨N,hN⟩ : ∃N,S.size=N:=⟨_,rfl⟩;have E4:S.data.toList.length=N:=by rw[<-j9];exact hN
 have D9:=a8 E4;rw[hN]at E5 J6;have hn:2<=N:=by rw[<-E4,hS];simp
 have hz:¬(N:Int)<2:=by omega
 have L5:=f8 hz;have G0:X1 S.data.toList=a3w 10 Q:=by rw[hS,hQ];exact b0n _ (by intro h;injection h with h;exact hX h)
 rw[b1m 10 (by omega),f6 (by rw[hQ];simp)]at G0
 have G1:=a8 G0;have J7:Hid (a5w 10 w S.data.toList Q (.int .i64 1) (.int .i32 0) w):=⟨1,0,by rw[E4];omega,rfl,rfl,by omega,by rw[hS,hQ];rfl,rfl⟩
 clear G0 hS G8 E4 hQ hX;go_enter Tryz.func213,Tryz.ntmps213;go_wp2;clear E6 E7
 go_loopw [4,6] (a5w 10 w S.data.toList Q) (fun i _ _=>N-(intOf i).toNat)
 case atStart=>exact J7.out
 case round =>
  obtain⟨k,n,hk,rfl,rfl,J8,E0,rfl⟩:=hrel;rw[D9.out]at hk;have D0:=a8 E0;clear E0;by_cases G4:k<N
  ·have E1:k<S.data.toList.length:=by rw[D9.out];exact G4
   have J9:=G7 S E1;have G9:S.data.toList.drop k=S.data.toList[k]::S.data.toList.drop (k+1):=B8 E1;have D3:=a8 G9;have D2:=a8 (a31 10 (by omega) S.data.toList[k])
   have E8:=b68 (base:=10) (by omega) (c:=S.data.toList[k])
   have J1:(k:Int)<(N:Int):=by omega
   clear G9;generalize S.data.toList[k]=y at *;obtain⟨x,hx⟩ : ∃x,y.toNat=x:=⟨_,rfl⟩;rw[hx]at D2 J9;clear hx;have hB:((10:Nat):Int)=10:=rfl;rw[hB]at D2;clear hB;rcases E8 with⟨h1,h2⟩|⟨d,h1,h2,h3⟩
   ·rw[h2]at D2
    have D1:Hid (a5x 10 0 Q=none):=by
     have h4:=D0.out;rw[D3.out,a0A,h1]at h4;exact h4
    clear h1 h2 D0 D3 E1
    go_wp2_with fail
    refine(D2.out _).mono ?_;rintro e w'⟨rfl,hw⟩;rw[hw];clear hw;go_wp2
    go_ret2
    refine⟨.inr ⟨?_,rfl⟩,b8 _ _⟩;rw[G1.out,D1.out]
   ·rw[h2]at D2
    have L0:¬(d:Int)<0:=by omega
    have L6:=f8 L0;by_cases E2:n<2097152
    ·have G5:Hid (a5w 10 wr S.data.toList Q (.int .i64 ((k+1:Nat):Int)) (.int .i32 ((n*10+d:Nat):Int)) wr):=⟨k+1,n*10+d,by rw[D9.out];exact G4,rfl,rfl,by omega,by
      have h4:=D0.out;rw[D3.out,a0A,h1]at h4;dsimp only at h4;rw[g8 E2]at h4;exact h4,rfl⟩
     have J2:(n:Int)<2097152:=by omega
     have E3:((n*10+d:Nat):Int)=(n:Int)*10+(d:Int):=by omega
     have HV:=a8 E3;clear h1 h2 D0 D3 E1 E3
     go_wp2_with fail
     refine(D2.out _).mono ?_;rintro e w'⟨rfl,hw⟩;rw[hw];clear hw;go_wp2
     go_roundw
     case rel=>rw[<-HV.out];exact(show Value.int .i64 ((k+1:Nat):Int)=_ by go_num) ▸ G5.out
     case measure=>simp[intOf];omega
    ·have G5:Hid (a5w 10 wr S.data.toList Q (.int .i64 ((k+1:Nat):Int)) (.int .i32 (n:Int)) wr):=⟨k+1,n,by rw[D9.out];exact G4,rfl,rfl,J8,by
      have h4:=D0.out;rw[D3.out,a0A,h1]at h4;dsimp only at h4;rw[f6 E2]at h4;exact h4,rfl⟩
     have J2:¬(n:Int)<2097152:=by omega
     have L1:=f8 J2;clear h1 h2 D0 D3 E1
     go_wp2_with fail
     refine(D2.out _).mono ?_;rintro e w'⟨rfl,hw⟩;rw[hw];clear hw;go_wp2
     go_roundw
     case rel=>exact(show Value.int .i64 ((k+1:Nat):Int)=_ by go_num) ▸ G5.out
     case measure=>simp[intOf];omega
  ·have J1:¬(k:Int)<(N:Int):=by omega
   have L2:=f8 J1
   have D1:Hid (a5x 10 0 Q=some n):=by
    have h4:=D0.out;rw[F9 (by rw[D9.out];omega)]at h4
    exact h4
   have HX:=a8 (a3G (n:Int));clear D0;cases hx:P9 (n:Int)with
   |false =>
    rw[hx]at HX;have G6:=a8 hx;clear hx
    go_wp2_with fail
    refine(HX.out _).mono ?_;rintro e w'⟨rfl,hw⟩;rw[<-hw];clear hw;go_wp2
    go_ret2
    refine⟨.inr ⟨?_,rfl⟩,b8 _ _⟩;rw[G1.out,D1.out];dsimp only;rw[G6.out,f6 (by simp)]
   |true =>
    rw[hx]at HX;have G6:=a8 hx;have J3:=a8 (a0B (n:Int) (a3C hx) wr);have J4:=b1j (n:Int) wr;have J5:Hid (Below wr.heap.size wr (wr.alloc (.cells (P6 (C3 (n:Int))).toArray 5))):=(b8 _ _).alloc (c9 _) _;obtain⟨Y,hY⟩ : ∃Y:ByteArray,⟨(C3 (n:Int)).toArray⟩=Y:=⟨_,rfl⟩;have L3:Hid (C3 (n:Int)=Y.data.toList):=by rw[Hid,<-hY]
    rw[hY]at J4;generalize (C3 (n:Int)).length=M at *;obtain⟨W,hW⟩ : ∃W,wr.alloc (.cells (P6 (C3 (n:Int))).toArray 5)=W:=⟨_,rfl⟩;rw[hW]at J4 J5 J3;clear hx hY hW
    go_wp2_with fail
    refine(HX.out _).mono ?_;rintro e w'⟨rfl,hw⟩;rw[<-hw];clear hw
    go_wp2_with fail
    refine J3.out.mono ?_;rintro e w'⟨rfl,hw⟩;rw[<-hw];clear hw;go_wp2
    go_ret2
    refine⟨.inl ⟨Y,?_,rfl⟩,J5.out⟩;rw[G1.out,D1.out];dsimp only;rw[G6.out,g8 rfl,L3.out]
theorem b1U(S:ByteArray)(t:List UInt8)(hS:S.data.toList=35::120::t)(hT:t≠[])(E5:S.size<=100000)(w:World):Calls Tryz.prog 213 #[.string S] w fun e w'=>a0F S e/\Below w.heap.size w w':=by
 have G6:V2 S.data.toList=none:=a5H (by rw[hS];rfl)
 have E6:∀w,(Instr.index 9 (.string S) (.int .i64 0)).run Tryz.prog w=.ok (.int .u8 35) w:=a3L S hS;have E7:∀w,(Instr.index 9 (.string S) (.int .i64 1)).run Tryz.prog w=.ok (.int .u8 120) w:=a5o S hS
 have J5:((2:Int)==(S.size:Int))=false:=by
  have h0:0<t.length:=D7.2 hT;have:S.size=t.length+2:=by rw[j9,hS];simp
  rw[e9];omega
 obtain⟨Q,hQ⟩ : ∃Q,Q=t:=⟨_,rfl⟩;obtain⟨b1,b2,b3,b4,b5⟩:=a2j G6;obtain⟨N,hN⟩ : ∃N,S.size=N:=⟨_,rfl⟩;have E4:S.data.toList.length=N:=by rw[<-j9];exact hN
 have D9:=a8 E4;rw[hN]at E5 J5;have hn:2<=N:=by rw[<-E4,hS];simp
 have hz:¬(N:Int)<2:=by omega
 have L4:=f8 hz;have E8:X1 S.data.toList=a3w 16 Q:=by rw[hS,hQ];exact b0o _
 rw[b1m 16 (by omega),f6 (by rw[hQ];exact hT)]at E8
 have G0:=a8 E8;have J6:Hid (a5w 16 w S.data.toList Q (.int .i64 2) (.int .i32 0) w):=⟨2,0,by rw[E4];omega,rfl,rfl,by omega,by rw[hS,hQ];rfl,rfl⟩
 clear E8 hS G6 E4 hQ hT;go_enter Tryz.func213,Tryz.ntmps213;go_wp2;clear E6 E7
 go_loopw [4,6] (a5w 16 w S.data.toList Q) (fun i _ _=>N-(intOf i).toNat)
 case atStart=>exact J6.out
 case round =>
  obtain⟨k,n,hk,rfl,rfl,J7,E0,rfl⟩:=hrel;rw[D9.out]at hk;have D0:=a8 E0;clear E0;by_cases G1:k<N
  ·have E1:k<S.data.toList.length:=by rw[D9.out];exact G1
   have J8:=G7 S E1;have G8:S.data.toList.drop k=S.data.toList[k]::S.data.toList.drop (k+1):=B8 E1;have D3:=a8 G8;have D2:=a8 (a31 16 (by omega) S.data.toList[k])
   have J9:=b68 (base:=16) (by omega) (c:=S.data.toList[k])
   have G9:(k:Int)<(N:Int):=by omega
   clear G8;generalize S.data.toList[k]=y at *;obtain⟨x,hx⟩ : ∃x,y.toNat=x:=⟨_,rfl⟩;rw[hx]at D2 J8;clear hx;have hB:((16:Nat):Int)=16:=rfl;rw[hB]at D2;clear hB;rcases J9 with⟨h1,h2⟩|⟨d,h1,h2,h3⟩
   ·rw[h2]at D2
    have D1:Hid (a5x 16 0 Q=none):=by
     have h4:=D0.out;rw[D3.out,a0A,h1]at h4;exact h4
    clear h1 h2 D0 D3 E1
    go_wp2_with fail
    refine(D2.out _).mono ?_;rintro e w'⟨rfl,hw⟩;rw[hw];clear hw;go_wp2
    go_ret2
    refine⟨.inr ⟨?_,rfl⟩,b8 _ _⟩;rw[G0.out,D1.out]
   ·rw[h2]at D2
    have L0:¬(d:Int)<0:=by omega
    have L5:=f8 L0;by_cases E2:n<2097152
    ·have G4:Hid (a5w 16 wr S.data.toList Q (.int .i64 ((k+1:Nat):Int)) (.int .i32 ((n*16+d:Nat):Int)) wr):=⟨k+1,n*16+d,by rw[D9.out];exact G1,rfl,rfl,by omega,by
      have h4:=D0.out;rw[D3.out,a0A,h1]at h4;dsimp only at h4;rw[g8 E2]at h4;exact h4,rfl⟩
     have J1:(n:Int)<2097152:=by omega
     have E3:((n*16+d:Nat):Int)=(n:Int)*16+(d:Int):=by omega
     have HV:=a8 E3;clear h1 h2 D0 D3 E1 E3
     go_wp2_with fail
     refine(D2.out _).mono ?_;rintro e w'⟨rfl,hw⟩;rw[hw];clear hw;go_wp2
     go_roundw
     case rel=>rw[<-HV.out];exact(show Value.int .i64 ((k+1:Nat):Int)=_ by go_num) ▸ G4.out
     case measure=>simp[intOf];omega
    ·have G4:Hid (a5w 16 wr S.data.toList Q (.int .i64 ((k+1:Nat):Int)) (.int .i32 (n:Int)) wr):=⟨k+1,n,by rw[D9.out];exact G1,rfl,rfl,J7,by
      have h4:=D0.out;rw[D3.out,a0A,h1]at h4;dsimp only at h4;rw[f6 E2]at h4;exact h4,rfl⟩
     have J1:¬(n:Int)<2097152:=by omega
     have L1:=f8 J1;clear h1 h2 D0 D3 E1
     go_wp2_with fail
     refine(D2.out _).mono ?_;rintro e w'⟨rfl,hw⟩;rw[hw];clear hw;go_wp2
     go_roundw
     case rel=>exact(show Value.int .i64 ((k+1:Nat):Int)=_ by go_num) ▸ G4.out
     case measure=>simp[intOf];omega
  ·have G9:¬(k:Int)<(N:Int):=by omega
   have L2:=f8 G9
   have D1:Hid (a5x 16 0 Q=some n):=by
    have h4:=D0.out;rw[F9 (by rw[D9.out];omega)]at h4
    exact h4
   have HX:=a8 (a3G (n:Int));clear D0;cases hx:P9 (n:Int)with
   |false =>
    rw[hx]at HX;have G5:=a8 hx;clear hx
    go_wp2_with fail
    refine(HX.out _).mono ?_;rintro e w'⟨rfl,hw⟩;rw[<-hw];clear hw;go_wp2
    go_ret2
    refine⟨.inr ⟨?_,rfl⟩,b8 _ _⟩;rw[G0.out,D1.out];dsimp only;rw[G5.out,f6 (by simp)]
   |true =>
    rw[hx]at HX;have G5:=a8 hx;have J2:=a8 (a0B (n:Int) (a3C hx) wr);have J3:=b1j (n:Int) wr;have J4:Hid (Below wr.heap.size wr (wr.alloc (.cells (P6 (C3 (n:Int))).toArray 5))):=(b8 _ _).alloc (c9 _) _;obtain⟨Y,hY⟩ : ∃Y:ByteArray,⟨(C3 (n:Int)).toArray⟩=Y:=⟨_,rfl⟩;have L3:Hid (C3 (n:Int)=Y.data.toList):=by rw[Hid,<-hY]
    rw[hY]at J3;generalize (C3 (n:Int)).length=M at *;obtain⟨W,hW⟩ : ∃W,wr.alloc (.cells (P6 (C3 (n:Int))).toArray 5)=W:=⟨_,rfl⟩;rw[hW]at J3 J4 J2;clear hx hY hW
    go_wp2_with fail
    refine(HX.out _).mono ?_;rintro e w'⟨rfl,hw⟩;rw[<-hw];clear hw
    go_wp2_with fail
    refine J2.out.mono ?_;rintro e w'⟨rfl,hw⟩;rw[<-hw];clear hw;go_wp2
    go_ret2
    refine⟨.inl ⟨Y,?_,rfl⟩,J4.out⟩;rw[G0.out,D1.out];dsimp only;rw[G5.out,g8 rfl,L3.out]
theorem b5O(w:World):Calls Tryz.prog 213 #[.string ⟨#[35,120]⟩] w fun e w'=>a0F ⟨#[35,120]⟩ e/\Below w.heap.size w w':=by
 have D0:∀w,(Instr.index 9 (.string ⟨#[35,120]⟩) (.int .i64 0)).run Tryz.prog w=.ok (.int .u8 35) w:=fun w=>by kernel_rfl
 have D1:∀w,(Instr.index 9 (.string ⟨#[35,120]⟩) (.int .i64 1)).run Tryz.prog w=.ok (.int .u8 120) w:=fun w=>by kernel_rfl
 go_enter Tryz.func213,Tryz.ntmps213;go_wp2
 go_ret2
 exact⟨.inr ⟨by decide,rfl⟩,b8 _ _⟩
theorem b57(S:ByteArray)(D0:S.size<=100000)(w:World):Calls Tryz.prog 213 #[.string S] w fun e w'=>a0F S e/\Below w.heap.size w w':=by
 cases hn:V2 S.data.toList with
 |some r=>exact a97 S r hn w
 |none =>
  by_cases h2:S.size<2
  ·exact a8B S hn h2 w
  ·obtain⟨c,d,t,hS⟩ : ∃c d t,S.data.toList=c::d::t:=by
    rw[j9]at h2;cases hs:S.data.toList with
    |nil=>rw[hs]at h2;exact absurd (show(0:Nat)<2 by omega) h2
    |cons c t =>
     cases t with
     |nil=>rw[hs]at h2;exact absurd (show(1:Nat)<2 by omega) h2
     |cons d t=>exact⟨c,d,t,rfl⟩
   by_cases D1:c=35
   ·subst D1
    by_cases hx:d=120
    ·subst hx
     by_cases ht:t=[]
     ·subst ht
      obtain rfl:S=⟨#[35,120]⟩:=G0 hS;exact b5O w
     ·exact b1U S t hS ht D0 w
    ·exact b1T S d t hS hx D0 w
   ·exact a8C S c d t hS hn D1 D0 w
def b9D(w:World)(s:List UInt8)(b:Bool)(v i:Value)(wr:World):Prop :=
 ∃(k:Nat) (O:List UInt8),k<=s.length/\i=.int .i64 (k:Int)/\Own wr w.heap.size v O/\Below w.heap.size w wr/\O.length<=4*k/\M9 b s=(M9 b (s.drop k)).map (O++·)
def b9F(w:World)(s:List UInt8)(k:Nat)(i:Value)(wr:World):Prop :=
 ∃e:Nat,k+1<=e/\e<=s.length/\i=.int .i64 (e:Int)/\59∉(s.take e).drop (k+1)/\wr=w
theorem a4t{s:List UInt8}{k:Nat}(h:k<s.length):s.drop k=s[k]::s.drop (k+1):=B8 h
theorem b80{s:List UInt8}{k e:Nat}(h1:k+1<=e)(h:e<s.length)(hn:59∉(s.take e).drop (k+1))(hc:s[e]≠59):59∉(s.take (e+1)).drop (k+1):=by
 rw[l8 h,List.drop_append_of_le_length (by rw[u0];omega)]
 simp only[D6,r8,not_or];exact⟨hn,Ne.symm hc⟩
theorem b64{s:List UInt8}{k e:Nat}(h0:k<s.length)(hk:s[k]=38)(h1:k+1<=e)(h:e<s.length)(hc:s[e]=59):s.drop k=38::((s.take e).drop (k+1)++59::s.drop (e+1)):=by
 rw[a4t h0,hk]
 congr 1
 have h2:s=s.take e++s.drop e:=(I5 e s).symm
 conv=>lhs;rw[h2]
 rw[List.drop_append_of_le_length (by rw[u0];omega),a4t h,hc]
theorem b3z{b:Bool}{s O y T:List UInt8}(h:M9 b s=(M9 b T).map (O++·)){R:List UInt8}(h2:M9 b T=(M9 b R).map (y++·)):M9 b s=(M9 b R).map ((O++y)++·):=by
 rw[h,h2,a2H]
theorem b8V{b:Bool}{s:List UInt8}{k:Nat}(h:k<s.length)(h1:s[k]≠60)(h2:s[k]≠38):M9 b (s.drop k)=(M9 b (s.drop (k+1))).map ([a0C b s[k]]++·):=by
 rw[a4t h,a8b h1 h2];rfl
theorem a6Z(S:ByteArray)(b:Bool)(L3:S.size<=100000)(w:World):Calls Tryz.prog 179 #[.string S,.bool b] w fun e w'=>Ans (if a1q S.data.toList=true then M9 b S.data.toList else none) e/\Below w.heap.size w w':=by
 obtain⟨c,W,J8,E7,M1,J1,M2,M3,_⟩:=a0M S (by omega) w
 have G5:Hid (Calls Tryz.prog 45 #[.slice (some ⟨w.heap.size,0,none⟩) S.size c] W fun e w'=>e=.returned (.bool (a1q S.data.toList))/\Below W.heap.size W w'):=by
  have h:=a2C (some ⟨w.heap.size,0,none⟩) c S.data.toList W (Y1 M1 E7) (by rw[<-j9];exact M2) M3 (by rw[<-j9];omega)
  rw[<-j9]at h;exact h.mono fun e w' ⟨h1,h2⟩=>⟨a1P h1,h2⟩
 clear E7 M1 M2 M3;cases ht:a1q S.data.toList with
 |false =>
  rw[ht]at G5;rw[f6 (by simp)]
  clear ht;go_enter Tryz.func179,Tryz.ntmps179
  go_wp2_with fail
  refine G5.out.mono ?_;rintro e w1⟨rfl,J9⟩;go_wp2
  go_ret2
  exact⟨.inr ⟨rfl,rfl⟩,J1.trans (J9.mono J1.size)⟩
 |true =>
  rw[ht]at G5;rw[g8 rfl];obtain⟨Z,hZ⟩ : ∃Z,M9 b S.data.toList=Z:=⟨_,rfl⟩;rw[hZ];have HZ:=a8 hZ;obtain⟨N,hN⟩ : ∃N,S.size=N:=⟨_,rfl⟩;have M4:S.data.toList.length=N:=by rw[<-j9];exact hN
  have D0:=a8 M4;rw[hN]at L3 J8 G5;clear ht hZ M4;go_enter Tryz.func179,Tryz.ntmps179
  go_wp2_with fail
  refine G5.out.mono ?_;rintro e w1⟨rfl,J9⟩;have N7:=J1.trans (J9.mono J1.size);clear J8 G5 J1 J9;go_wp2
  go_loopw [6,7] (b9D w S.data.toList b) (fun _ i _=>N-(intOf i).toNat)
  case atStart=>exact⟨0,[],o4 _,rfl,Own.nil _ _,N7,o4 _,by rw[List.drop_zero];cases M9 b S.data.toList<;>simp⟩
  case round =>
   obtain⟨k,O,hk,rfl,hO,hb,R3,M5⟩:=hrel;rw[D0.out]at hk;have HO:=a8 hO;have HB:=a8 hb;have E0:=a8 M5;have E8:=hb.size;clear hO hb M5;by_cases G0:k<N
   ·have E1:k<S.data.toList.length:=by rw[D0.out];exact G0
    have D3:=G7 S E1;have M6:(k:Int)<(N:Int):=by omega
    have J2:O.length+1<=1000000000000:=by omega
    by_cases G1:S.data.toList[k]=60
    ·rw[G1]at D3
     have E2:∀w,(Instr.index 9 (.string S) (.int .i64 (k:Int))).run Tryz.prog w=.ok (.int .u8 60) w:=D3
     have J3:none=Z:=by
      rw[<-HZ.out,E0.out,a4t E1,G1,c0u];rfl
     subst J3;clear D3 G1 HZ E0 E1;go_wp2
     go_ret2
     exact⟨.inr ⟨rfl,rfl⟩,HB.out⟩
    by_cases G6:S.data.toList[k]=38
    ·rw[G6]at D3
     have E2:∀w,(Instr.index 9 (.string S) (.int .i64 (k:Int))).run Tryz.prog w=.ok (.int .u8 38) w:=D3;have L4:=a8 G6;clear D3 G1 G6;go_wp2;clear E2
     go_loopw [9] (b9F wr S.data.toList k) (fun i _=>N-(intOf i).toNat)
     case atStart=>exact⟨k+1,c9 _,by rw[D0.out];exact G0,by go_num,by
      rw[F9 (by rw[u0];omega)];simp,rfl⟩
     case round =>
      obtain⟨e,M7,N8,rfl,M8,rfl⟩:=hrel;rw[D0.out]at N8;have G8:=a8 M8;clear M8;by_cases N0:e<N
      ·have E3:e<S.data.toList.length:=by rw[D0.out];exact N0
       have L5:=G7 S E3;have N1:(e:Int)<(N:Int):=by omega
       by_cases G9:S.data.toList[e]=59
       ·rw[G9]at L5
        have N9:∀w,(Instr.index 9 (.string S) (.int .i64 (e:Int))).run Tryz.prog w=.ok (.int .u8 59) w:=L5;have L6:=b64 E1 L4.out M7 E3 G9;obtain⟨X,hX⟩ : ∃X,S.extract (k+1) e=X:=⟨_,rfl⟩;have L0:X.data.toList=(S.data.toList.take e).drop (k+1):=by rw[<-hX,J5]
        have P0:X.size<=100000:=by rw[j9,L0,B6,u0];omega
        rw[<-L0]at L6;have J4:(59:UInt8)∉X.data.toList:=by rw[L0];exact G8.out
        have L1:Hid (M9 b (S.data.toList.drop k)=match X1 X.data.toList with|none=>none|some y=>(M9 b (S.data.toList.drop (e+1))).map (y++·)):=by
         rw[Hid,L6];exact b3w J4 _
        have L7:=a8 (b57 X P0 wr);have P1:((e:Int)==(N:Int))=false:=by rw[e9];omega
        have R4:(k:Int)+1<=(e:Int):=by omega
        have R5:(e:Int)<=(N:Int):=by omega
        have R6:(0:Int)<=(k:Int)+1:=by omega
        clear L5 G9 L6 L0 J4 G8 E3
        go_wp2_with fail
        refine L7.out.mono ?_;rintro e1 x1⟨⟨Y,hy,rfl⟩|⟨hy,rfl⟩,L2⟩
        ·have P2:=a8K hy
         rw[<-j9]at P2;have J6:=HB.out.trans (L2.mono E8);have L8:=J6.size;have P3:=a8 (HO.out.later (L2.mono (c9 _)));have D9:=L1.out;rw[hy]at D9;have E4:Hid (M9 b S.data.toList=(M9 b (S.data.toList.drop (e+1))).map ((O++Y.data.toList)++·)):=b3z E0.out D9
         have P4:O.length+Y.size<=1000000000000:=by omega
         clear D9 hy L1 L7 L2 HO
         go_wp2_with (at_builtin;refine a4D rfl _ _ rfl w.heap.size O u6 rfl P3.out L8 Y rfl P4 ?_;intro v2 w2' N2 N3)
         have P5:=a8 N2;have P6:=J6.trans N3;have L9:Hid (b9D w S.data.toList b v2 (.int .i64 ((e+1:Nat):Int)) w2'):=⟨e+1,O++Y.data.toList,by rw[D0.out];omega,rfl,P5.out,P6,by rw[e8,<-j9];omega,E4.out⟩
         clear N2 N3 J6;go_wp2
         go_roundw
         case rel=>exact(show Value.int .i64 ((e+1:Nat):Int)=_ by go_num) ▸ L9.out
         case measure=>simp[intOf];omega
        ·have J3:none=Z:=by
          have D9:=L1.out;rw[hy]at D9;rw[<-HZ.out,E0.out,D9];rfl
         subst J3;have J6:=HB.out.trans (L2.mono E8);clear hy L1 L7 HZ E0;go_wp2
         go_ret2
         exact⟨.inr ⟨rfl,rfl⟩,J6⟩
       ·have L9:Hid (b9F wr S.data.toList k (.int .i64 ((e+1:Nat):Int)) wr):=⟨e+1,by omega,by rw[D0.out];exact N0,rfl,b80 M7 E3 G8.out G9,rfl⟩
        have P7:¬(S.data.toList[e].toNat:Int)=59:=fun e1=>G9 (F1.1 (show _=59 by omega))
        clear G9 G8;generalize S.data.toList[e].toNat=x at *;have R7:((x:Int) != 59)=true:=by simpa using P7
        clear E3;go_wp2
        go_roundw
        case rel=>exact(show Value.int .i64 ((e+1:Nat):Int)=_ by go_num) ▸ L9.out
        case measure=>simp[intOf];omega
      ·have N1:¬(e:Int)<(N:Int):=by omega
       have P9:=f8 N1;have P1:((e:Int)==(N:Int))=true:=by rw[x8];omega
       have J3:none=Z:=by
        have h1:=G8.out;rw[C0 (by rw[D0.out];omega)]at h1
        rw[<-HZ.out,E0.out,a4t E1,L4.out,b03 h1];rfl
       subst J3;clear G8 HZ E0 E1 L4;go_wp2
       go_ret2
       exact⟨.inr ⟨rfl,rfl⟩,HB.out⟩
    ·have N4:=b8V (b:=b) E1 G1 G6
     have z60:¬(S.data.toList[k].toNat:Int)=60:=fun e1=>G1 (F1.1 (show _=60 by omega))
     have z38:¬(S.data.toList[k].toNat:Int)=38:=fun e1=>G6 (F1.1 (show _=38 by omega))
     have E4:Hid (M9 b S.data.toList=(M9 b (S.data.toList.drop (k+1))).map ((O++[a0C b S.data.toList[k]])++·)):=b3z E0.out N4
     clear N4 G1 G6 E0;generalize S.data.toList[k]=y at *;by_cases hq:b=true/\(y=9∨y=10∨y=13)
     ·have J7:a0C b y=32:=by unfold a0C;rw[g8 hq]
      rw[J7]at E4;obtain⟨rfl,R0⟩:=hq;clear J7;rcases R0 with rfl|rfl|rfl
      ·have E2:∀w,(Instr.index 9 (.string S) (.int .i64 (k:Int))).run Tryz.prog w=.ok (.int .u8 9) w:=D3
       clear D3 z60 z38 E1
       go_wp2_with (at_builtin;refine P8 rfl _ _ rfl w.heap.size O u6 rfl HO.out E8 32 _ rfl rfl J2 ?_;intro v3 w3 D1 D2)
       have E5:=a8 D1;have E6:=a8 D2;clear D1 D2;go_wp2
       go_roundw
       case rel=>exact⟨k+1,O++[32],by rw[D0.out];exact G0,by go_num,E5.out,HB.out.trans E6.out,by rw[e8,j0];omega,E4.out⟩
       case measure=>simp[intOf];omega
      ·have E2:∀w,(Instr.index 9 (.string S) (.int .i64 (k:Int))).run Tryz.prog w=.ok (.int .u8 10) w:=D3
       clear D3 z60 z38 E1
       go_wp2_with (at_builtin;refine P8 rfl _ _ rfl w.heap.size O u6 rfl HO.out E8 32 _ rfl rfl J2 ?_;intro v3 w3 D1 D2)
       have E5:=a8 D1;have E6:=a8 D2;clear D1 D2;go_wp2
       go_roundw
       case rel=>exact⟨k+1,O++[32],by rw[D0.out];exact G0,by go_num,E5.out,HB.out.trans E6.out,by rw[e8,j0];omega,E4.out⟩
       case measure=>simp[intOf];omega
      ·have E2:∀w,(Instr.index 9 (.string S) (.int .i64 (k:Int))).run Tryz.prog w=.ok (.int .u8 13) w:=D3
       clear D3 z60 z38 E1
       go_wp2_with (at_builtin;refine P8 rfl _ _ rfl w.heap.size O u6 rfl HO.out E8 32 _ rfl rfl J2 ?_;intro v3 w3 D1 D2)
       have E5:=a8 D1;have E6:=a8 D2;clear D1 D2;go_wp2
       go_roundw
       case rel=>exact⟨k+1,O++[32],by rw[D0.out];exact G0,by go_num,E5.out,HB.out.trans E6.out,by rw[e8,j0];omega,E4.out⟩
       case measure=>simp[intOf];omega
     ·have J7:a0C b y=y:=by unfold a0C;rw[f6 hq]
      rw[J7]at E4;obtain⟨x,hx⟩ : ∃x,y.toNat=x:=⟨_,rfl⟩
      have M0:b=true->¬(x:Int)=9/\¬(x:Int)=10/\¬(x:Int)=13:=fun hb=>by
       rw[<-hx];refine⟨fun e1=>hq ⟨hb,.inl (F1.1 (show _=9 by omega))⟩,fun e1=>hq ⟨hb,.inr (.inl (F1.1 (show _=10 by omega)))⟩,fun e1=>hq ⟨hb,.inr (.inr (F1.1 (show _=13 by omega)))⟩⟩
      rw[hx]at D3 z60 z38;have HX:=a8 hx;have b60:((x:Int)==60)=false:=by simpa using z60
      have b38:((x:Int)==38)=false:=by simpa using z38
      clear J7 hq hx E1;cases b with
      |false =>
       clear M0
       go_wp2_with (at_builtin;refine P8 rfl _ _ rfl w.heap.size O u6 rfl HO.out E8 y _ (by rw[HX.out]) rfl J2 ?_;intro v3 w3 D1 D2)
       have E5:=a8 D1;have E6:=a8 D2;clear D1 D2;go_wp2
       go_roundw
       case rel=>exact⟨k+1,O++[y],by rw[D0.out];exact G0,by go_num,E5.out,HB.out.trans E6.out,by rw[e8,j0];omega,E4.out⟩
       case measure=>simp[intOf];omega
      |true =>
       obtain⟨z9,z10,z13⟩:=M0 rfl;have b9:((x:Int)==9)=false:=by simpa using z9
       have b10:((x:Int)==10)=false:=by simpa using z10
       have b13:((x:Int)==13)=false:=by simpa using z13
       clear M0
       go_wp2_with (at_builtin;refine P8 rfl _ _ rfl w.heap.size O u6 rfl HO.out E8 y _ (by rw[HX.out]) rfl J2 ?_;intro v3 w3 D1 D2)
       have E5:=a8 D1;have E6:=a8 D2;clear D1 D2;go_wp2
       go_roundw
       case rel=>exact⟨k+1,O++[y],by rw[D0.out];exact G0,by go_num,E5.out,HB.out.trans E6.out,by rw[e8,j0];omega,E4.out⟩
       case measure=>simp[intOf];omega
   ·have M6:¬(k:Int)<(N:Int):=by omega
    have R1:=f8 M6;have G4:=E0.out;rw[F9 (by rw[D0.out];omega),b3x]at G4
    obtain⟨A',cap',hv,R8,R9,N5⟩:=HO.out.lies;have J8:=I4 cap' N5;obtain⟨Y,hY⟩ : ∃Y:ByteArray,⟨O.toArray⟩=Y:=⟨_,rfl⟩;have N6:some Y.data.toList=Z:=by rw[<-HZ.out,G4,<-hY];simp
    have R2:=a8 N6;rw[hY]at J8;generalize O.length=n at *;subst hv;clear N5 G4 N6 hY HO E0 HZ;go_wp2
    go_ret2
    exact⟨.inl ⟨Y,R2.out.symm,rfl⟩,HB.out⟩
end Go.Proofs.YtlgcigmolfhamaaGreatDoor
