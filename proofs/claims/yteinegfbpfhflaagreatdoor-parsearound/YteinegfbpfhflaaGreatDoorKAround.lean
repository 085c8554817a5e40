/-
  apostillelaw08.ParseAround. Conditions: the tables lie as they are laid; awake answers as it is to.
-/
import Derived.Test.YteinegfbpfhflaaGreatDoorKLines
import Derived.Test.YteinegfbpfhflaaGreatDoorKAro2
namespace Go.Proofs.YteinegfbpfhflaaGreatDoor
open Go.RowKit
set_option linter.unusedVariables false
set_option maxRecDepth 100000
set_option maxHeartbeats 64000000
theorem c2N{w:World}{B:Nat}{A:Option Addr}{bs:List UInt8}(h:Q3 w B A (P6 bs))(k:Nat):Q3 w B A (P6 (bs.take k)):=fun D0=>by
 obtain⟨g,o,e,hg,hc⟩:=h (fun e=>D0 (by
  have:=congrArg List.length e;rw[F7,t7]at this;rw[j8 this];simp[P6]))
 refine⟨g,o,e,hg,fun j hj => ?_⟩;rw[F7,u0]at hj;rw[hc j (by rw[F7];omega)]
 simp[P6]
theorem c2o{k:Nat}(h:k<=3):(ba (c1D c1G k)).size<=48:=by
 rw[I9,c1J];have:c1G.length=16:=rfl;rw[this];omega
theorem c2k{k:Nat}(h:k<=3):(ba (c1D c1F k)).size<=54:=by
 rw[I9,c1J];have:c1F.length=18:=rfl;rw[this];omega
theorem c2Z(k:Nat):ba (c1D c1G k)++(⟨#[32,60,33,45,45,99,45,45,62,10,60,63,103,111,63,62]⟩ : ByteArray)=ba (c1D c1G (k+1)):=by
 show ba (c1D c1G k)++ba c1G=_
 rw[b3S];rfl
theorem c2T(k:Nat):ba (c1D c1F k)++(⟨#[60,63,110,111,119,32,120,63,62,9,60,33,45,45,45,45,62,32]⟩ : ByteArray)=ba (c1D c1F (k+1)):=by
 show ba (c1D c1F k)++ba c1F=_
 rw[b3S];rfl
theorem c3t{w:World}{g:Nat}{v0 v1 v2 v3 v4 v5 v6 v7:Value}{t:TypeId}{fr:Nat×Nat}(h:w.heap[g]? = some (.cells #[v0,v1,v2,v3,v4,v5,v6,v7] t fr)) :
 w.cell? ⟨g,0,none⟩=some v0/\w.cell? ⟨g,1,none⟩=some v1/\w.cell? ⟨g,2,none⟩=some v2/\w.cell? ⟨g,3,none⟩=some v3/\w.cell? ⟨g,4,none⟩=some v4/\w.cell? ⟨g,5,none⟩=some v5/\w.cell? ⟨g,6,none⟩=some v6/\w.cell? ⟨g,7,none⟩=some v7 :=
 ⟨d9 _ g 0 _ _ _ h,d9 _ g 1 _ _ _ h,d9 _ g 2 _ _ _ h,d9 _ g 3 _ _ _ h,d9 _ g 4 _ _ _ h,d9 _ g 5 _ _ _ h,d9 _ g 6 _ _ _ h,d9 _ g 7 _ _ _ h⟩
theorem c14:∀(l:List Nd) (k:Nat),c1E l k<=k+l.length
 | [],k=>by simp[c1E]
 |x::l,k=>by
  rw[c1E,i8]
  split
  ·omega
  ·have:=c14 l (k+1);omega
theorem c2P{b:List UInt8}{l:List Nd}(h:X4 b=.inr l)(a q:Nat):(shN (c1D c1K a) l++c1D c1N q).length=l.length+2*a+2*q/\∀i x,1<=i->l[i]? = some x->(shN (c1D c1K a) l++c1D c1N q)[i+2*a]? = some (shX (2*a) x)/\0<=x.n/\x.n<(i:Int):=by
 have h2:=(a2R h).2.1;have la:(c1D c1K a).length=2*a:=(c1J c1K a).trans (Nat.mul_comm _ _);have lq:(c1D c1N q).length=2*q:=(c1J c1N q).trans (Nat.mul_comm _ _);cases l with
 |nil=>cases h2
 |cons r N =>
  rw[K6,i4,i4]at h2;have hr:r.n = -1:=b27 (r:=N) h2.1;have D0:=h2.2.1;refine⟨by rw[c1Q,la,lq],fun i x h1 hx => ?_⟩
  obtain⟨hi,rfl⟩:=z8.1 hx;have:=c11 (A:=c1D c1K a) (Z:=c1D c1N q) hr hi;rw[c1P h1,la]at this;refine⟨this,?_⟩;have hg:=a09 h1 (a5k D0 i h1 hi);unfold pa at hg;rw[hx]at hg;exact hg
theorem c2K{B d:Nat}{l:List Nd}(k:Nat)(w:World)(h:a0Q w B d l)(hn:l.length<=100000)(hs:∀x∈l,Sm x){x:Nd}(hk:l[k]? = some x):Calls Tryz.prog 18 #[.pointer (some ⟨d,0,none⟩),.int .i64 (k:Int)] w fun e w' => ∃vd va,e=.returned (.agg #[.int .i64 x.k,.int .i64 x.n,.string x.p,.string x.l,.string x.u,.string x.t,vd,va])/\a0P w' w'.heap.size vd x.ds/\a23 w' w'.heap.size va x.ats/\Below w.heap.size w w':=by
 obtain⟨D0,rfl⟩:=z8.1 hk;have hx:=hs _ (o0 D0);exact(b6k k w h hn hs D0).mono fun e w' ⟨vd,va,h1,h2,h3,h4⟩=>⟨vd,va,h1,J8.at h2 (by have:=hx.nd;omega) b00,J8.at h3 (by have:=hx.na;omega) b00,h4⟩
theorem c2t(HA:b1I)(A:Option Addr)(c:Nat)(bs:List UInt8)(x1:Int)(wx1:(Lit.int .u8 x1).wf=true)(x2:Int)(wx2:(Lit.int .u8 x2).wf=true)(w:World)(hB : 8<=w.heap.size)(hW:Wd w)(hl:Q3 w w.heap.size A (P6 bs))(hc:bs.length<=c)(N6:c<=9223372036854775807) :
 Calls Tryz.prog 7 #[.slice A bs.length c,.int .u8 x1,.int .u8 x2] w fun e w'=>e=.returned (.bool true)/\Below w.heap.size w w':=by
 have E6:Hid (∀w1,Below w.heap.size w w1->Calls Tryz.prog 11 #[] w1 fun e w'=>e=.returned (.bool true)/\Below w1.heap.size w1 w'):=fun w1 hb=>HA w1 (d8 hB hb.size) (hW.low hB hb);obtain⟨n,hk⟩ : ∃n,bs.length=n:=⟨_,rfl⟩;obtain⟨p0,p1⟩:=a90 wx1;obtain⟨q0,q1⟩:=a90 wx2;obtain⟨m1,rfl⟩ : ∃m:Nat,x1=(m:Int):=⟨x1.toNat,by omega⟩
 obtain⟨m2,rfl⟩ : ∃m:Nat,x2=(m:Int):=⟨x2.toNat,by omega⟩
 clear wx1 wx2;by_cases hn:n<=700
 ·have h0:¬(700:Int)<(n:Int):=by omega
  have X7:=f8 h0
  have L3:Hid (∀w1,Below w.heap.size w w1->(convert 22 9 (.slice A n c)).run Tryz.prog w1=.ok (.string (ba bs)) w1):=fun w1 h=>by
   rw[<-hk];exact I4 c (hl.below h)
  have D3:Hid (4<n->∀w1,Below w.heap.size w w1->(convert 22 9 (.slice A 5 c)).run Tryz.prog w1=.ok (.string (ba (bs.take 5))) w1):=fun h5 w1 h=>by
   have:=I4 (bs:=bs.take 5) c ((c2N hl 5).below h);rw[u0,show min 5 bs.length=5 by omega]at this
   exact this
  by_cases hx:4<n/\bs.take 5=c1L
  ·obtain⟨h4,h5⟩:=hx
   have L4:(4:Int)<(n:Int):=by omega
   have N7:=i6 L4;have T0:(5:Int)<=(c:Int):=by omega
   have E7:=D3.out h4;rw[h5]at E7;have L5:=a8 E7;rw[hk];clear hl hW hB hk hc E7 L3 D3;go_enter Tryz.func7,Tryz.ntmps7
   go_wp2_with fail
   refine(E6.out _ (b8 _ _)).mono ?_;rintro e w1⟨rfl,D0⟩;have E0:=a8 D0;have E8:=a8 (E6.out w1 D0);have T1:=L5.out w1 D0;have T2:(ba c1L).toList==([60,63,120,109,108] : List UInt8):=by rw[f9,B5];rfl
   clear D0
   go_wp2_with fail
   refine E8.out.mono ?_;rintro e w2⟨rfl,D9⟩;have E1:=a8 (E0.out.trans (D9.mono E0.out.size));clear D9;go_wp2;go_ret;exact⟨rfl,E1.out⟩
  ·obtain⟨a,ha⟩ : ∃a,m1%4=a:=⟨_,rfl⟩
   obtain⟨q,hq⟩ : ∃q,m2%4=q:=⟨_,rfl⟩;have N8:a<=3:=by omega
   have N9:q<=3:=by omega
   have X8:(m1:Int)%4=(a:Int):=by omega
   have X9:(m2:Int)%4=(q:Int):=by omega
   have P0:¬∃r,bs=c1L++r:=fun⟨r,hr⟩=>hx ⟨by have:=congrArg List.length hr;rw[e8]at this;have h5:c1L.length=5:=rfl;omega,by rw[hr];rfl⟩
   have P1:Hid (∀l,X4 bs=.inr l->X4 (c1D c1G a++bs++c1D c1F q)=.inr (shN (c1D c1K a) l++c1D c1N q)/\l≠[]/\c1V (shN (c1D c1K a) l++c1D c1N q)=c1V l+2*a/\l.length<=2000):=fun l h=>c3g a q N8 N9 (by omega) P0 h
   have L6:(c1D c1G a++bs++c1D c1F q).length<=40000:=by
    have h1:=c2o N8;have h2:=c2k N9;rw[I9]at h1 h2;rw[e8,e8];omega
   have P2:Hid (∀l,X4 bs=.inr l->∀x∈l,Sm x):=fun l h=>a4v (by omega) (a2R h).1
   have P3:Hid (∀l,X4 (c1D c1G a++bs++c1D c1F q)=.inr l->∀x∈l,Sm x):=fun l h=>a4v L6 (a2R h).1
   have HP:Hid (∀w1,Below w.heap.size w w1->Calls Tryz.prog 12 #[.slice A n c] w1 fun e w'=>b1G (X4 bs) w1.heap.size e w'/\Below w1.heap.size w1 w'):=fun w1 hb=>by
    rw[<-hk];exact a32 A c bs w1 (d8 hB hb.size) (hW.low hB hb) ((hl.below hb).mono hb.size) hc N6 (by omega)
   have P4:Hid (∀w1 v B',Below w.heap.size w w1->Own w1 B' v (c1D c1G a++bs++c1D c1F q)->Calls Tryz.prog 12 #[v] w1 fun e w'=>b1G (X4 (c1D c1G a++bs++c1D c1F q)) w1.heap.size e w'/\Below w1.heap.size w1 w'):=fun w1 v B' hb ho=>a7Q _ v w1 (d8 hB hb.size) (hW.low hB hb) L6 _ ho;have L7:(ba bs).size<=700:=by rw[I9];omega
   have HG:(∃P5:ByteArray,(4:Int)<(n:Int)/\decide ((4:Int)<(n:Int))=true/\(5:Int)<=(c:Int)/\Hid (∀w1,Below w.heap.size w w1->(convert 22 9 (.slice A 5 c)).run Tryz.prog w1=.ok (.string P5) w1)/\(P5.toList==([60,63,120,109,108] : List UInt8))=false)∨(¬(4:Int)<(n:Int)/\decide ((4:Int)<(n:Int))=false):=by
    rcases Nat.lt_or_ge 4 n with h4|h4
    ·exact .inl ⟨ba (bs.take 5),by omega,i6 (by omega),by omega,D3.out h4,by rw[f9,B5,e9];exact fun e=>hx ⟨h4,e⟩⟩
    ·exact .inr ⟨by omega,f8 (by omega)⟩
   rcases HG with⟨P5,L4,N7,T0,L5,T2⟩|⟨L4,N7⟩
   all_goals
    rw[hk];clear hl hW hB hk hc D3 P0 hx L6;go_enter Tryz.func7,Tryz.ntmps7
    go_wp2_with fail
    refine(E6.out _ (b8 _ _)).mono ?_;rintro e w1⟨rfl,D0⟩;have E0:=a8 D0
    try (have T1:=L5.out w1 D0)
    have E8:=a8 (HP.out w1 D0);clear D0
    go_wp2_with fail
    refine E8.out.mono ?_;rintro e w2⟨he,D9⟩;have E1:=a8 (E0.out.trans (D9.mono E0.out.size));rcases hD:X4 bs with E|l
    ·rw[hD]at he
     have he':e=.returned (.tuple #[.pointer none,.int .i64 E]):=he;subst he';have Y0:(E != 0)=true:=by rcases b1g hD with rfl|rfl<;>rfl
     have Y1:(E==0)=false:=by rcases b1g hD with rfl|rfl<;>rfl
     clear he D9 hD;go_wp2;go_ret;exact⟨rfl,E1.out⟩
    ·rw[hD]at he
     obtain⟨d,B',_,rfl,G0⟩:=he;have T3:=a8 G0;obtain⟨L8,T4,G1,T5⟩:=P1.out l hD;have P7:=a8 L8;have P8:=a8 (c2P hD a q);have E3:=a8 G1;have J3:=a8 (P2.out l hD);have G4:=a8 (P3.out _ L8);clear G0 D9 hD L8 G1;go_wp2
     go_loopw [9,46] (fun v i wr => ∃k:Nat,k<=a/\v=.string (ba (c1D c1G k))/\i=.int .u8 (k:Int)/\wr=w2) (fun _ i _=>a-(intOf i).toNat)
     case atStart=>exact⟨0,o4 _,rfl,rfl,rfl⟩
     case round =>
      obtain⟨k,hk,rfl,rfl,rfl⟩:=hrel;have G5:=c2o (show k<=3 by omega)
      by_cases P9:k<a
      ·have T6:(k:Int)<(a:Int):=by omega
       have L9:=a8 (c2Z k);generalize ba (c1D c1G k)=Zs at *;go_wp2
       go_roundw
       case rel=>exact⟨k+1,by omega,congrArg Value.string L9.out,by go_num,trivial⟩
       case measure=>simp[intOf];omega
      ·have T6:¬(k:Int)<(a:Int):=by omega
       obtain rfl:k=a:=by omega
       obtain⟨SA,M0⟩ : ∃SA,ba (c1D c1G k)=SA:=⟨_,rfl⟩;have R0:=a8 M0;rw[M0]at G5 ⊢;clear M0;go_wp2
       go_loopw [10,53] (fun v i wx => ∃j:Nat,j<=q/\v=.string (ba (c1D c1F j))/\i=.int .u8 (j:Int)/\wx=wr) (fun _ i _=>q-(intOf i).toNat)
       case atStart=>exact⟨0,o4 _,rfl,rfl,rfl⟩
       case round =>
        obtain⟨j,hj,rfl,rfl,rfl⟩:=hrel;have M1:=c2k (show j<=3 by omega)
        by_cases T7:j<q
        ·have T8:(j:Int)<(q:Int):=by omega
         have L9:=a8 (c2T j);generalize ba (c1D c1F j)=Zs at *;go_wp2
         go_roundw
         case rel=>exact⟨j+1,by omega,congrArg Value.string L9.out,by go_num,trivial⟩
         case measure=>simp[intOf];omega
        ·have T8:¬(j:Int)<(q:Int):=by omega
         obtain rfl:j=q:=by omega
         obtain⟨SZ,J4⟩ : ∃SZ,ba (c1D c1F j)=SZ:=⟨_,rfl⟩;rw[J4]at M1 ⊢;have G6:=L3.out wr E1.out;obtain⟨SB,J5⟩ : ∃SB,ba bs=SB:=⟨_,rfl⟩;rw[J5]at G6 L7;obtain⟨Y,hY⟩ : ∃Y,SA++SB=Y:=⟨_,rfl⟩;obtain⟨X,hX⟩ : ∃X,Y++SZ=X:=⟨_,rfl⟩;have J6:Y=ba (c1D c1G k++bs):=by rw[<-hY,<-R0.out,<-J5,b3S]
         have M2:X.data.toList=c1D c1G k++bs++c1D c1F j:=by rw[<-hX,J6,<-J4,b3S,B5]
         have Y2:Y.size<=748:=by
          rw[J6,I9,e8,<-I9,<-I9,R0.out,J5];omega
         have Y3:X.size<=802:=by
          rw[j9,M2,e8,<-I9,<-I9,<-J6,J4];omega
         obtain⟨cpW,W,E7,_,_,M3,_,_,E4⟩:=a0M X (by omega) wr
         rw[M2]at E4;have M4:=a8 (E1.out.trans (M3.mono E1.out.size));have T9:=a8 (a0Q.later T3.out M3);have R1:=a8 (P4.out W _ _ M4.out E4);clear E4 M3 J6 M2 J4 J5 P1 P2 P3 HP P4 L3
         go_wp2_with fail
         refine R1.out.mono ?_;rintro e w3⟨he,M5⟩;rw[P7.out]at he;obtain⟨d2,B2,_,rfl,E2⟩:=he;have R2:=a8 (M4.out.trans (M5.mono M4.out.size));have J7:=a8 (a0Q.later T9.out M5);have G7:=a8 E2;clear E2 M5 E7 G6 R1 hX hY P7;obtain⟨J8,M6⟩:=P8.out;obtain⟨L,hL⟩ : ∃L,shN (c1D c1K k) l++c1D c1N j=L:=⟨_,rfl⟩;rw[hL]at J8 M6 G7 G4 E3;have M7:=a8 M6;clear M6 hL P8;obtain⟨LN,G8⟩ : ∃LN,l.length=LN:=⟨_,rfl⟩;have M8:1<=LN:=by rw[<-G8];exact D7.2 T4
         have R3:=a8 (a9e w3 G7.out (by omega) G4.out)
         have R4:Hid (∀w1,Below w3.heap.size w3 w1->Calls Tryz.prog 16 #[.pointer (some ⟨d,0,none⟩)] w1 fun e w'=>e=.returned (.int .i64 (LN:Int))/\w'=w1):=fun w1 hb=>by
          rw[<-G8];exact a9e w1 (a0Q.later J7.out hb) (by omega) J3.out
         have V0:c1V l<=2000:=by have:=c14 l 0;unfold c1V;omega
         have R5:Hid (Calls Tryz.prog 17 #[.pointer (some ⟨d2,0,none⟩)] w3 fun e w'=>e=.returned (.int .i64 ((c1V l+2*k:Nat):Int))/\Below w3.heap.size w3 w'):=by
          rw[<-E3.out];exact c2D w3 G7.out (by omega) G4.out
         have R6:Hid (∀w1,Below w3.heap.size w3 w1->Calls Tryz.prog 17 #[.pointer (some ⟨d,0,none⟩)] w1 fun e w'=>e=.returned (.int .i64 ((c1V l:Nat):Int))/\Below w1.heap.size w1 w'):=fun w1 hb=>c2D w1 (a0Q.later J7.out hb) (by omega) J3.out
         have V1:=a8 G8
         have V2:Hid (∀(i:Nat) (x:Nd) (w1:World),1<=i->l[i]? = some x->Below w3.heap.size w3 w1->Calls Tryz.prog 18 #[.pointer (some ⟨d2,0,none⟩),.int .i64 ((i:Int)+2*(k:Int))] w1 fun e w' => ∃vd va,e=.returned (.agg #[.int .i64 x.k,.int .i64 (shZ (2*k) x.n),.string x.p,.string x.l,.string x.u,.string x.t,vd,va])/\a0P w' w'.heap.size vd x.ds/\a23 w' w'.heap.size va x.ats/\Below w1.heap.size w1 w'):=fun i x w1 h1 hx hb=>by
          have ez:(i:Int)+2*(k:Int)=((i+2*k:Nat):Int):=by omega
          rw[ez];exact(c2K (x:=shX (2*k) x) (i+2*k) w1 (a0Q.later G7.out hb) (by omega) G4.out (M7.out i x h1 hx).1).mono fun e w' ⟨vd,va,g1,g2,g3,g4⟩=>⟨vd,va,g1,g2,g3,g4⟩
         have V3:Hid (∀(i:Nat) (x:Nd) (w1:World),l[i]? = some x->Below w3.heap.size w3 w1->Calls Tryz.prog 18 #[.pointer (some ⟨d,0,none⟩),.int .i64 (i:Int)] w1 fun e w' => ∃vd va,e=.returned (.agg #[.int .i64 x.k,.int .i64 x.n,.string x.p,.string x.l,.string x.u,.string x.t,vd,va])/\a0P w' w'.heap.size vd x.ds/\a23 w' w'.heap.size va x.ats/\Below w1.heap.size w1 w'):=fun i x w1 hx hb=>c2K i w1 (a0Q.later J7.out hb) (by omega) J3.out hx
         have V4:Hid (∀(i:Nat) (x:Nd),1<=i->l[i]? = some x->0<=x.n/\x.n<(i:Int)):=fun i x h1 hx=>(M7.out i x h1 hx).2;obtain⟨LX,R7⟩ : ∃LX,L.length=LX:=⟨_,rfl⟩;obtain⟨TP,R8⟩ : ∃TP,c1V l=TP:=⟨_,rfl⟩;rw[R7]at R3 J8;rw[R8]at R5 R6 V0;rw[G8]at J8 T5;have Y4:((LX:Int) != (LN:Int)+2*(k:Int)+2*(j:Int))=false:=by simp only[bne_eq_false_iff_eq];omega
         have Y5:(((TP+2*k:Nat):Int) != (TP:Int)+2*(k:Int))=false:=by simp only[bne_eq_false_iff_eq];omega
         clear G8 R7 R8 J8 G7 J7 G4 J3 E3 M7
         go_wp2_with fail
         refine R3.out.mono ?_;rintro e w4⟨rfl,hw⟩;rw[hw];clear hw;have M9:=a8 (R4.out w3 (b8 _ _))
         go_wp2_with fail
         refine M9.out.mono ?_;rintro e w4⟨rfl,hw⟩;rw[hw];clear hw
         go_wp2_with fail
         refine R5.out.mono ?_;rintro e w4⟨rfl,N0⟩;have R9:=a8 N0;have N1:=a8 (R6.out w4 N0);clear N0
         go_wp2_with fail
         refine N1.out.mono ?_;rintro e w5⟨rfl,S0⟩;have S1:=a8 (R9.out.trans (S0.mono R9.out.size));clear S0;go_wp2
         go_loopw [14] (fun i wx => ∃i0:Nat,1<=i0/\i0<=LN/\i=.int .i64 (i0:Int)/\Below w5.heap.size w5 wx) (fun i _=>LN-(intOf i).toNat)
         case atStart=>exact⟨1,c9 _,M8,rfl,b8 _ _⟩
         case round =>
          obtain⟨i0,S2,Y6,rfl,N2⟩:=hrel;have J9:=a8 N2;have D1:=a8 (S1.out.trans (N2.mono S1.out.size));have G9:=a8 (R4.out wr D1.out);clear N2;by_cases P9:i0<LN
          ·have V5:(i0:Int)<(LN:Int):=by omega
           obtain⟨x,L0⟩ : ∃x,l[i0]? = some x:=⟨l[i0]'(by rw[V1.out];exact P9),i5 _⟩
           have S3:=a8 (V3.out i0 x wr L0 D1.out);have N3:Hid (∀w1,Below wr.heap.size wr w1->_):=fun w1 hb=>V2.out i0 x w1 S2 L0 (D1.out.trans (hb.mono D1.out.size));obtain⟨V6,V7⟩:=V4.out i0 x S2 L0;obtain⟨xk,xn,xp,xl,xu,xt,xds,xats⟩:=x;dsimp only at V6 V7 S3 N3;clear L0
           go_wp2_with fail
           refine G9.out.mono ?_;rintro e w6⟨rfl,hw⟩;rw[hw];clear hw
           go_wp2_with fail
           refine S3.out.mono ?_;rintro e w6⟨vd,va,rfl,S4,J1,S5⟩;have S6:=a8 S5;have S7:=a8 S4;have S8:=a8 J1;obtain⟨Ad,cd,rfl,_,_,_⟩:=S4;obtain⟨Aa,ca,rfl,_,_,_⟩:=J1;clear S5;have V8:Hid (∀z:Int,NdV w6 w6.heap.size (.agg #[.int .i64 xk,.int .i64 z,.string xp,.string xl,.string xu,.string xt,.slice Ad xds.length cd,.slice Aa xats.length ca]) ⟨xk,z,xp,xl,xu,xt,xds,xats⟩):=fun z=>⟨_,_,rfl,S7.out,S8.out⟩;clear S7 S8
           have V9:(0<xn/\shZ (2*k) xn=xn+2*(k:Int))∨(¬0<xn/\shZ (2*k) xn=xn):=by
            unfold shZ;by_cases hp:0<xn
            ·exact .inl ⟨hp,by rw[g8 hp];omega⟩
            ·exact .inr ⟨hp,by rw[f6 hp]⟩
           rcases V9 with⟨hp,G5⟩|⟨hp,G5⟩
           all_goals
            rw[G5]at N3;clear G5
            go_wp2_with fail
            generalize N4:w6.alloc (Obj.cells _ _)=W0;have N5:=a8 (N4 ▸ g9 w6 _);have E5:Hid (Below w6.heap.size w6 W0):=by rw[<-N4];exact(b8 _ _).alloc (c9 _) _
            have X0:w6.heap.size<W0.heap.size:=i3 N5.out;have D2:=a8 (S6.out.trans (E5.out.mono S6.out.size));have X1:Hid (∀w1,Below W0.heap.size W0 w1->_):=fun w1 hb=>N3.out w1 (D2.out.trans (hb.mono D2.out.size));obtain⟨b0,b1,b2,b3,b4,b5,b6,b7⟩:=c3t N5.out;clear N4;have Y7:IntKind.i64.wrap ((i0:Int)+2*(k:Int))=(i0:Int)+2*(k:Int):=by rw[IntKind.wrap_i64];omega
            go_cut [122] (fun cc wz=>cc=.bool false/\Below w5.heap.size w5 wz)
            case first =>
             go_region_with (first
              |(go_at_call 18;refine(X1.out _ (by first|exact(b8 _ _).drew|exact b8 _ _)).mono ?_;rintro e w7 ⟨vd2,va2,rfl,X2,X3,L1⟩;obtain⟨c0,c1,c2,c3,c4,c5',c6,c7⟩:=c3t ((L1.block _ X0).trans N5.out);have L2:Below W0.heap.size W0 w7:=(by first|exact(b8 _ _).drew.trans L1|exact L1);clear L1)
              |(go_at_call 19;refine(b8t ⟨xk,_,xp,xl,xu,xt,xds,xats⟩ _ _ _ ⟨vd2,va2,rfl,X2,X3⟩ ((V8.out _).later (E5.out.trans (L2.mono E5.out.size)))).mono ?_;rintro e w8 ⟨rfl,S9⟩))
             all_goals
              have J2:=L2.size;have X5:=a8 (((J9.out.trans (D2.out.mono J9.out.size)).trans (L2.mono (d8 J9.out.size D2.out.size))).trans (S9.mono (d8 (d8 J9.out.size D2.out.size) J2)));clear L2 S9 J2
              go_wp2_with fail
              go_meet
              exact⟨rfl,X5.out⟩
            case rest =>
             obtain⟨rfl,X6⟩:=hcut;go_wp2
             go_roundw
             case rel=>exact⟨i0+1,by omega,by omega,by go_num,X6⟩
             case measure=>simp[intOf];omega
          ·have V5:¬(i0:Int)<(LN:Int):=by omega
           go_wp2_with fail
           refine G9.out.mono ?_;rintro e w6⟨rfl,hw⟩;rw[hw];clear hw;go_wp2;go_ret;exact⟨rfl,R2.out.trans (D1.out.mono R2.out.size)⟩
 ·have h0:(700:Int)<(n:Int):=by omega
  rw[hk];clear hl hc N6 hk hn hW hB;go_enter Tryz.func7,Tryz.ntmps7
  go_wp2_with fail
  refine(E6.out _ (b8 _ _)).mono ?_;rintro e w1⟨rfl,D0⟩;have E0:=a8 D0;have E8:=a8 (E6.out w1 D0);clear D0
  go_wp2_with fail
  refine E8.out.mono ?_;rintro e w2⟨rfl,D9⟩;have E1:=a8 (E0.out.trans (D9.mono E0.out.size));clear D9;go_wp2;go_ret;exact⟨rfl,E1.out⟩
end Go.Proofs.YteinegfbpfhflaaGreatDoor
