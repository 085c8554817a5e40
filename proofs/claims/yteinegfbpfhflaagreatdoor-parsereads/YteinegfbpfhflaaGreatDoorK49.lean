/-
  apostilleref08.Reader: inside. Conditions: the reader lies as it is; elements in it are read as they are to be; nothing is too long.
-/
import Derived.Test.YteinegfbpfhflaaGreatDoorK48
namespace Go.Proofs.YteinegfbpfhflaaGreatDoor
open Go.RowKit
set_option linter.unusedVariables false
set_option maxRecDepth 100000
set_option maxHeartbeats 64000000
theorem b2s{f:Nat}(HE:b7N f)(S:ByteArray)(B rb:Nat)(s:Rf)(vn:Value)(ys:List Ny)(n:Int)(k:Nat)(w:World)(h:S5 w B rb S s vn ys)(hS:S.size<=100000)(hf:s.rest.length<=f)(hk:s.rest.length<k)(R2:Kp s)(hn0:0<=n)(R3:n<(s.ns.length:Int))(M4:R6 s<=800000) :
 Calls Tryz.prog 67 #[.pointer (some ⟨rb,0,none⟩),.int .i64 n] w fun e w'=>e=.returned (.tuple #[])/\U4 B rb S (M6 (M0 f) k n [] s) vn w w':=by
 have hrl:=h.lt;have D2:B<=w.heap.size:=d8 h.lo (A6 hrl);have D9:=a8 h.lo;obtain⟨T,hT⟩ : ∃T,M6 (M0 f) k n [] s=T:=⟨_,rfl⟩;rw[hT];have R4:s.rest.length<=100000:=by obtain⟨j,hj⟩:=h.rc;have:=hj.len;omega
 have R5:Hid (b7K w B rb S vn f n T (.string ⟨#[]⟩) w):=⟨k,[],s,vn,ys,rfl,hk,hT,h,L7.of_below (b8 _ _),b8 _ _,R2,R3,by simp;omega,by rw[g8 rfl];exact M4,hf⟩
 have HEE:=a8 HE;have R7:=a8 hn0;clear h hT hk R2 R3 M4 hf R4 HE;go_enter Tryz.func67,Tryz.ntmps67;go_wp2
 go_loopw [4] (b7K w B rb S vn f n T) (fun _ wr=>S.size-a3A wr rb)
 case atStart=>exact R5.out
 case round =>
  clear R5;obtain⟨k,t,s,vn',ys,rfl,hk,hT,h,hg,hb,R2,R3,htl,M4,hf⟩:=hrel;obtain⟨j,hj⟩:=h.rc;obtain⟨c0,c1,_,c3⟩:=hj.cells;have hlt:=hj.lt;have P3:=hj.len;have hjs:=hj.le;have R8:S.size-a3A wr rb=s.rest.length:=by rw[R9 hj,hj.len]
  have X1:=h.len;have E2:=a8 R8;have H:=a8 h;have HG:=a8 hg;have HB:=a8 hb;have HJ:=a8 hj;have V1:=a8 R2;have S0:=a8 R3;have P6:ys.length<=800000:=by unfold R6 at M4;omega
  have S1:Hid (∀w',S5 w' B rb S s vn' ys->_):=fun w' hm=>b3b S B rb s vn' ys n t w' hm (by omega)
  have E3:Hid (∀m,Calls Tryz.prog 57 #[.pointer (some ⟨rb,0,none⟩),.string ⟨#[60,47]⟩] (wr.drewN m) fun e w'=>e=.returned (.bool (F3 [60,47] s))/\∃m',w'=wr.drewN m'):=fun m=>b5U ⟨#[60,47]⟩ hj (by omega) (by decide) m
  clear h hg hb hj R8 R2 R3 X1;cases k with
  |zero=>omega
  |succ k =>
  rw[M6]at hT;have S2:∀wx,S5 wx B rb S s vn' ys->L7 rb vn vn' w wx->Below B w wx->J2 n t s=T->Calls Tryz.prog 105 #[.pointer (some ⟨rb,0,none⟩),.int .i64 n,.string (ba t)] wx fun e w'=>e=.returned (.tuple #[])/\U4 B rb S T vn w w':=fun wx h1 h2 h3 h4=>(S1.out wx h1).mono fun e w' ⟨e1,⟨v1,y1,r1,r2⟩,r3⟩=>⟨e1,⟨v1,y1,h4 ▸ r1,h2.trans r2⟩,h3.trans r3⟩;have S3:=a8 S2;clear S2;have Y6:∀m,S5 (wr.drewN m) B rb S s vn' ys/\L7 rb vn vn' w (wr.drewN m)/\Below B w (wr.drewN m):=fun m=>⟨H.out.below (i7 (b8 _ _) m),HG.out.trans (L7.of_below (i7 (b8 _ _) m)),HB.out.trans (i7 (b8 _ _) m)⟩;have S4:=a8 Y6;clear Y6;obtain⟨Z,hZ⟩ : ∃Z,ba t=Z:=⟨_,rfl⟩;have HZ:=a8 hZ;rw[hZ]at S3 ⊢;clear hZ;cases G8:s.bad with
  |true =>
   rw[G8]at c3 hT;rw[g8 (.inl rfl)]at hT;have HT:=a8 hT;clear hT
   go_wp2_with fail
   go_quiet (fail)
   go_wp2_with fail
   obtain⟨d1,d2,d3⟩:=S4.out nq;refine(S3.out _ d1 d2 d3 HT.out).mono ?_;rintro e w2⟨rfl,ha⟩;have HA:=a8 ha;clear ha d1 d2 d3;go_wp2
   go_end0
   exact⟨rfl,HA.out⟩
  |false =>
   rw[G8]at c3 hT;by_cases hend:j<S.size
   ·have hd:decide ((j:Int)<(S.size:Int))=true:=i6 (by omega)
    cases S6:F3 [60,47] s with
    |true =>
     rw[S6]at E3;rw[g8 (.inr (.inr S6))]at hT;have HT:=a8 hT;clear hT
     go_wp2_with fail
     go_quiet ((go_at_call 57;exact E3.out _))
     go_wp2_with fail
     obtain⟨d1,d2,d3⟩:=S4.out nq;refine(S3.out _ d1 d2 d3 HT.out).mono ?_;rintro e w2⟨rfl,ha⟩;have HA:=a8 ha;clear ha d1 d2 d3;go_wp2
     go_end0
     exact⟨rfl,HA.out⟩
    |false =>
     rw[S6]at E3;have N0:s.rest≠[]:=fun e=>by rw[e]at P3;simp at P3;omega
     rw[f6 (by rw[S6];simp[N0])]at hT
     go_wp2_with fail
     go_quiet ((go_at_call 57;exact E3.out _))
     obtain⟨h1,Y7,Y8⟩:=S4.out nq;generalize wr.drewN nq=w1 at *;clear c0 c1 c3 E3 hlt hd S6 S4 S3;have H1:=a8 h1;have Z0:=a8 Y7;have V2:=a8 Y8;obtain⟨j1,Z1⟩:=h1.rc;have V3:Hid (Calls Tryz.prog 57 #[.pointer (some ⟨rb,0,none⟩),.string ⟨#[60,33,91,67,68,65,84,65,91]⟩] w1 fun e w''=>e=.returned (.bool (F3 [60,33,91,67,68,65,84,65,91] s))/\M3 rb S vn' s w1 w''):=O3 S ⟨#[60,33,91,67,68,65,84,65,91]⟩ rb vn' s j1 w1 Z1 (by omega) (by decide)
     have V4:=a8 hT;clear h1 Y7 Y8 Z1 hT;cases hc:F3 [60,33,91,67,68,65,84,65,91] s with
     |true =>
      rw[hc]at V3
      have hT:M6 (M0 f) k n (t++(J3 [93,93,62] (D0 [60,33,91,67,68,65,84,65,91] s)).1) (J3 [93,93,62] (D0 [60,33,91,67,68,65,84,65,91] s)).2=T:=by
       have:=V4.out;rw[g8 hc]at this;exact this
      have Z2:=P5 [60,33,91,67,68,65,84,65,91] s;have hl1:=a1v hc;simp only[i8,t7]at hl1;have HTK:Hid (∀w' k',U5 w' rb S vn' s k'->Calls Tryz.prog 59 #[.pointer (some ⟨rb,0,none⟩),.string ⟨#[60,33,91,67,68,65,84,65,91]⟩] w' fun e w''=>e=.returned (.tuple #[])/\M3 rb S vn' (D0 [60,33,91,67,68,65,84,65,91] s) w' w''):=fun w' k' hm=>U7 S ⟨#[60,33,91,67,68,65,84,65,91]⟩ rb vn' s k' w' hm (by omega) (by decide)
      generalize D0 [60,33,91,67,68,65,84,65,91] s=s1 at *;have Z3:Hid (∀w' k',U5 w' rb S vn' s1 k'->Calls Tryz.prog 101 #[.pointer (some ⟨rb,0,none⟩),.string ⟨#[93,93,62]⟩] w' fun e w''=>e=.returned (.string (ba (J3 [93,93,62] s1).1))/\M3 rb S vn' (J3 [93,93,62] s1).2 w' w''):=fun w' k' hm=>a1M S ⟨#[93,93,62]⟩ 93 [93,62] rfl rb vn' s1 k' w' hm (by omega) (by decide)
      have Z4:=a1E [93,93,62] s1;have hl2:=(V7 [93,93,62] s1).len
      have hl3:(J3 [93,93,62] s1).1.length+(J3 [93,93,62] s1).2.rest.length<=s1.rest.length:=by
       unfold J3
       split
       ·next p q hc=>have:=P4 hc;show p.length+q.length<=_;omega
       ·simp[Rf.fail]
      generalize (J3 [93,93,62] s1).2=s2 at *;generalize (J3 [93,93,62] s1).1=q at *;obtain⟨Y,hY⟩ : ∃Y,ba q=Y:=⟨_,rfl⟩;have hYs:Y.size<=100000:=by rw[<-hY,I9];omega
      have Z5:Z.size<=1000000:=by rw[<-HZ.out,I9];omega
      have HY:Hid (Value.string (Z++Y)=.string (ba (t++q))):=by show _=_;rw[<-HZ.out,<-hY,a5d]
      rw[hY]at Z3;have HT:=a8 hT;have V5:=a8 (D5 Z2 Z4);clear hc V4 hY hT Z2 Z4
      go_wp2_with fail
      refine V3.out.mono ?_;rintro e w2⟨rfl,J1⟩;have h2:=H1.out.rst J1 rfl;obtain⟨j2,S7⟩:=h2.rc;have P7:=a8 (HTK.out w2 j2 S7);have H2:=a8 h2;have V6:=a8 (Z0.out.rst J1);have N1:=a8 (V2.out.trans (J1.below D9.out (d8 D2 V2.out.size)));clear J1 h2 S7
      go_wp2_with fail
      refine P7.out.mono ?_;rintro e w3⟨rfl,E0⟩;have h3:=H2.out.rst E0 V5.out.1;obtain⟨j3,N2⟩:=h3.rc;have X2:=a8 (Z3.out w3 j3 N2);have H3:=a8 h3;have P8:=a8 (V6.out.rst E0);have J4:=a8 (N1.out.trans (E0.below D9.out (d8 D2 N1.out.size)));clear E0 h3 N2
      go_wp2_with fail
      refine X2.out.mono ?_;rintro e w4⟨rfl,E1⟩;have H4:=a8 (H3.out.rst E1 V5.out.2);have M5:=a8 (P8.out.rst E1);have E4:=a8 (J4.out.trans (E1.below D9.out (d8 D2 J4.out.size)));clear E1;go_wp2
      go_roundw
      case rel =>
       have e2:s2.ns=s.ns:=V5.out.2.trans V5.out.1;exact⟨k,t++q,s2,vn',ys,HY.out,by omega,HT.out,H4.out,M5.out,E4.out,V1.out.of e2,by rw[e2];exact S0.out,by rw[e8];omega,by unfold R6 at M4 ⊢;rw[e2];split<;>omega,by omega⟩
      case measure =>
       obtain⟨j4,S8⟩:=H4.out.rc;rw[E2.out,R9 S8,<-S8.len];omega
     |false =>
      rw[hc]at V3
      have J6:Hid ((if F3 [60] s=false then M6 (M0 f) k n (t++(J7 (G9 [60] s.rest)).getD []) ((s.to (J9 [60] s.rest)).or (J7 (G9 [60] s.rest)).isNone)else if F3 [60,33,45,45] s=true then M6 (M0 f) k n [] (a0d n (J2 n t s))else if F3 [60,63] s=true then M6 (M0 f) k n [] (W5 n (J2 n t s))else M6 (M0 f) k n [] (M0 f n (J2 n t s)))=T):=by
       have:=V4.out;rw[f6 (by rw[hc];simp)]at this
       exact this
      clear V4 hc;have Z6:Hid (∀w' k',U5 w' rb S vn' s k'->Calls Tryz.prog 57 #[.pointer (some ⟨rb,0,none⟩),.string ⟨#[60]⟩] w' fun e w''=>e=.returned (.bool (F3 [60] s))/\M3 rb S vn' s w' w''):=fun w' k' hm=>O3 S ⟨#[60]⟩ rb vn' s k' w' hm (by omega) (by decide)
      go_wp2_with fail
      refine V3.out.mono ?_;rintro e w2⟨rfl,J1⟩;have h2:=H1.out.rst J1 rfl;obtain⟨j2,S7⟩:=h2.rc;have P7:=a8 (Z6.out w2 j2 S7);have H2:=a8 h2;have V6:=a8 (Z0.out.rst J1);have N1:=a8 (V2.out.trans (J1.below D9.out (d8 D2 V2.out.size)));clear J1 h2 S7 Z6;cases hl:F3 [60] s with
      |false =>
       rw[hl]at P7
       have hT:M6 (M0 f) k n (t++(J7 (G9 [60] s.rest)).getD []) ((s.to (J9 [60] s.rest)).or (J7 (G9 [60] s.rest)).isNone)=T:=by
        have:=J6.out;rw[g8 hl]at this;exact this
       have HT:=a8 hT;have HL:=a8 hl;clear J6 hT hl
       go_wp2_with fail
       refine P7.out.mono ?_;rintro e w3⟨rfl,E0⟩;have h3:=H2.out.rst E0 rfl;obtain⟨j3,N2⟩:=h3.rc;obtain⟨d0,d1,_,_⟩:=N2.cells;have dl:=N2.lt;have H3:=a8 h3;have S9:=a8 N2;have P8:=a8 (V6.out.rst E0);have J4:=a8 (N1.out.trans (E0.below D9.out (d8 D2 N1.out.size)));clear E0 h3 N2 d0;go_wp2;clear d1 dl
       go_loopw [48] (c0P w3 rb S vn' s j3) (fun _ wx=>S.size-a3A wx rb)
       case atStart =>
        have e:s.to (S.data.toList.drop j3)=s:=by rw[<-S9.out.rest];rfl
        refine⟨j3,c9 _,by rw[e];exact S9.out,by rw[e];exact M3.of S9.out (b8 _ _),fun c hc => ?_⟩
        rw[Nat.sub_self]at hc;simp at hc
       case round =>
        obtain⟨i,P9,hm,hr,T0⟩:=hrel;obtain⟨d0,d1,_,d3⟩:=hm.cells;have dl:=hm.lt;have dle:=hm.le;have df:=hm.frozen 1;have M7:S.size-a3A wr rb=S.size-i:=by rw[R9 hm]
        have T1:=a8 M7;have HM:=a8 hm;have HR:=a8 hr;have N3:=a8 T0;have E3:Hid (∀m,Calls Tryz.prog 57 #[.pointer (some ⟨rb,0,none⟩),.string ⟨#[60]⟩] (wr.drewN m) fun e w'=>e=.returned (.bool (F3 [60] (s.to (S.data.toList.drop i))))/\∃m',w'=wr.drewN m'):=fun m=>b5U ⟨#[60]⟩ hm (by omega) (by decide) m
        clear hm hr T0 M7;by_cases J8:i<S.size
        ·have hd:decide ((i:Int)<(S.size:Int))=true:=i6 (by omega)
         have X3:i<S.data.toList.length:=by rw[<-j9];exact J8
         have E5:S.data.toList.drop i=S.data.toList[i]::S.data.toList.drop (i+1):=B8 X3;cases D3:F3 [60] (s.to (S.data.toList.drop i))with
         |false =>
          rw[D3]at E3
          have M8:S.data.toList[i]≠60:=fun e=>by
           rw[L8 (s:=s.to (S.data.toList.drop i)) (r:=S.data.toList.drop (i+1)) (by show m9 [60] (S.data.toList.drop i)=_;rw[E5,e];exact a29 _ _)]at D3
           cases D3
          have X4:Hid (∀c∈(S.data.toList.drop j3).take (i+1-j3),c∉([60] : List UInt8)):=fun c hc=>by
           have h1:i-j3<(S.data.toList.drop j3).length:=by rw[B6];omega
           rw[show i+1-j3=(i-j3)+1 by omega,l8 h1,D6,r8,List.getElem_drop]at hc
           rcases hc with hc|hc
           ·exact N3.out c hc
           ·rw[hc,r8]
            intro e;refine M8 (Eq.trans ?_ e)
            congr 1;omega
          have Z7:Hid (Value.int .i64 ((i:Int)+1)=Value.int .i64 ((i+1:Nat):Int)):=by show _=_;simp
          clear D3 M8 E5 X3
          go_wp2_with fail
          go_quiet ((go_at_call 57;exact E3.out _))
          go_wp2
          go_roundw
          case rel =>
           rw[Z7.out];have V8:=HM.out.below (i7 (b8 wr.heap.size wr) nq);exact⟨i+1,by omega,V8.go (by omega),HR.out.trans ((M3.of HM.out (i7 (b8 wr.heap.size wr) nq)).trans (M3.go V8 (by omega))),X4.out⟩
          case measure =>
           have V8:=HM.out.below (i7 (b8 wr.heap.size wr) nq);rw[Z7.out,T1.out,R9 (V8.go (j:=i+1) (by omega))];omega
         |true =>
          rw[D3]at E3
          have Z8:S.data.toList.drop i=[]∨∃z,S.data.toList.drop i=60::z:=by
           obtain⟨r,hr⟩:=a8I.1 D3;exact .inr ⟨r,I6 hr⟩
          have X5:=a8 Z8;clear D3 E5 X3 Z8
          go_wp2_with fail
          go_quiet ((go_at_call 57;exact E3.out _))
          have L0:=HM.out.below (i7 (b8 wr.heap.size wr) nq);have E1:=HR.out.trans (M3.of HM.out (i7 (b8 wr.heap.size wr) nq));clear d0 d1 d3 dl df hd E3;generalize wr.drewN nq=w4 at *;obtain⟨u1,u2⟩:=a91 S9.out.rest P9 N3.out X5.out;obtain⟨Y,hY⟩ : ∃Y,S.extract j3 i=Y:=⟨_,rfl⟩
          have T2:Y=ba (G9 [60] s.rest):=by
           apply G0
           rw[B5,u1,<-hY,J5,List.drop_take]
          have N4:∀w,(Instr.slice 9 (.string S) (some (.int .i64 (j3:Int))) (some (.int .i64 (i:Int))) none).run Tryz.prog w=.ok (.string Y) w:=fun w=>by
           rw[<-hY];exact Y9 S P9 dle w
          have X6:=a0S [60] s.rest;have N5:=a8x [60] s.rest
          have N6:Hid (∀w',Calls Tryz.prog 104 #[.string Y] w' fun e w''=>e=.returned (.tuple #[.string (ba ((J7 (G9 [60] s.rest)).getD [])),.bool (J7 (G9 [60] s.rest)).isSome])/\Below w'.heap.size w' w''):=fun w'=>by
           rw[T2];exact a6o (G9 [60] s.rest) (by omega) w'
          have M8:s.rest≠[]:=fun e=>by rw[e]at P3;simp at P3;omega
          have T3:1<=(G9 [60] s.rest).length:=by
           have N7:m9 [60] s.rest=none:=by
            cases hq:m9 [60] s.rest with
            |none=>rfl
            |some r=>have:=HL.out;rw[L8 hq]at this;cases this
           obtain⟨d,z,hd,N8⟩:=a6s N7 M8;rw[hd];unfold G9;rw[List.takeWhile_cons_of_pos (by simpa using N8)];simp
          have L1:((J7 (G9 [60] s.rest)).getD []).length<=4*(G9 [60] s.rest).length:=by
           cases hc:J7 (G9 [60] s.rest)with
           |none=>simp
           |some y=>rw[Option.getD_some];exact a4y hc
          have h4:S5 w4 B rb S (s.to (S.data.toList.drop i)) vn' ys:=H3.out.rst E1 rfl;have L2:=HT.out;have T4:(J7 (G9 [60] s.rest)).isNone = !(J7 (G9 [60] s.rest)).isSome:=by cases J7 (G9 [60] s.rest)<;>rfl
          rw[T4,u2]at L2;obtain⟨y,hy⟩ : ∃y,(J7 (G9 [60] s.rest)).getD []=y:=⟨_,rfl⟩;obtain⟨okb,T5⟩ : ∃okb,(J7 (G9 [60] s.rest)).isSome=okb:=⟨_,rfl⟩;rw[hy,T5]at L2 N6;rw[hy]at L1;have T6:(S.data.toList.drop i).length+(G9 [60] s.rest).length=s.rest.length:=by rw[<-u2];omega
          obtain⟨V,hV⟩ : ∃V,ba y=V:=⟨_,rfl⟩;rw[hV]at N6;have hVs:V.size<=400000:=by rw[<-hV,I9];omega
          have Z5:Z.size<=1000000:=by rw[<-HZ.out,I9];omega
          have HY:Hid (Value.string (Z++V)=.string (ba (t++y))):=by show _=_;rw[<-HZ.out,<-hV,a5d]
          have T7:(s.to (S.data.toList.drop i)).bad=false:=G8;have X7:=a8 L2;have E6:=a8 (D5 T6 (D5 L1 T3));have H4:=a8 h4;have M5:=a8 (P8.out.rst E1);have E4:=a8 (J4.out.trans (E1.below D9.out (d8 D2 J4.out.size)));have X8:=a8 L0;obtain⟨e0,e1,_,_⟩:=L0.cells;have el:=L0.lt;clear L0 E1 h4 L2 T4 T6 L1 T3 M8 hY T2 hy T5 hV X6 N5 u1 u2 P9
          go_upto_region 9 with fail
          go_cut [6,7] (fun c1' c2' wx=>c1'=.string V/\c2'=.bool okb/\Below w4.heap.size w4 wx)
          case first =>
           go_region_with (first|(go_at_call 104;refine(N6.out _).mono ?_;rintro e w6 ⟨rfl,M9⟩))
           all_goals
            have N9:=a8 (((b8 w4.heap.size w4).drew).trans M9);clear M9
            go_wp2_with fail
            go_meet
            exact⟨rfl,rfl,N9.out⟩
          case rest =>
           obtain⟨rfl,rfl,D1⟩:=hcut;clear e0 e1 el;have E7:=X8.out.below D1;have e3:=E7.cells.2.2.2;rw[T7]at e3;have ef:=E7.frozen 3;have el:=E7.lt;have H6:=a8 (H4.out.below D1);have L3:=a8 (M5.out.trans (L7.of_below D1));have E8:=a8 (E4.out.trans (D1.mono (d8 D2 E4.out.size)));have X9:=a8 E7;clear D1 E7;go_wp2;have G1:=M3.mark X9.out (!okb)
           have G4:({ (s.to (S.data.toList.drop i))with bad:=!okb }:Rf)=(s.to (S.data.toList.drop i)).or (!okb):=by
            unfold Rf.or;rw[T7];rfl
           rw[G4]at G1;have H7:=a8 (H6.out.rst G1 rfl);have P0:=a8 (L3.out.rst G1);have P1:=a8 (E8.out.trans (G1.below D9.out (d8 D2 E8.out.size)));clear G1 G4
           go_roundw
           case rel =>
            have:=E6.out.1;have:=E6.out.2.1;have:=E6.out.2.2;have L4:((s.to (S.data.toList.drop i)).or (!okb)).rest.length=(S.data.toList.drop i).length:=rfl;exact⟨k,t++y,(s.to (S.data.toList.drop i)).or (!okb),vn',ys,HY.out,by rw[L4];omega,X7.out,H7.out,P0.out,P1.out,V1.out.of rfl,S0.out,by rw[e8,L4];omega,by unfold R6 at M4 ⊢;rw[L4];show s.ns.length+_+_<=_;split<;>omega,by rw[L4];omega⟩
           case measure =>
            have:=E6.out.1;have:=E6.out.2.2;obtain⟨j7,G5⟩:=H7.out.rc;have Y0:((s.to (S.data.toList.drop i)).or (!okb)).rest.length=(S.data.toList.drop i).length:=rfl;rw[E2.out,R9 G5,<-G5.len,Y0];omega
        ·have hd:decide ((i:Int)<(S.size:Int))=false:=f8 (by omega)
         have X5:Hid (S.data.toList.drop i=[]∨∃z,S.data.toList.drop i=60::z):=.inl (List.drop_eq_nil_of_le (by rw[<-j9];omega))
         go_wp2_with fail
         go_quiet (fail)
         have L0:=HM.out.below (i7 (b8 wr.heap.size wr) nq);have E1:=HR.out.trans (M3.of HM.out (i7 (b8 wr.heap.size wr) nq));clear d0 d1 d3 dl df hd E3;generalize wr.drewN nq=w4 at *;obtain⟨u1,u2⟩:=a91 S9.out.rest P9 N3.out X5.out;obtain⟨Y,hY⟩ : ∃Y,S.extract j3 i=Y:=⟨_,rfl⟩
         have T2:Y=ba (G9 [60] s.rest):=by
          apply G0
          rw[B5,u1,<-hY,J5,List.drop_take]
         have N4:∀w,(Instr.slice 9 (.string S) (some (.int .i64 (j3:Int))) (some (.int .i64 (i:Int))) none).run Tryz.prog w=.ok (.string Y) w:=fun w=>by
          rw[<-hY];exact Y9 S P9 dle w
         have X6:=a0S [60] s.rest;have N5:=a8x [60] s.rest
         have N6:Hid (∀w',Calls Tryz.prog 104 #[.string Y] w' fun e w''=>e=.returned (.tuple #[.string (ba ((J7 (G9 [60] s.rest)).getD [])),.bool (J7 (G9 [60] s.rest)).isSome])/\Below w'.heap.size w' w''):=fun w'=>by
          rw[T2];exact a6o (G9 [60] s.rest) (by omega) w'
         have M8:s.rest≠[]:=fun e=>by rw[e]at P3;simp at P3;omega
         have T3:1<=(G9 [60] s.rest).length:=by
          have N7:m9 [60] s.rest=none:=by
           cases hq:m9 [60] s.rest with
           |none=>rfl
           |some r=>have:=HL.out;rw[L8 hq]at this;cases this
          obtain⟨d,z,hd,N8⟩:=a6s N7 M8;rw[hd];unfold G9;rw[List.takeWhile_cons_of_pos (by simpa using N8)];simp
         have L1:((J7 (G9 [60] s.rest)).getD []).length<=4*(G9 [60] s.rest).length:=by
          cases hc:J7 (G9 [60] s.rest)with
          |none=>simp
          |some y=>rw[Option.getD_some];exact a4y hc
         have h4:S5 w4 B rb S (s.to (S.data.toList.drop i)) vn' ys:=H3.out.rst E1 rfl;have L2:=HT.out;have T4:(J7 (G9 [60] s.rest)).isNone = !(J7 (G9 [60] s.rest)).isSome:=by cases J7 (G9 [60] s.rest)<;>rfl
         rw[T4,u2]at L2;obtain⟨y,hy⟩ : ∃y,(J7 (G9 [60] s.rest)).getD []=y:=⟨_,rfl⟩;obtain⟨okb,T5⟩ : ∃okb,(J7 (G9 [60] s.rest)).isSome=okb:=⟨_,rfl⟩;rw[hy,T5]at L2 N6;rw[hy]at L1;have T6:(S.data.toList.drop i).length+(G9 [60] s.rest).length=s.rest.length:=by rw[<-u2];omega
         obtain⟨V,hV⟩ : ∃V,ba y=V:=⟨_,rfl⟩;rw[hV]at N6;have hVs:V.size<=400000:=by rw[<-hV,I9];omega
         have Z5:Z.size<=1000000:=by rw[<-HZ.out,I9];omega
         have HY:Hid (Value.string (Z++V)=.string (ba (t++y))):=by show _=_;rw[<-HZ.out,<-hV,a5d]
         have T7:(s.to (S.data.toList.drop i)).bad=false:=G8;have X7:=a8 L2;have E6:=a8 (D5 T6 (D5 L1 T3));have H4:=a8 h4;have M5:=a8 (P8.out.rst E1);have E4:=a8 (J4.out.trans (E1.below D9.out (d8 D2 J4.out.size)));have X8:=a8 L0;obtain⟨e0,e1,_,_⟩:=L0.cells;have el:=L0.lt;clear L0 E1 h4 L2 T4 T6 L1 T3 M8 hY T2 hy T5 hV X6 N5 u1 u2 P9
         go_upto_region 9 with fail
         go_cut [6,7] (fun c1' c2' wx=>c1'=.string V/\c2'=.bool okb/\Below w4.heap.size w4 wx)
         case first =>
          go_region_with (first|(go_at_call 104;refine(N6.out _).mono ?_;rintro e w6 ⟨rfl,M9⟩))
          all_goals
           have N9:=a8 (((b8 w4.heap.size w4).drew).trans M9);clear M9
           go_wp2_with fail
           go_meet
           exact⟨rfl,rfl,N9.out⟩
         case rest =>
          obtain⟨rfl,rfl,D1⟩:=hcut;clear e0 e1 el;have E7:=X8.out.below D1;have e3:=E7.cells.2.2.2;rw[T7]at e3;have ef:=E7.frozen 3;have el:=E7.lt;have H6:=a8 (H4.out.below D1);have L3:=a8 (M5.out.trans (L7.of_below D1));have E8:=a8 (E4.out.trans (D1.mono (d8 D2 E4.out.size)));have X9:=a8 E7;clear D1 E7;go_wp2;have G1:=M3.mark X9.out (!okb)
          have G4:({ (s.to (S.data.toList.drop i))with bad:=!okb }:Rf)=(s.to (S.data.toList.drop i)).or (!okb):=by
           unfold Rf.or;rw[T7];rfl
          rw[G4]at G1;have H7:=a8 (H6.out.rst G1 rfl);have P0:=a8 (L3.out.rst G1);have P1:=a8 (E8.out.trans (G1.below D9.out (d8 D2 E8.out.size)));clear G1 G4
          go_roundw
          case rel =>
           have:=E6.out.1;have:=E6.out.2.1;have:=E6.out.2.2;have L4:((s.to (S.data.toList.drop i)).or (!okb)).rest.length=(S.data.toList.drop i).length:=rfl;exact⟨k,t++y,(s.to (S.data.toList.drop i)).or (!okb),vn',ys,HY.out,by rw[L4];omega,X7.out,H7.out,P0.out,P1.out,V1.out.of rfl,S0.out,by rw[e8,L4];omega,by unfold R6 at M4 ⊢;rw[L4];show s.ns.length+_+_<=_;split<;>omega,by rw[L4];omega⟩
          case measure =>
           have:=E6.out.1;have:=E6.out.2.2;obtain⟨j7,G5⟩:=H7.out.rc;have Y0:((s.to (S.data.toList.drop i)).or (!okb)).rest.length=(S.data.toList.drop i).length:=rfl;rw[E2.out,R9 G5,<-G5.len,Y0];omega
      |true =>
       rw[hl]at P7
       have G6:Hid ((if F3 [60,33,45,45] s=true then M6 (M0 f) k n [] (a0d n (J2 n t s))else if F3 [60,63] s=true then M6 (M0 f) k n [] (W5 n (J2 n t s))else M6 (M0 f) k n [] (M0 f n (J2 n t s)))=T):=by
        have:=J6.out;rw[f6 (by rw[hl];simp)]at this
        exact this
       clear J6;have T8:=(a2D n t s).1;have Y1:(J2 n t s).rest.length=s.rest.length:=by rw[T8]
       have Z9:=a8R n t s;have hpk:=b18 V1.out (by omega:t.length<=2000000) R7.out S0.out
       have hpm:=(a0i n t s).2.1.length_le;have hnp:n<((J2 n t s).ns.length:Int):=by have:=S0.out;omega
       have Y2:(J2 n t s).rest.length<=100000:=by omega
       have L5:R6 (J2 n t s)<=800000:=by unfold R6 at M4 ⊢;rw[Z9,Y1];omega
       have hsc:F3 [60,33,45,45] s=F3 [60,33,45,45] (J2 n t s):=by unfold F3;rw[T8]
       have hsi:F3 [60,63] s=F3 [60,63] (J2 n t s):=by unfold F3;rw[T8]
       have N4:F3 [60] (J2 n t s)=true:=by rw[<-hl];unfold F3;rw[T8]
       rw[hsc,hsi]at G6
       have HPP:Hid (∀w',S5 w' B rb S s vn' ys->Calls Tryz.prog 105 #[.pointer (some ⟨rb,0,none⟩),.int .i64 n,.string Z] w' fun e w''=>e=.returned (.tuple #[])/\U4 B rb S (J2 n t s) vn' w' w''):=fun w' hm=>by
        rw[<-HZ.out];exact b3b S B rb s vn' ys n t w' hm (by omega)
       generalize J2 n t s=sP at *;have G7:=a8 (D5 hpk hnp);clear hl hsc hsi T8 Z9 hpk hnp hpm S1
       go_wp2_with fail
       refine P7.out.mono ?_;rintro e w3⟨rfl,E0⟩;have h3:=H2.out.rst E0 rfl;have X2:=a8 (HPP.out w3 h3);have P8:=a8 (V6.out.rst E0);have J4:=a8 (N1.out.trans (E0.below D9.out (d8 D2 N1.out.size)));clear E0 h3
       go_wp2_with fail
       refine X2.out.mono ?_;rintro e w4⟨rfl,⟨vn4,ys4,h4,hg4⟩,hb4⟩;have M5:=a8 (P8.out.trans hg4);have E4:=a8 (J4.out.trans hb4);have H4:=a8 h4;obtain⟨j4,S8⟩:=h4.rc;have hys4:ys4.length<=800000:=by rw[h4.len];unfold R6 at L5;omega
       have V9:Hid (Calls Tryz.prog 57 #[.pointer (some ⟨rb,0,none⟩),.string ⟨#[60,33,45,45]⟩] w4 fun e w''=>e=.returned (.bool (F3 [60,33,45,45] sP))/\M3 rb S vn4 sP w4 w''):=O3 S ⟨#[60,33,45,45]⟩ rb vn4 sP j4 w4 S8 (by omega) (by decide)
       clear hg4 hb4 h4 S8;cases P2:F3 [60,33,45,45] sP with
       |true =>
        rw[P2]at V9
        have HT:Hid (M6 (M0 f) k n [] (a0d n sP)=T):=by
         have:=G6.out;rw[g8 P2]at this;exact this
        have L1:=a5W (n:=n) P2;have P6:=a9C n sP;have L6:=a8 (D5 (b2K G7.out.1 Y2 R7.out G7.out.2) P6);clear G6 P2 N4 P6
        go_wp2_with fail
        refine V9.out.mono ?_;rintro e w5⟨rfl,L9⟩;have h5:=H4.out.rst L9 rfl;have R0:=a8 (a4z S B rb sP vn4 ys4 n w5 h5 (by omega) (by omega))
        have X0:=a8 (M5.out.rst L9);have R1:=a8 (E4.out.trans (L9.below D9.out (d8 D2 E4.out.size)));clear L9 h5
        go_wp2_with fail
        refine R0.out.mono ?_;rintro e w6⟨rfl,⟨vn6,ys6,h6,hg6⟩,M9⟩;have L3:=a8 (X0.out.trans hg6);have E8:=a8 (R1.out.trans M9);have H6:=a8 h6;clear hg6 M9 h6;go_wp2
        go_roundw
        case rel=>exact⟨k,[],a0d n sP,vn6,ys6,rfl,by omega,HT.out,H6.out,L3.out,E8.out,L6.out.1,by rw[L6.out.2];have:=G7.out.2;omega,by simp;omega,by rw[g8 rfl];have:=L6.out.2;unfold R6 at L5 ⊢;omega,by omega⟩
        case measure =>
         obtain⟨j6,hj6⟩:=H6.out.rc;rw[E2.out,R9 hj6,<-hj6.len];omega
       |false =>
        rw[P2]at V9
        have M1:Hid ((if F3 [60,63] sP=true then M6 (M0 f) k n [] (W5 n sP)else M6 (M0 f) k n [] (M0 f n sP))=T):=by
         have:=G6.out;rw[f6 (by rw[P2];simp)]at this
         exact this
        clear G6 P2
        go_wp2_with fail
        refine V9.out.mono ?_;rintro e w5⟨rfl,L9⟩;have h5:=H4.out.rst L9 rfl;obtain⟨j5,hj5⟩:=h5.rc;have R0:Hid (Calls Tryz.prog 57 #[.pointer (some ⟨rb,0,none⟩),.string ⟨#[60,63]⟩] w5 fun e w''=>e=.returned (.bool (F3 [60,63] sP))/\M3 rb S vn4 sP w5 w''):=O3 S ⟨#[60,63]⟩ rb vn4 sP j5 w5 hj5 (by omega) (by decide)
        have H5:=a8 h5;have X0:=a8 (M5.out.rst L9);have R1:=a8 (E4.out.trans (L9.below D9.out (d8 D2 E4.out.size)));clear L9 h5 hj5;cases J8:F3 [60,63] sP with
        |true =>
         rw[J8]at R0
         have HT:Hid (M6 (M0 f) k n [] (W5 n sP)=T):=by
          have:=M1.out;rw[g8 J8]at this;exact this
         have L1:=a5M (n:=n) J8;have P6:=a5L n sP;have L6:=a8 (D5 (a9g G7.out.1 Y2 R7.out G7.out.2) P6);clear M1 J8 N4 P6
         go_wp2_with fail
         refine R0.out.mono ?_;rintro e w6⟨rfl,M2⟩;have h6:=H5.out.rst M2 rfl;have Y3:=a8 (a10 S B rb sP vn4 ys4 n w6 h6 (by omega) (by omega))
         have L3:=a8 (X0.out.rst M2);have E8:=a8 (R1.out.trans (M2.below D9.out (d8 D2 R1.out.size)));clear M2 h6
         go_wp2_with fail
         refine Y3.out.mono ?_;rintro e w7⟨rfl,⟨vn7,ys7,h7,T9⟩,V0⟩;have P0:=a8 (L3.out.trans T9);have P1:=a8 (E8.out.trans V0);have H7:=a8 h7;clear T9 V0 h7;go_wp2
         go_roundw
         case rel=>exact⟨k,[],W5 n sP,vn7,ys7,rfl,by omega,HT.out,H7.out,P0.out,P1.out,L6.out.1,by rw[L6.out.2];have:=G7.out.2;omega,by simp;omega,by rw[g8 rfl];have:=L6.out.2;unfold R6 at L5 ⊢;omega,by omega⟩
         case measure =>
          obtain⟨j7,G5⟩:=H7.out.rc;rw[E2.out,R9 G5,<-G5.len];omega
        |false =>
         rw[J8]at R0
         have HT:Hid (M6 (M0 f) k n [] (M0 f n sP)=T):=by
          have:=M1.out;rw[f6 (by rw[J8];simp)]at this
          exact this
         obtain⟨b1,b2,b3⟩:=b2E f n sP G7.out.1 Y2 (by omega) R7.out G7.out.2
         have b3':=b3 N4;have hmn:=(a1i f n sP).2.1.length_le;have Y4:=a1v N4;simp only[i8,t7]at Y4;have hdec:(M0 f n sP).rest.length<sP.rest.length:=by unfold R6 at b3';omega
         have Y5:R6 (M0 f n sP)<=800000:=by omega
         have hEE:=fun w' (hm:S5 w' B rb S sP vn4 ys4)=>HEE.out S B rb sP vn4 ys4 n w' hm hS (by omega) (by omega) G7.out.1 R7.out G7.out.2 L5
         have HE2:=a8 hEE;have L6:=a8 b1;clear M1 J8 N4 b1 b2 b3 b3' hEE
         go_wp2_with fail
         refine R0.out.mono ?_;rintro e w6⟨rfl,M2⟩;have h6:=H5.out.rst M2 rfl;have Y3:=a8 (HE2.out w6 h6);have L3:=a8 (X0.out.rst M2);have E8:=a8 (R1.out.trans (M2.below D9.out (d8 D2 R1.out.size)));clear M2 h6
         go_wp2_with fail
         refine Y3.out.mono ?_;rintro e w7⟨rfl,⟨vn7,ys7,h7,T9⟩,V0⟩;have P0:=a8 (L3.out.trans T9);have P1:=a8 (E8.out.trans V0);have H7:=a8 h7;clear T9 V0 h7;go_wp2
         go_roundw
         case rel=>exact⟨k,[],M0 f n sP,vn7,ys7,rfl,by omega,HT.out,H7.out,P0.out,P1.out,L6.out,by have:=G7.out.2;omega,by simp;omega,by rw[g8 rfl];exact Y5,by omega⟩
         case measure =>
          obtain⟨j7,G5⟩:=H7.out.rc;rw[E2.out,R9 G5,<-G5.len];omega
   ·have hd:decide ((j:Int)<(S.size:Int))=false:=f8 (by omega)
    have N0:s.rest=[]:=j8 (by omega)
    rw[g8 (.inr (.inl N0))]at hT;have HT:=a8 hT;clear hT
    go_wp2_with fail
    go_quiet (fail)
    go_wp2_with fail
    obtain⟨d1,d2,d3⟩:=S4.out nq;refine(S3.out _ d1 d2 d3 HT.out).mono ?_;rintro e w2⟨rfl,ha⟩;have HA:=a8 ha;clear ha d1 d2 d3;go_wp2
    go_end0
    exact⟨rfl,HA.out⟩
end Go.Proofs.YteinegfbpfhflaaGreatDoor
