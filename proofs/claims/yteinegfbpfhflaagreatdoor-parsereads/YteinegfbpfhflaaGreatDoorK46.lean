/-
  apostilleref08.Reader: instruction. Conditions: the reader lies as it is; there are not too many nodes.
  apostilleref08.Reader: aside. Conditions: the reader lies as it is; there are not too many nodes.
-/
import Derived.Test.YteinegfbpfhflaaGreatDoorK45
namespace Go.Proofs.YteinegfbpfhflaaGreatDoor
open Go.RowKit
set_option linter.unusedVariables false
set_option maxRecDepth 100000
set_option maxHeartbeats 32000000
theorem a10(S:ByteArray)(B rb:Nat)(s:Rf)(vn:Value)(ys:List Ny)(n:Int)(w:World)(h:S5 w B rb S s vn ys)(hS:S.size<=1000000)(V5:ys.length<=900000) :
 Calls Tryz.prog 64 #[.pointer (some ⟨rb,0,none⟩),.int .i64 n] w fun e w'=>e=.returned (.tuple #[])/\U4 B rb S (W5 n s) vn w w':=by
 have T4:=h.lt;have J4:B<=w.heap.size:=d8 h.lo (A6 T4);obtain⟨k,hk⟩:=h.rc;have T5:Hid (Calls Tryz.prog 59 #[.pointer (some ⟨rb,0,none⟩),.string ⟨#[60,63]⟩] w fun e w'=>e=.returned (.tuple #[])/\M3 rb S vn (D0 [60,63] s) w w'):=U7 S ⟨#[60,63]⟩ rb vn s k w hk hS (by decide)
 have J5:=a8 h.lo;have H:=a8 h;have R7:W5 n s=(J3 [63,62] (a0v (O5 (D0 [60,63] s)))).2.add ⟨4,n,⟨#[]⟩,ba (a1H (D0 [60,63] s)),⟨#[]⟩,ba (J3 [63,62] (a0v (O5 (D0 [60,63] s)))).1,[],[]⟩:=rfl;rw[R7];have R8:=P5 [60,63] s;generalize D0 [60,63] s=s1 at *;have T6:Hid (∀w' k',U5 w' rb S vn s1 k'->_):=fun w' k' hm=>a4W S rb vn s1 k' w' hm hS;have R9:=b2k s1;generalize ba (a1H s1)=L at *;generalize O5 s1=s2 at *;have T7:Hid (∀w' k',U5 w' rb S vn s2 k'->Calls Tryz.prog 57 #[.pointer (some ⟨rb,0,none⟩),.string ⟨#[63,62]⟩] w' fun e w''=>e=.returned (.bool (F3 [63,62] s2))/\M3 rb S vn s2 w' w''):=fun w' k' hm=>O3 S ⟨#[63,62]⟩ rb vn s2 k' w' hm hS (by decide)
 have T8:Hid (∀w' k',U5 w' rb S vn s2 k'->_):=fun w' k' hm=>U2 S rb vn s2 k' w' hm hS;obtain⟨s3,M1⟩ : ∃s3,a0v s2=s3:=⟨_,rfl⟩;rw[M1];have S0:s3.ns=s2.ns:=by rw[<-M1];unfold a0v;split<;>rfl
 have P3:Hid (∀w' k',U5 w' rb S vn s3 k'->Calls Tryz.prog 101 #[.pointer (some ⟨rb,0,none⟩),.string ⟨#[63,62]⟩] w' fun e w''=>e=.returned (.string (ba (J3 [63,62] s3).1))/\M3 rb S vn (J3 [63,62] s3).2 w' w''):=fun w' k' hm=>a1M S ⟨#[63,62]⟩ 63 [62] rfl rb vn s3 k' w' hm hS (by decide)
 have S1:=a1E [63,62] s3;generalize (J3 [63,62] s3).2=s4 at *;generalize ba (J3 [63,62] s3).1=Z at *;have HN:=a8 (D5 R8 (D5 R9 (D5 S0 S1)));obtain⟨An,cn,rfl,V6,T9⟩:=q9 h.rn;obtain⟨i0,P4,P6,P7,P8⟩:=info_parts a1W;obtain⟨yn,P9⟩ : ∃yn:Ny,yn=⟨⟨4,n,⟨#[]⟩,L,⟨#[]⟩,Z,[],[]⟩,.slice none 0 0,.slice none 0 0⟩:=⟨_,rfl⟩;have M2:=a8 P9
 have S2:Hid ([yn].flatMap nyC=[.int .i64 4,.int .i64 n,.string ⟨#[]⟩,.string L,.string ⟨#[]⟩,.string Z,.slice none 0 0,.slice none 0 0]):=by
  show _=_
  rw[P9];rfl
 have R0:Hid (∀W:World,∀j u,([yn].flatMap nyC)[j]? = some u->(W.alloc (Obj.cells #[.int .i64 4,.int .i64 n,.string ⟨#[]⟩,.string L,.string ⟨#[]⟩,.string Z,.slice none 0 0,.slice none 0 0] 42)).cell? ((⟨W.heap.size,0,none⟩ : Addr).add j)=some u):=fun W j u hu=>by
  rw[S2.out]at hu;exact World.news_of_block (g9 W (Obj.cells #[.int .i64 4,.int .i64 n,.string ⟨#[]⟩,.string L,.string ⟨#[]⟩,.string Z,.slice none 0 0,.slice none 0 0] 42)) j u hu
 have R1:Hid (∀u∈[yn].flatMap nyC,u.oneCell'=true):=fun u hu=>by
  rw[S2.out]at hu;simp only[q8,C5,or_false]at hu;rcases hu with rfl|rfl|rfl|rfl|rfl|rfl|rfl|rfl<;>rfl
 have S3:=a8 M1;clear h hk R7 R8 R9 S0 S1 P9 M1;go_enter Tryz.func64,Tryz.ntmps64
 go_wp2_with fail
 refine T5.out.mono ?_;rintro e w1⟨rfl,M7⟩;have h1:S5 w1 B rb S s1 (.slice An ys.length cn) ys:=H.out.rst M7 HN.out.1;obtain⟨k1,S4⟩:=h1.rc;have S6:=a8 (M7.below J5.out J4);have V0:Hid (L7 rb (.slice An ys.length cn) (.slice An ys.length cn) w w1):=⟨fun b hb E3 _=>M7.other b hb E3,fun b hb => .inl hb,M7.size⟩;have H1:=a8 h1;have HC:=a8 (T6.out w1 k1 S4);clear M7 h1 S4
 go_wp2_with fail
 refine HC.out.mono ?_;rintro e w2⟨rfl,M8⟩;have h2:S5 w2 B rb S s2 (.slice An ys.length cn) ys:=H1.out.rst M8 HN.out.2.1;have M9:B<=w1.heap.size:=d8 J4 S6.out.size;have N0:=a8 (S6.out.trans (M8.below J5.out M9));have V1:Hid (L7 rb (.slice An ys.length cn) (.slice An ys.length cn) w w2):=V0.out.trans ⟨fun b hb E3 _=>M8.other b hb E3,fun b hb => .inl hb,M8.size⟩;clear M8 M9;obtain⟨xb,R2⟩ : ∃xb,w2.heap.size=xb:=⟨_,rfl⟩;obtain⟨w2a,J6⟩ : ∃w2a,w2.alloc (Obj.cells #[.int .i64 4,.int .i64 n,.string ⟨#[]⟩,.string L,.string ⟨#[]⟩,.string ⟨#[]⟩,.slice none 0 0,.slice none 0 0] 42)=w2a:=⟨_,rfl⟩;have P1:Below w2.heap.size w2 w2a:=by rw[<-J6];exact(b8 _ _).alloc (c9 _) _
 have S7:w2a.heap[xb]? = some (.cells #[.int .i64 4,.int .i64 n,.string ⟨#[]⟩,.string L,.string ⟨#[]⟩,.string ⟨#[]⟩,.slice none 0 0,.slice none 0 0] 42 (0,0)):=by rw[<-J6,<-R2];exact g9 w2 _
 have R3:=h2.below P1;have S8:xb≠rb:=by have:=h2.lt;omega
 have S9:(Value.slice An ys.length cn).ownBlock≠some xb:=fun e=>by have:=(h2.rn.lt xb e).2;omega
 have T1:B<=xb:=by have:=J5.out;have:=h2.lt;omega
 have G4:=a8 (N0.out.trans (P1.mono (d8 J4 N0.out.size)));have L8:=a8 (V1.out.trans (L7.of_below P1));have HX:=a8 (D5 S8 (D5 S9 T1));have M4:=a8 S7;have R4:=a8 R3;have M5:=a8 R2;have L9:=a8 J6;obtain⟨k2,T2⟩:=R3.rc;have N1:=a8 (T7.out w2a k2 T2);clear h2 P1 S7 R3 S8 S9 T1 R2 J6 T2;cases M6:F3 [63,62] s2 with
 |true =>
  rw[M6]at N1;have M1:s2=s3:=by rw[<-S3.out];unfold a0v;rw[g8 M6]
  subst M1;clear M6
  go_wp2_with fail
  rw[L9.out,M5.out];refine N1.out.mono ?_;rintro e w3⟨rfl,E4⟩;have h3:S5 w3 B rb S s2 (.slice An ys.length cn) ys:=R4.out.rst E4 rfl;obtain⟨k3,J7⟩:=h3.rc;have E7:=(E4.other xb (i3 M4.out) HX.out.1).trans M4.out;have J8:=a8 (G4.out.trans (E4.below J5.out (d8 J4 G4.out.size)));have N2:Hid (L7 rb (.slice An ys.length cn) (.slice An ys.length cn) w w3):=L8.out.trans ⟨fun b hb E3 _=>E4.other b hb E3,fun b hb => .inl hb,E4.size⟩;have H3:=a8 h3;have E8:=a8 E7;have N3:=a8 (P3.out w3 k3 J7);clear E4 h3 J7 E7
  go_wp2_with fail
  refine N3.out.mono ?_;rintro e w4⟨rfl,E5⟩;have h4:S5 w4 B rb S s4 (.slice An ys.length cn) ys:=H3.out.rst E5 HN.out.2.2.2;have D3:=(E5.other xb (i3 E8.out) HX.out.1).trans E8.out;have p5:w4.cell? ⟨xb,5,none⟩=some (.string ⟨#[]⟩):=by rw[d9 w4 xb 5 _ _ _ D3];rfl
  have pf5:w4.frozen? ⟨xb,5,none⟩=false:=by unfold World.frozen?;rw[D3];simp
  have N4:=i3 D3;have J9:=J8.out.trans (E5.below J5.out (d8 J4 J8.out.size));have L0:L7 rb (.slice An ys.length cn) (.slice An ys.length cn) w w4:=N2.out.trans ⟨fun b hb E3 _=>E5.other b hb E3,fun b hb => .inl hb,E5.size⟩;have L1:=a8 J9;have L2:=a8 L0;have H4:=a8 h4;have E1:=a8 D3;clear E5 h4 D3 J9 L0
  go_upto_region 5 with fail
  obtain⟨w5,E6⟩ : ∃w5,w4.setCell ⟨xb,5,none⟩ (.string Z)=w5:=⟨_,rfl⟩;rw[E6];have E2:w5.heap[xb]? = some (.cells #[.int .i64 4,.int .i64 n,.string ⟨#[]⟩,.string L,.string ⟨#[]⟩,.string Z,.slice none 0 0,.slice none 0 0] 42 (0,0)):=by rw[<-E6,o8 E1.out];rfl
  have D2:∀b,b≠xb->w5.heap[b]? = w4.heap[b]?:=fun b hb=>by rw[<-E6];exact f7 _ _ _ _ hb
  have G6:w5.heap.size=w4.heap.size:=by rw[<-E6];simp[World.setCell]
  have h5:S5 w5 B rb S s4 (.slice An ys.length cn) ys:=by
   obtain⟨k4,G7⟩:=H4.out.rc;have keep:∀{e q m:Nat} {v:Value} {xs:List Value},w4.ownsRow B e q v m xs->v.ownBlock≠some xb->w5.ownsRow B e q v m xs:=fun {e q m v xs} ho N5=>r6 ho (fun b hb _=>D2 b (fun e0=>N5 (e0 ▸ hb)));exact⟨H4.out.lo,⟨k4,G7.le,G7.rest,(D2 rb (Ne.symm HX.out.1)).trans G7.box⟩,H4.out.ns,keep H4.out.rn HX.out.2.1,fun y hy=>⟨keep (H4.out.ry y hy).1 (O4 (H4.out.ry y hy).1 E1.out (by decide)),keep (H4.out.ry y hy).2 (O4 (H4.out.ry y hy).2 E1.out (by decide))⟩⟩
  have L3:Below B w w5:=by rw[<-E6];exact L1.out.setCell (p:=⟨xb,5,none⟩) HX.out.2.2 _
  have N6:w.heap.size<=xb:=by have:=N0.out.size;have:=M5.out;omega
  have L4:L7 rb (.slice An ys.length cn) (.slice An ys.length cn) w w5:=⟨fun b hb E3 L5=>(D2 b (by omega)).trans (L2.out.els b hb E3 L5),fun b hb => .inl hb,by have:=L2.out.size;omega⟩
  have D1:=((b8 w5.heap.size w5).drew.block xb (i3 E2)).trans E2;have a0:w5.drew.cell? ⟨xb,0,none⟩=some (.int .i64 4):=by rw[d9 _ xb 0 _ _ _ D1];rfl
  have a1:w5.drew.cell? ⟨xb,1,none⟩=some (.int .i64 n):=by rw[d9 _ xb 1 _ _ _ D1];rfl
  have a2:w5.drew.cell? ⟨xb,2,none⟩=some (.string ⟨#[]⟩):=by rw[d9 _ xb 2 _ _ _ D1];rfl
  have a3:w5.drew.cell? ⟨xb,3,none⟩=some (.string L):=by rw[d9 _ xb 3 _ _ _ D1];rfl
  have a4:w5.drew.cell? ⟨xb,4,none⟩=some (.string ⟨#[]⟩):=by rw[d9 _ xb 4 _ _ _ D1];rfl
  have a5:w5.drew.cell? ⟨xb,5,none⟩=some (.string Z):=by rw[d9 _ xb 5 _ _ _ D1];rfl
  have a6:w5.drew.cell? ⟨xb,6,none⟩=some (.slice none 0 0):=by rw[d9 _ xb 6 _ _ _ D1];rfl
  have a7:w5.drew.cell? ⟨xb,7,none⟩=some (.slice none 0 0):=by rw[d9 _ xb 7 _ _ _ D1];rfl
  have h6:=h5.below ((b8 w5.heap.size w5).drew);have r2:=h6.rc.choose_spec.cells.2.2.1;have rl:=h6.lt;have G0:B<=w5.drew.heap.size:=by have:=L1.out.size;show B<=w5.heap.size;omega
  have kA:∀ob,(w5.drew.alloc ob).cell? ⟨rb,2,none⟩=some (.slice An ys.length cn):=fun ob=>(((b8 w5.drew.heap.size w5.drew).alloc (c9 _) ob).cell (p:=⟨rb,2,none⟩) rl).trans r2;have kB:∀ob,(w5.alloc ob).cell? ⟨rb,2,none⟩=some (.slice An ys.length cn):=fun ob=>(((b8 w5.heap.size w5).alloc (c9 _) ob).cell (p:=⟨rb,2,none⟩) h5.lt).trans h5.rc.choose_spec.cells.2.2.1;have N7:B<=w5.heap.size:=G0;have rl6:rb<w5.heap.size:=rl;have H6:=a8 h6;have N8:=a8 (L3.trans ((b8 B w5).drew));have N9:=a8 (L4.trans (L7.of_below ((b8 w5.heap.size w5).drew)));clear E6 E2 D2 G6 h5 L3 L4 D1 h6 p5 pf5 N4 N6
  go_region_law (refine U3 (P:=Tryz.prog) rfl (.tmp 29) (.tmp 31) 28 rfl B 42 i0 _ 8 _ Tryz.underlying28 P4 P6 P7 P8 rfl (by omega) (.slice An ys.length cn) ys.length (ys.flatMap nyC) rfl (H6.out.rn.alloc _) 1 (.slice (some ⟨w5.drew.heap.size,0,none⟩) 1 1) rfl ([yn].flatMap nyC) (.inr ⟨_,1,rfl,R0.out w5.drew⟩) rfl R1.out (by unfold maxLen;omega) (by omega) (by simp;omega) ?_;intro v1 wa E0 D9 L6;rw[<-D8]at E0;obtain⟨g1,g2,g3⟩:=H6.out.grown D9 L6 E0 (M2.out ▸ ⟨r5 _ _ _ _,r5 _ _ _ _⟩) G0;have G8:=(D9.block rb (by simp;omega) (fun e=>O4 H6.out.rn H6.out.rc.choose_spec.box (by decide) e.symm)).trans ((((b8 w5.drew.heap.size w5.drew).alloc (c9 _) _).block rb H6.out.lt).trans H6.out.rc.choose_spec.box);have kc:wa.cell? ⟨rb,2,none⟩=some (.slice An ys.length cn):=(by rw[d9 wa rb 2 _ _ _ G8];rfl);have kf:wa.frozen? ⟨rb,2,none⟩=false:=(by unfold World.frozen?;rw[G8];simp);have HG:=a8 (D5 g1 (D5 g2 g3));obtain⟨A1,c1',rfl,_,_⟩:=q9 E0;clear G8 E0 D9 L6 g1 g2 g3)
  all_goals
   have G9:Hid (U4 B rb S (s4.add ⟨4,n,⟨#[]⟩,L,⟨#[]⟩,Z,[],[]⟩) (.slice An ys.length cn) w (wa.setCell ⟨rb,2,none⟩ (.slice A1 (ys.length+1) c1'))):=by
    obtain⟨g1,g2,g3⟩:=HG.out;rw[M2.out]at g1;exact⟨⟨_,_,g1,N9.out.trans g2⟩,N8.out.trans g3⟩
   clear HG kc kf
   go_end0
   exact⟨rfl,G9.out⟩
 |false =>
  rw[M6]at N1;have R5:Hid (∀w' k',U5 w' rb S (.slice An ys.length cn) s2 k'->_):=fun w' k' hm=>T8.out w' k' hm;have hQ:(C8 s2).or (decide (Y6 s2=0))=s3:=by rw[<-S3.out];unfold a0v;rw[f6 (by rw[M6];simp)]
  obtain⟨bn,L5⟩ : ∃bn,Y6 s2=bn:=⟨_,rfl⟩;rw[L5]at R5 hQ;have T3:(C8 s2).ns=s2.ns:=rfl;generalize C8 s2=sb at *;have V2:=a8 T3;clear M6 L5 T3;by_cases hz:bn=0
  ·have V3:((bn:Int)==0)=true:=by rw[hz];rfl
   have P2:sb.fail=s3:=by rw[<-hQ,hz,i6 rfl,a6y]
   have V4:=a8 P2;clear hQ P2 hz
   go_wp2_with fail
   rw[L9.out,M5.out];refine N1.out.mono ?_;rintro e w3a⟨rfl,G1⟩;obtain⟨k3a,J1⟩:=G1.at';have M0:=a8 G1;have R6:=a8 (R5.out w3a k3a J1);clear G1 J1
   go_wp2_with fail
   refine R6.out.mono ?_;rintro e w3b⟨rfl,G5⟩;obtain⟨k3b,J2⟩:=G5.at';obtain⟨_,_,_,p3⟩:=J2.cells;have pf:=J2.frozen 3;have pl:=J2.lt;have P0:=a8 (M0.out.trans (G5.trans (M3.mark J2 true)));clear G5 J2
   go_upto_region 4 with fail
   have E4:M3 rb S (.slice An ys.length cn) s3 w2a (w3b.setCell ⟨rb,3,none⟩ (.bool true)):=by
    have:=P0.out;rw[show({ sb with bad:=true }:Rf)=s3 from V4.out]at this;exact this
   clear P0 p3 pf pl;generalize w3b.setCell ⟨rb,3,none⟩ (.bool true)=w3 at *;have h3:S5 w3 B rb S s3 (.slice An ys.length cn) ys:=R4.out.rst E4 HN.out.2.2.1;obtain⟨k3,J7⟩:=h3.rc;have E7:=(E4.other xb (i3 M4.out) HX.out.1).trans M4.out;have J8:=a8 (G4.out.trans (E4.below J5.out (d8 J4 G4.out.size)));have N2:Hid (L7 rb (.slice An ys.length cn) (.slice An ys.length cn) w w3):=L8.out.trans ⟨fun b hb E3 _=>E4.other b hb E3,fun b hb => .inl hb,E4.size⟩;have H3:=a8 h3;have E8:=a8 E7;have N3:=a8 (P3.out w3 k3 J7);clear E4 h3 J7 E7
   go_wp2_with fail
   refine N3.out.mono ?_;rintro e w4⟨rfl,E5⟩;have h4:S5 w4 B rb S s4 (.slice An ys.length cn) ys:=H3.out.rst E5 HN.out.2.2.2;have D3:=(E5.other xb (i3 E8.out) HX.out.1).trans E8.out;have p5:w4.cell? ⟨xb,5,none⟩=some (.string ⟨#[]⟩):=by rw[d9 w4 xb 5 _ _ _ D3];rfl
   have pf5:w4.frozen? ⟨xb,5,none⟩=false:=by unfold World.frozen?;rw[D3];simp
   have N4:=i3 D3;have J9:=J8.out.trans (E5.below J5.out (d8 J4 J8.out.size));have L0:L7 rb (.slice An ys.length cn) (.slice An ys.length cn) w w4:=N2.out.trans ⟨fun b hb E3 _=>E5.other b hb E3,fun b hb => .inl hb,E5.size⟩;have L1:=a8 J9;have L2:=a8 L0;have H4:=a8 h4;have E1:=a8 D3;clear E5 h4 D3 J9 L0
   go_upto_region 5 with fail
   obtain⟨w5,E6⟩ : ∃w5,w4.setCell ⟨xb,5,none⟩ (.string Z)=w5:=⟨_,rfl⟩;rw[E6];have E2:w5.heap[xb]? = some (.cells #[.int .i64 4,.int .i64 n,.string ⟨#[]⟩,.string L,.string ⟨#[]⟩,.string Z,.slice none 0 0,.slice none 0 0] 42 (0,0)):=by rw[<-E6,o8 E1.out];rfl
   have D2:∀b,b≠xb->w5.heap[b]? = w4.heap[b]?:=fun b hb=>by rw[<-E6];exact f7 _ _ _ _ hb
   have G6:w5.heap.size=w4.heap.size:=by rw[<-E6];simp[World.setCell]
   have h5:S5 w5 B rb S s4 (.slice An ys.length cn) ys:=by
    obtain⟨k4,G7⟩:=H4.out.rc;have keep:∀{e q m:Nat} {v:Value} {xs:List Value},w4.ownsRow B e q v m xs->v.ownBlock≠some xb->w5.ownsRow B e q v m xs:=fun {e q m v xs} ho N5=>r6 ho (fun b hb _=>D2 b (fun e0=>N5 (e0 ▸ hb)));exact⟨H4.out.lo,⟨k4,G7.le,G7.rest,(D2 rb (Ne.symm HX.out.1)).trans G7.box⟩,H4.out.ns,keep H4.out.rn HX.out.2.1,fun y hy=>⟨keep (H4.out.ry y hy).1 (O4 (H4.out.ry y hy).1 E1.out (by decide)),keep (H4.out.ry y hy).2 (O4 (H4.out.ry y hy).2 E1.out (by decide))⟩⟩
   have L3:Below B w w5:=by rw[<-E6];exact L1.out.setCell (p:=⟨xb,5,none⟩) HX.out.2.2 _
   have N6:w.heap.size<=xb:=by have:=N0.out.size;have:=M5.out;omega
   have L4:L7 rb (.slice An ys.length cn) (.slice An ys.length cn) w w5:=⟨fun b hb E3 L5=>(D2 b (by omega)).trans (L2.out.els b hb E3 L5),fun b hb => .inl hb,by have:=L2.out.size;omega⟩
   have D1:=((b8 w5.heap.size w5).drew.block xb (i3 E2)).trans E2;have a0:w5.drew.cell? ⟨xb,0,none⟩=some (.int .i64 4):=by rw[d9 _ xb 0 _ _ _ D1];rfl
   have a1:w5.drew.cell? ⟨xb,1,none⟩=some (.int .i64 n):=by rw[d9 _ xb 1 _ _ _ D1];rfl
   have a2:w5.drew.cell? ⟨xb,2,none⟩=some (.string ⟨#[]⟩):=by rw[d9 _ xb 2 _ _ _ D1];rfl
   have a3:w5.drew.cell? ⟨xb,3,none⟩=some (.string L):=by rw[d9 _ xb 3 _ _ _ D1];rfl
   have a4:w5.drew.cell? ⟨xb,4,none⟩=some (.string ⟨#[]⟩):=by rw[d9 _ xb 4 _ _ _ D1];rfl
   have a5:w5.drew.cell? ⟨xb,5,none⟩=some (.string Z):=by rw[d9 _ xb 5 _ _ _ D1];rfl
   have a6:w5.drew.cell? ⟨xb,6,none⟩=some (.slice none 0 0):=by rw[d9 _ xb 6 _ _ _ D1];rfl
   have a7:w5.drew.cell? ⟨xb,7,none⟩=some (.slice none 0 0):=by rw[d9 _ xb 7 _ _ _ D1];rfl
   have h6:=h5.below ((b8 w5.heap.size w5).drew);have r2:=h6.rc.choose_spec.cells.2.2.1;have rl:=h6.lt;have G0:B<=w5.drew.heap.size:=by have:=L1.out.size;show B<=w5.heap.size;omega
   have kA:∀ob,(w5.drew.alloc ob).cell? ⟨rb,2,none⟩=some (.slice An ys.length cn):=fun ob=>(((b8 w5.drew.heap.size w5.drew).alloc (c9 _) ob).cell (p:=⟨rb,2,none⟩) rl).trans r2;have kB:∀ob,(w5.alloc ob).cell? ⟨rb,2,none⟩=some (.slice An ys.length cn):=fun ob=>(((b8 w5.heap.size w5).alloc (c9 _) ob).cell (p:=⟨rb,2,none⟩) h5.lt).trans h5.rc.choose_spec.cells.2.2.1;have N7:B<=w5.heap.size:=G0;have rl6:rb<w5.heap.size:=rl;have H6:=a8 h6;have N8:=a8 (L3.trans ((b8 B w5).drew));have N9:=a8 (L4.trans (L7.of_below ((b8 w5.heap.size w5).drew)));clear E6 E2 D2 G6 h5 L3 L4 D1 h6 p5 pf5 N4 N6
   go_region_law (refine U3 (P:=Tryz.prog) rfl (.tmp 29) (.tmp 31) 28 rfl B 42 i0 _ 8 _ Tryz.underlying28 P4 P6 P7 P8 rfl (by omega) (.slice An ys.length cn) ys.length (ys.flatMap nyC) rfl (H6.out.rn.alloc _) 1 (.slice (some ⟨w5.drew.heap.size,0,none⟩) 1 1) rfl ([yn].flatMap nyC) (.inr ⟨_,1,rfl,R0.out w5.drew⟩) rfl R1.out (by unfold maxLen;omega) (by omega) (by simp;omega) ?_;intro v1 wa E0 D9 L6;rw[<-D8]at E0;obtain⟨g1,g2,g3⟩:=H6.out.grown D9 L6 E0 (M2.out ▸ ⟨r5 _ _ _ _,r5 _ _ _ _⟩) G0;have G8:=(D9.block rb (by simp;omega) (fun e=>O4 H6.out.rn H6.out.rc.choose_spec.box (by decide) e.symm)).trans ((((b8 w5.drew.heap.size w5.drew).alloc (c9 _) _).block rb H6.out.lt).trans H6.out.rc.choose_spec.box);have kc:wa.cell? ⟨rb,2,none⟩=some (.slice An ys.length cn):=(by rw[d9 wa rb 2 _ _ _ G8];rfl);have kf:wa.frozen? ⟨rb,2,none⟩=false:=(by unfold World.frozen?;rw[G8];simp);have HG:=a8 (D5 g1 (D5 g2 g3));obtain⟨A1,c1',rfl,_,_⟩:=q9 E0;clear G8 E0 D9 L6 g1 g2 g3)
   all_goals
    have G9:Hid (U4 B rb S (s4.add ⟨4,n,⟨#[]⟩,L,⟨#[]⟩,Z,[],[]⟩) (.slice An ys.length cn) w (wa.setCell ⟨rb,2,none⟩ (.slice A1 (ys.length+1) c1'))):=by
     obtain⟨g1,g2,g3⟩:=HG.out;rw[M2.out]at g1;exact⟨⟨_,_,g1,N9.out.trans g2⟩,N8.out.trans g3⟩
    clear HG kc kf
    go_end0
    exact⟨rfl,G9.out⟩
  ·have V3:((bn:Int)==0)=false:=by rw[e9];omega
   have P2:sb=s3:=by rw[<-hQ,f8 hz,T0]
   subst P2;clear hQ hz
   go_wp2_with fail
   rw[L9.out,M5.out];refine N1.out.mono ?_;rintro e w3a⟨rfl,G1⟩;obtain⟨k3a,J1⟩:=G1.at';have M0:=a8 G1;have R6:=a8 (R5.out w3a k3a J1);clear G1 J1
   go_wp2_with fail
   refine R6.out.mono ?_;rintro e w3⟨rfl,G5⟩;have E4:=M0.out.trans G5;clear G5;have h3:S5 w3 B rb S sb (.slice An ys.length cn) ys:=R4.out.rst E4 V2.out;obtain⟨k3,J7⟩:=h3.rc;have E7:=(E4.other xb (i3 M4.out) HX.out.1).trans M4.out;have J8:=a8 (G4.out.trans (E4.below J5.out (d8 J4 G4.out.size)));have N2:Hid (L7 rb (.slice An ys.length cn) (.slice An ys.length cn) w w3):=L8.out.trans ⟨fun b hb E3 _=>E4.other b hb E3,fun b hb => .inl hb,E4.size⟩;have H3:=a8 h3;have E8:=a8 E7;have N3:=a8 (P3.out w3 k3 J7);clear E4 h3 J7 E7
   go_wp2_with fail
   refine N3.out.mono ?_;rintro e w4⟨rfl,E5⟩;have h4:S5 w4 B rb S s4 (.slice An ys.length cn) ys:=H3.out.rst E5 HN.out.2.2.2;have D3:=(E5.other xb (i3 E8.out) HX.out.1).trans E8.out;have p5:w4.cell? ⟨xb,5,none⟩=some (.string ⟨#[]⟩):=by rw[d9 w4 xb 5 _ _ _ D3];rfl
   have pf5:w4.frozen? ⟨xb,5,none⟩=false:=by unfold World.frozen?;rw[D3];simp
   have N4:=i3 D3;have J9:=J8.out.trans (E5.below J5.out (d8 J4 J8.out.size));have L0:L7 rb (.slice An ys.length cn) (.slice An ys.length cn) w w4:=N2.out.trans ⟨fun b hb E3 _=>E5.other b hb E3,fun b hb => .inl hb,E5.size⟩;have L1:=a8 J9;have L2:=a8 L0;have H4:=a8 h4;have E1:=a8 D3;clear E5 h4 D3 J9 L0
   go_upto_region 5 with fail
   obtain⟨w5,E6⟩ : ∃w5,w4.setCell ⟨xb,5,none⟩ (.string Z)=w5:=⟨_,rfl⟩;rw[E6];have E2:w5.heap[xb]? = some (.cells #[.int .i64 4,.int .i64 n,.string ⟨#[]⟩,.string L,.string ⟨#[]⟩,.string Z,.slice none 0 0,.slice none 0 0] 42 (0,0)):=by rw[<-E6,o8 E1.out];rfl
   have D2:∀b,b≠xb->w5.heap[b]? = w4.heap[b]?:=fun b hb=>by rw[<-E6];exact f7 _ _ _ _ hb
   have G6:w5.heap.size=w4.heap.size:=by rw[<-E6];simp[World.setCell]
   have h5:S5 w5 B rb S s4 (.slice An ys.length cn) ys:=by
    obtain⟨k4,G7⟩:=H4.out.rc;have keep:∀{e q m:Nat} {v:Value} {xs:List Value},w4.ownsRow B e q v m xs->v.ownBlock≠some xb->w5.ownsRow B e q v m xs:=fun {e q m v xs} ho N5=>r6 ho (fun b hb _=>D2 b (fun e0=>N5 (e0 ▸ hb)));exact⟨H4.out.lo,⟨k4,G7.le,G7.rest,(D2 rb (Ne.symm HX.out.1)).trans G7.box⟩,H4.out.ns,keep H4.out.rn HX.out.2.1,fun y hy=>⟨keep (H4.out.ry y hy).1 (O4 (H4.out.ry y hy).1 E1.out (by decide)),keep (H4.out.ry y hy).2 (O4 (H4.out.ry y hy).2 E1.out (by decide))⟩⟩
   have L3:Below B w w5:=by rw[<-E6];exact L1.out.setCell (p:=⟨xb,5,none⟩) HX.out.2.2 _
   have N6:w.heap.size<=xb:=by have:=N0.out.size;have:=M5.out;omega
   have L4:L7 rb (.slice An ys.length cn) (.slice An ys.length cn) w w5:=⟨fun b hb E3 L5=>(D2 b (by omega)).trans (L2.out.els b hb E3 L5),fun b hb => .inl hb,by have:=L2.out.size;omega⟩
   have D1:=((b8 w5.heap.size w5).drew.block xb (i3 E2)).trans E2;have a0:w5.drew.cell? ⟨xb,0,none⟩=some (.int .i64 4):=by rw[d9 _ xb 0 _ _ _ D1];rfl
   have a1:w5.drew.cell? ⟨xb,1,none⟩=some (.int .i64 n):=by rw[d9 _ xb 1 _ _ _ D1];rfl
   have a2:w5.drew.cell? ⟨xb,2,none⟩=some (.string ⟨#[]⟩):=by rw[d9 _ xb 2 _ _ _ D1];rfl
   have a3:w5.drew.cell? ⟨xb,3,none⟩=some (.string L):=by rw[d9 _ xb 3 _ _ _ D1];rfl
   have a4:w5.drew.cell? ⟨xb,4,none⟩=some (.string ⟨#[]⟩):=by rw[d9 _ xb 4 _ _ _ D1];rfl
   have a5:w5.drew.cell? ⟨xb,5,none⟩=some (.string Z):=by rw[d9 _ xb 5 _ _ _ D1];rfl
   have a6:w5.drew.cell? ⟨xb,6,none⟩=some (.slice none 0 0):=by rw[d9 _ xb 6 _ _ _ D1];rfl
   have a7:w5.drew.cell? ⟨xb,7,none⟩=some (.slice none 0 0):=by rw[d9 _ xb 7 _ _ _ D1];rfl
   have h6:=h5.below ((b8 w5.heap.size w5).drew);have r2:=h6.rc.choose_spec.cells.2.2.1;have rl:=h6.lt;have G0:B<=w5.drew.heap.size:=by have:=L1.out.size;show B<=w5.heap.size;omega
   have kA:∀ob,(w5.drew.alloc ob).cell? ⟨rb,2,none⟩=some (.slice An ys.length cn):=fun ob=>(((b8 w5.drew.heap.size w5.drew).alloc (c9 _) ob).cell (p:=⟨rb,2,none⟩) rl).trans r2;have kB:∀ob,(w5.alloc ob).cell? ⟨rb,2,none⟩=some (.slice An ys.length cn):=fun ob=>(((b8 w5.heap.size w5).alloc (c9 _) ob).cell (p:=⟨rb,2,none⟩) h5.lt).trans h5.rc.choose_spec.cells.2.2.1;have N7:B<=w5.heap.size:=G0;have rl6:rb<w5.heap.size:=rl;have H6:=a8 h6;have N8:=a8 (L3.trans ((b8 B w5).drew));have N9:=a8 (L4.trans (L7.of_below ((b8 w5.heap.size w5).drew)));clear E6 E2 D2 G6 h5 L3 L4 D1 h6 p5 pf5 N4 N6
   go_region_law (refine U3 (P:=Tryz.prog) rfl (.tmp 29) (.tmp 31) 28 rfl B 42 i0 _ 8 _ Tryz.underlying28 P4 P6 P7 P8 rfl (by omega) (.slice An ys.length cn) ys.length (ys.flatMap nyC) rfl (H6.out.rn.alloc _) 1 (.slice (some ⟨w5.drew.heap.size,0,none⟩) 1 1) rfl ([yn].flatMap nyC) (.inr ⟨_,1,rfl,R0.out w5.drew⟩) rfl R1.out (by unfold maxLen;omega) (by omega) (by simp;omega) ?_;intro v1 wa E0 D9 L6;rw[<-D8]at E0;obtain⟨g1,g2,g3⟩:=H6.out.grown D9 L6 E0 (M2.out ▸ ⟨r5 _ _ _ _,r5 _ _ _ _⟩) G0;have G8:=(D9.block rb (by simp;omega) (fun e=>O4 H6.out.rn H6.out.rc.choose_spec.box (by decide) e.symm)).trans ((((b8 w5.drew.heap.size w5.drew).alloc (c9 _) _).block rb H6.out.lt).trans H6.out.rc.choose_spec.box);have kc:wa.cell? ⟨rb,2,none⟩=some (.slice An ys.length cn):=(by rw[d9 wa rb 2 _ _ _ G8];rfl);have kf:wa.frozen? ⟨rb,2,none⟩=false:=(by unfold World.frozen?;rw[G8];simp);have HG:=a8 (D5 g1 (D5 g2 g3));obtain⟨A1,c1',rfl,_,_⟩:=q9 E0;clear G8 E0 D9 L6 g1 g2 g3)
   all_goals
    have G9:Hid (U4 B rb S (s4.add ⟨4,n,⟨#[]⟩,L,⟨#[]⟩,Z,[],[]⟩) (.slice An ys.length cn) w (wa.setCell ⟨rb,2,none⟩ (.slice A1 (ys.length+1) c1'))):=by
     obtain⟨g1,g2,g3⟩:=HG.out;rw[M2.out]at g1;exact⟨⟨_,_,g1,N9.out.trans g2⟩,N8.out.trans g3⟩
    clear HG kc kf
    go_end0
    exact⟨rfl,G9.out⟩
def a3A(w:World)(rb:Nat):Nat:=match w.cell? ⟨rb,1,none⟩with
 |some (.int _ k)=>k.toNat
 |_=>0
theorem R9{w:World}{b:Nat}{S:ByteArray}{v:Value}{s:Rf}{k:Nat}(h:U5 w b S v s k):a3A w b=k:=by
 unfold a3A;rw[h.cells.2.1];simp
theorem a1v{p:List UInt8}{s:Rf}(h:F3 p s=true):(D0 p s).rest.length+p.length=s.rest.length:=by
 obtain⟨r,hr⟩:=a8I.1 h;rw[L4 hr];have:=a08 hr
 show r.length+_=_;omega
theorem a5W{n:Int}{s:Rf}(h:F3 [60,33,45,45] s=true):(a0d n s).rest.length+4<=s.rest.length:=by
 have h1:=a1v h;have h2:=((V7 [45,45,62] (D0 [60,33,45,45] s)).trans (a0k _ ⟨3,n,⟨#[]⟩,⟨#[]⟩,⟨#[]⟩,ba (J3 [45,45,62] (D0 [60,33,45,45] s)).1,[],[]⟩)).len;have e:a0d n s=(J3 [45,45,62] (D0 [60,33,45,45] s)).2.add ⟨3,n,⟨#[]⟩,⟨#[]⟩,⟨#[]⟩,ba (J3 [45,45,62] (D0 [60,33,45,45] s)).1,[],[]⟩:=rfl;rw[e];simp only[i8,t7]at h1;omega
theorem a5M{n:Int}{s:Rf}(h:F3 [60,63] s=true):(W5 n s).rest.length+2<=s.rest.length:=by
 have h1:=a1v h;have h2:=((a1g (D0 [60,63] s)).trans ((a3c _).trans (V7 [63,62] _))).len;have e:(W5 n s).rest=(J3 [63,62] (a0v (O5 (D0 [60,63] s)))).2.rest:=rfl;rw[e];simp only[i8,t7]at h1;omega
theorem b3r(s:Rf):(a0v s).ns=s.ns:=by unfold a0v;split<;>rfl
theorem a9C(n:Int)(s:Rf):(a0d n s).ns.length=s.ns.length+1:=by
 show((J3 [45,45,62] (D0 [60,33,45,45] s)).2.ns++[_]).length=_
 rw[a1E,P5,e8,j0]
theorem a5L(n:Int)(s:Rf):(W5 n s).ns.length=s.ns.length+1:=by
 show((J3 [63,62] (a0v (O5 (D0 [60,63] s)))).2.ns++[_]).length=_
 rw[a1E,b3r,b2k,P5,e8,j0]
def b7T(w:World)(B rb:Nat)(S:ByteArray)(vn:Value)(M:Nat)(T:Rf)(v:Value)(wr:World):Prop :=
 ∃(n:Nat) (s:Rf) (vn':Value) (ys:List Ny),s.rest.length<n/\a1t n s=T/\S5 wr B rb S s vn' ys/\L7 rb vn vn' w wr/\Below B w wr/\s.ns.length+s.rest.length<=M
theorem L7.rst{rb:Nat}{S:ByteArray}{v v':Value}{s:Rf}{w w1 w2:World}(h:L7 rb v v' w w1)(hr:M3 rb S v' s w1 w2):L7 rb v v' w w2:=h.trans ⟨fun b hb D0 _=>hr.other b hb D0,fun b hb => .inl hb,hr.size⟩
theorem a8r(S:ByteArray)(B rb:Nat)(s:Rf)(vn:Value)(ys:List Ny)(n:Nat)(w:World)(h:S5 w B rb S s vn ys)(hS:S.size<=1000000)(hn:s.rest.length<n)(hM:s.ns.length+s.rest.length<=800000) :
 Calls Tryz.prog 34 #[.pointer (some ⟨rb,0,none⟩)] w fun e w'=>e=.returned (.tuple #[])/\U4 B rb S (a1t n s) vn w w':=by
 have L0:=h.lt;have E0:B<=w.heap.size:=d8 h.lo (A6 L0);have E1:=a8 h.lo;obtain⟨T,hT⟩ : ∃T,a1t n s=T:=⟨_,rfl⟩;rw[hT];have E2:Hid (∀v,b7T w B rb S vn 800000 T v w):=fun v=>⟨n,s,vn,ys,hn,hT,h,L7.of_below (b8 _ _),b8 _ _,hM⟩;clear h hT hn hM;go_enter Tryz.func34,Tryz.ntmps34;go_wp2
 go_loopw [5] (b7T w B rb S vn 800000 T) (fun _ wr=>S.size-a3A wr rb)
 case atStart=>exact E2.out _
 case round =>
  clear E2;obtain⟨n,s,vn',ys,hn,hT,h,hg,hb,hM⟩:=hrel;obtain⟨k,hk⟩:=h.rc;have c3:=hk.cells.2.2.2;have M1:=hk.lt;have E3:S.size-a3A wr rb=s.rest.length:=by rw[R9 hk,hk.len]
  have E4:=a8 E3;have H:=a8 h;have HG:=a8 hg;have HB:=a8 hb;have HK:=a8 hk;clear h hg hb hk E3;cases n with
  |zero=>omega
  |succ n =>
  rw[a1t]at hT;cases E5:s.bad with
  |true =>
   rw[E5]at c3 hT;rw[g8 rfl]at hT;have HT:=a8 hT;clear hT;go_wp2
   go_end0
   exact⟨rfl,⟨_,_,HT.out ▸ H.out,HG.out⟩,HB.out⟩
  |false =>
   rw[E5]at c3 hT;rw[f6 (by simp)]at hT
   have L1:=a8 (U2 S rb vn' s k wr HK.out hS);have D0:(C8 s).ns=s.ns:=rfl;have M2:=(I8 s).len;generalize C8 s=s1 at *;have L2:Hid (∀w' k',U5 w' rb S vn' s1 k'->Calls Tryz.prog 57 #[.pointer (some ⟨rb,0,none⟩),.string ⟨#[60,33,45,45]⟩] w' fun e w''=>e=.returned (.bool (F3 [60,33,45,45] s1))/\M3 rb S vn' s1 w' w''):=fun w' k' hm=>O3 S ⟨#[60,33,45,45]⟩ rb vn' s1 k' w' hm hS (by decide)
   have L3:Hid (∀w' k',U5 w' rb S vn' s1 k'->Calls Tryz.prog 57 #[.pointer (some ⟨rb,0,none⟩),.string ⟨#[60,63]⟩] w' fun e w''=>e=.returned (.bool (F3 [60,63] s1))/\M3 rb S vn' s1 w' w''):=fun w' k' hm=>O3 S ⟨#[60,63]⟩ rb vn' s1 k' w' hm hS (by decide)
   have L4:Hid (∀w',S5 w' B rb S s1 vn' ys->_):=fun w' hm=>a4z S B rb s1 vn' ys 0 w' hm hS (by rw[hm.len,D0];omega)
   have L5:Hid (∀w',S5 w' B rb S s1 vn' ys->_):=fun w' hm=>a10 S B rb s1 vn' ys 0 w' hm hS (by rw[hm.len,D0];omega)
   have G8:=a8 D0;have G0:=a8 hT;clear hT D0
   go_wp2_with fail
   refine L1.out.mono ?_;rintro e w1⟨rfl,G1⟩;have h1:=H.out.rst G1 G8.out;obtain⟨k1,J1⟩:=h1.rc;have G4:=a8 (L2.out w1 k1 J1);have H1:=a8 h1;have J2:=a8 (HG.out.rst G1);have G5:=a8 (HB.out.trans (G1.below E1.out (d8 E0 HB.out.size)));clear G1 h1 J1;cases hc:F3 [60,33,45,45] s1 with
   |true =>
    rw[hc]at G4
    have HT:Hid (a1t n (a0d 0 s1)=T):=by
     have:=G0.out;rw[g8 hc]at this;exact this
    have L6:=a5W (n:=0) hc;have E6:=a9C 0 s1;have G9:=a8 E6;clear G0 hc E6
    go_wp2_with fail
    refine G4.out.mono ?_;rintro e w2⟨rfl,D1⟩;have h2:=H1.out.rst D1 rfl;have D3:=a8 (L4.out w2 h2);have G6:=a8 (J2.out.rst D1);have D9:=a8 (G5.out.trans (D1.below E1.out (d8 E0 G5.out.size)));clear D1 h2
    go_wp2_with fail
    refine D3.out.mono ?_;rintro e w3⟨rfl,⟨vn3,ys3,h3,J3⟩,J4⟩;have E7:=a8 (G6.out.trans J3);have E8:=a8 (D9.out.trans J4);have H3:=a8 h3;clear J3 J4 h3;go_wp2
    go_roundw
    case rel=>exact⟨n,a0d 0 s1,vn3,ys3,by omega,HT.out,H3.out,E7.out,E8.out,by rw[G9.out,G8.out];omega⟩
    case measure =>
     obtain⟨k3,J5⟩:=H3.out.rc;rw[E4.out,R9 J5,<-J5.len];omega
   |false =>
    rw[hc]at G4
    have G7:Hid ((if F3 [60,63] s1=true then a1t n (W5 0 s1)else s1)=T):=by
     have:=G0.out;rw[f6 (by rw[hc];simp)]at this
     exact this
    clear G0 hc
    go_wp2_with fail
    refine G4.out.mono ?_;rintro e w2⟨rfl,D1⟩;have h2:=H1.out.rst D1 rfl;obtain⟨k2,J6⟩:=h2.rc;have D3:=a8 (L3.out w2 k2 J6);have H2:=a8 h2;have G6:=a8 (J2.out.rst D1);have D9:=a8 (G5.out.trans (D1.below E1.out (d8 E0 G5.out.size)));clear D1 h2 J6;cases hi:F3 [60,63] s1 with
    |true =>
     rw[hi]at D3
     have HT:Hid (a1t n (W5 0 s1)=T):=by
      have:=G7.out;rw[g8 hi]at this;exact this
     have L6:=a5M (n:=0) hi;have E6:=a5L 0 s1;have G9:=a8 E6;clear G7 hi E6
     go_wp2_with fail
     refine D3.out.mono ?_;rintro e w3⟨rfl,D2⟩;have h3:=H2.out.rst D2 rfl;have L8:=a8 (L5.out w3 h3);have E7:=a8 (G6.out.rst D2);have E8:=a8 (D9.out.trans (D2.below E1.out (d8 E0 D9.out.size)));clear D2 h3
     go_wp2_with fail
     refine L8.out.mono ?_;rintro e w4⟨rfl,⟨vn4,ys4,h4,J7⟩,J8⟩;have L9:=a8 (E7.out.trans J7);have M0:=a8 (E8.out.trans J8);have H4:=a8 h4;clear J7 J8 h4;go_wp2
     go_roundw
     case rel=>exact⟨n,W5 0 s1,vn4,ys4,by omega,HT.out,H4.out,L9.out,M0.out,by rw[G9.out,G8.out];omega⟩
     case measure =>
      obtain⟨k4,J9⟩:=H4.out.rc;rw[E4.out,R9 J9,<-J9.len];omega
    |false =>
     rw[hi]at D3
     have HT:Hid (s1=T):=by
      have:=G7.out;rw[f6 (by rw[hi];simp)]at this
      exact this
     clear G7 hi
     go_wp2_with fail
     refine D3.out.mono ?_;rintro e w3⟨rfl,D2⟩;have h3:=H2.out.rst D2 rfl;have H3:=a8 h3;have E7:=a8 (G6.out.rst D2);have E8:=a8 (D9.out.trans (D2.below E1.out (d8 E0 D9.out.size)));clear D2 h3;go_wp2;refine bodyPost_ret (results_none rfl _ _ _) rfl ?_;exact⟨rfl,⟨_,_,HT.out ▸ H3.out,E7.out⟩,E8.out⟩
end Go.Proofs.YteinegfbpfhflaaGreatDoor
