/-
  apostilleref08.Reader: element. Conditions: the reader lies as it is; what is in it is read as it is to be; nothing is too long.
-/
import Derived.Test.YteinegfbpfhflaaGreatDoorK50
import Derived.Deep.RegionHeld3
namespace Go.Proofs.YteinegfbpfhflaaGreatDoor
open Go.RowKit
set_option linter.unusedVariables false
set_option maxRecDepth 100000
set_option maxHeartbeats 128000000
theorem a9r{f:Nat}(HE:b7N f):b7N (f+1):=by
 intro S B rb s vn ys n w h hS hf _ hkp hn0 hnn hct;have hrl:=h.lt;have D9:B<=w.heap.size:=d8 h.lo (A6 hrl);have E1:=a8 h.lo;obtain⟨j,hj⟩:=h.rc;have R0:s.rest.length<=100000:=by have:=hj.len;omega
 have HTK:Hid (Calls Tryz.prog 59 #[.pointer (some ⟨rb,0,none⟩),.string ⟨#[60]⟩] w fun e w'=>e=.returned (.tuple #[])/\M3 rb S vn (D0 [60] s) w w'):=U7 S ⟨#[60]⟩ rb vn s j w hj (by omega) (by decide)
 obtain⟨m1,m2,m3,m4,m5,m6,m7⟩:=b3F (n:=n) R0;have hmo:=(a3e n s).len;have HKP:=a8 hkp;obtain⟨R,hR⟩ : ∃R,M0 (f+1) n s=R:=⟨_,rfl⟩;rw[hR];rw[M0]at hR;have hn1:=P5 [60] s;have hl1:=(G8 [60] s).len;have R1:W9 s=K8 (D0 [60] s):=rfl;have V9:F6 n s=Y4 ((W9 s).2.rest.length+1) (W9 s).2 ⟨1,n,ba (W9 s).1.1,ba (W9 s).1.2,⟨#[]⟩,⟨#[]⟩,[],[]⟩:=rfl
 have L9:(F6 n s).1.bad=false->(D0 [60] s).rest.length+1=s.rest.length:=fun hb=>by
  have hg:F3 [60] s=true:=by
   cases hq:F3 [60] s with
   |true=>rfl
   |false =>
    exfalso
    have:(F6 n s).1.bad=true:=(a1h _ _ _).1 (a9l (by
     rw[V5 (by
      cases hp:m9 [60] s.rest with
      |none=>rfl
      |some r=>rw[L8 hp]at hq;cases hq)];rfl))
    rw[hb]at this;cases this
  have:=a1v hg;simp only[i8,t7]at this;exact this
 have hml1:(F6 n s).1.rest.length<=(D0 [60] s).rest.length:=((X7 _).trans (a1h _ _ _)).len;have hfl:=(X7 (D0 [60] s)).len;rw[<-R1]at hfl;have M7:=a9k (D0 [60] s);rw[<-R1]at M7;have Y3:=a41 (D0 [60] s);rw[<-R1]at Y3;generalize D0 [60] s=s1 at *
 have R2:Hid (∀w' k',U5 w' rb S vn s1 k'->Calls Tryz.prog 65 #[.pointer (some ⟨rb,0,none⟩)] w' fun e w''=>e=.returned (.tuple #[.string (ba (W9 s).1.1),.string (ba (W9 s).1.2)])/\M3 rb S vn (W9 s).2 w' w''):=fun w' k' hm=>by
  rw[R1];exact a6U S rb vn s1 k' w' hm (by omega)
 generalize (W9 s).2=s2 at *;obtain⟨pl,hpl⟩ : ∃pl,(W9 s).1=pl:=⟨_,rfl⟩;rw[hpl]at m5 m6 V9 hR R2 M7;obtain⟨p,l⟩:=pl;dsimp only at m5 m6 V9 R2 M7
 have Y5:Hid (∀(W0 xb:Nat) (w':World),RX8 w' B W0 rb xb S s2 vn ys ⟨1,n,ba p,ba l,⟨#[]⟩,⟨#[]⟩,[],[]⟩->B<=W0->W0<=w'.heap.size->Calls Tryz.prog 66 #[.pointer (some ⟨rb,0,none⟩),.pointer (some ⟨xb,0,none⟩)] w' fun e w''=>e=.returned (.tuple #[])/\RX8 w'' B W0 rb xb S (F6 n s).1 vn ys (F6 n s).2/\Oth W0 rb w' w''/\Below B w' w''):=fun W0 xb w' hx h1 h2=>by
  rw[V9];exact b4H S B W0 rb xb s2 vn ys ⟨1,n,ba p,ba l,⟨#[]⟩,⟨#[]⟩,[],[]⟩ (s2.rest.length+1) w' hx h1 h2 hS (Nat.lt_succ_self _) (by simp;omega)
 have R3:(F6 n s).1.ns=s.ns:=m2;generalize (F6 n s).1=s3 at *;generalize (F6 n s).2=X at *;have HX:=a8 (D5 m1 (D5 m3 (D5 m4 (D5 m5 m6))));have P0:=a8 (D5 hn1 (D5 Y3 R3));have H:=a8 h;have HRR:=a8 hR;have HEE:=a8 HE;have HGD:=a8 L9;have R4:ys.length=s.ns.length:=h.len;have hysb:ys.length<=800000:=by unfold R6 at hct;omega
 have HYL:=a8 R4;obtain⟨W0,hW0⟩ : ∃W0,w.heap.size=W0:=⟨_,rfl⟩;have P1:=a8 hW0;obtain⟨P,hP⟩ : ∃P,ba p=P:=⟨_,rfl⟩;obtain⟨Lo,Y7⟩ : ∃Lo,ba l=Lo:=⟨_,rfl⟩;rw[hP,Y7]at R2 Y5;have HPL:=a8 (D5 hP Y7);have R5:∀b,vn.ownBlock=some b->b<W0:=fun b hb=>by rw[<-hW0];exact(h.rn.lt b hb).2
 have HVB:=a8 R5;clear h hj hkp m1 m2 m3 m4 m5 m6 R1 V9 hR hn1 Y3 R3 HE L9 hP Y7 R4 R5 hpl;go_enter Tryz.func35,Tryz.ntmps35
 go_wp2_with fail
 refine HTK.out.mono ?_;rintro e w1⟨rfl,R7⟩;have h1:=H.out.rst R7 P0.out.1;have Y8:=a8 (R7.below E1.out D9);have Y9:Hid (Oth W0 rb w w1):=Oth.rst R7 (by rw[P1.out];exact c9 _)
 obtain⟨xb,Z0⟩ : ∃xb,w1.heap.size=xb:=⟨_,rfl⟩;obtain⟨w1a,J2⟩ : ∃w1a,w1.alloc (Obj.cells #[.int .i64 1,.int .i64 n,.string ⟨#[]⟩,.string ⟨#[]⟩,.string ⟨#[]⟩,.string ⟨#[]⟩,.slice none 0 0,.slice none 0 0] 42)=w1a:=⟨_,rfl⟩;have X0:Below w1.heap.size w1 w1a:=by rw[<-J2];exact(b8 _ _).alloc (c9 _) _
 have G7:w1a.heap[xb]? = some (.cells #[.int .i64 1,.int .i64 n,.string ⟨#[]⟩,.string ⟨#[]⟩,.string ⟨#[]⟩,.string ⟨#[]⟩,.slice none 0 0,.slice none 0 0] 42 (0,0)):=by rw[<-J2,<-Z0];exact g9 w1 _
 have Z1:=h1.below X0;have hxr:xb≠rb:=by have:=h1.lt;omega
 have hxw:W0<=xb:=by have:=R7.size;omega
 have hxn:vn.ownBlock≠some xb:=fun e=>by have:=HVB.out xb e;omega
 obtain⟨j1,hj1⟩:=Z1.rc;have HC1:=a8 (R2.out w1a j1 hj1);have J3:=a8 (Y8.out.trans (X0.mono (d8 D9 Y8.out.size)));have M8:=a8 (Y9.out.trans (Oth.of (X0.mono (by have:=Y9.out.size;rw[P1.out]at this;exact this))))
 have D3:=a8 (D5 hxr (D5 hxn hxw));have H1:=a8 Z1;have Z2:=a8 G7;have HXB:=a8 Z0;have R8:=a8 J2;clear R7 h1 X0 G7 Z1 hxr hxn Z0 J2 hj1
 go_wp2_with fail
 rw[R8.out,HXB.out];refine HC1.out.mono ?_;rintro e w2⟨rfl,P2⟩;have E0:=(P2.other xb (i3 Z2.out) D3.out.1).trans Z2.out;have h2:=H1.out.rst P2 P0.out.2.1;have hsz2:W0<=w2.heap.size:=by have:=J3.out.size;have:=P2.size;omega
 have q2:w2.cell? ⟨xb,2,none⟩=some (.string ⟨#[]⟩):=by rw[d9 w2 xb 2 _ _ _ E0];rfl
 have q3:w2.cell? ⟨xb,3,none⟩=some (.string ⟨#[]⟩):=by rw[d9 w2 xb 3 _ _ _ E0];rfl
 have qf:∀i,w2.frozen? ⟨xb,i,none⟩=false:=fun i=>by unfold World.frozen?;rw[E0];simp
 have Z3:=i3 E0;have HG2:=a8 (M8.out.trans (Oth.rst P2 (by have:=M8.out.size;rw[P1.out]at this;exact this)))
 have HB2:=a8 (J3.out.trans (P2.below E1.out (d8 D9 J3.out.size)));have H2:=a8 h2;have J4:=a8 E0;clear P2 E0 h2
 go_upto_region 3 with fail
 obtain⟨w3,P3⟩ : ∃w3,(w2.setCell ⟨xb,2,none⟩ (.string P)).setCell ⟨xb,3,none⟩ (.string Lo)=w3:=⟨_,rfl⟩;rw[P3]
 have R9:w3.heap[xb]? = some (.cells #[.int .i64 1,.int .i64 n,.string P,.string Lo,.string ⟨#[]⟩,.string ⟨#[]⟩,.slice none 0 0,.slice none 0 0] 42 (0,0)):=by
  rw[<-P3,o8 (cs:=#[.int .i64 1,.int .i64 n,.string P,.string ⟨#[]⟩,.string ⟨#[]⟩,.string ⟨#[]⟩,.slice none 0 0,.slice none 0 0]) (by rw[o8 J4.out];rfl)];rfl
 have h3:S5 w3 B rb S s2 vn ys:=by
  rw[<-P3];exact(H2.out.setNode J4.out D3.out.2.1).setNode (cs:=#[.int .i64 1,.int .i64 n,.string P,.string ⟨#[]⟩,.string ⟨#[]⟩,.string ⟨#[]⟩,.slice none 0 0,.slice none 0 0]) (by rw[o8 J4.out];rfl) D3.out.2.1
 have Z4:Below xb w2 w3:=by rw[<-P3];exact((b8 xb w2).setCell (p:=⟨xb,2,none⟩) (c9 _) _).setCell (p:=⟨xb,3,none⟩) (c9 _) _
 have hs3:w3.heap.size=w2.heap.size:=by rw[<-P3];simp[World.setCell]
 have hx3:RX8 w3 B W0 rb xb S s2 vn ys ⟨1,n,P,Lo,⟨#[]⟩,⟨#[]⟩,[],[]⟩:=by
  refine⟨h3,D3.out.2.2,D3.out.2.1,.slice none 0 0,.slice none 0 0,R9,r5 _ _ _ _,r5 _ _ _ _,.inl rfl,fun y _ => ?_,fun y _ => ?_⟩
  ·cases hq:y.d.ownBlock with
   |none=>exact .inl rfl
   |some b=>exact .inr (by rw[a9b];simp)
  ·cases hq:y.a.ownBlock with
   |none=>exact .inl rfl
   |some b=>exact .inr (by rw[a9b];simp)
 have Z5:B<=W0:=by rw[<-P1.out];exact D9
 have HBW:=a8 Z5;have HC3:=a8 (Y5.out W0 xb w3 hx3 Z5 (by omega))
 have HB3:=a8 (HB2.out.trans (Z4.mono (d8 Z5 D3.out.2.2)));have HO3:=a8 (HG2.out.trans (Oth.of (Z4.mono D3.out.2.2)));clear P3 R9 h3 Z4 hs3 hx3 q2 q3 qf Z3
 go_wp2_with fail
 refine HC3.out.mono ?_;rintro e w4⟨rfl,P4,ho4,X1⟩;obtain⟨vD,vA,E2,J5⟩:=P4.at';obtain⟨Ad,cd,rfl,_,_⟩:=q9 J5.rD;obtain⟨Aa,ca,rfl,_,_⟩:=q9 J5.rA;obtain⟨An,cn,rfl,hcn,hcn2⟩:=q9 P4.rd.rn;have X2:=a8 (HO3.out.trans ho4);have HB4:=a8 (HB3.out.trans X1);have H4:=a8 P4.rd;have E3:=a8 J5;have S0:=a8 E2;obtain⟨j4,Z6⟩:=P4.rd.rc;have r2:=Z6.cells.2.2.1;have rl:=Z6.lt;have Z7:B<=w4.heap.size:=d8 D9 X2.out.size;obtain⟨i0,hi0,hz0,hz1,hz2⟩:=info_parts a1W;obtain⟨yn,Z8⟩ : ∃yn:Ny,yn=⟨X,.slice Ad X.ds.length cd,.slice Aa X.ats.length ca⟩:=⟨_,rfl⟩;have Z9:=a8 Z8
 have HNC:Hid ([yn].flatMap nyC=[.int .i64 X.k,.int .i64 X.n,.string X.p,.string X.l,.string X.u,.string X.t,.slice Ad X.ds.length cd,.slice Aa X.ats.length ca]):=by
  show _=_
  rw[Z8];rfl
 have HNA:Hid (∀W:World,∀j u,([yn].flatMap nyC)[j]? = some u->(W.alloc (Obj.cells #[.int .i64 X.k,.int .i64 X.n,.string X.p,.string X.l,.string X.u,.string X.t,.slice Ad X.ds.length cd,.slice Aa X.ats.length ca] 42)).cell? ((⟨W.heap.size,0,none⟩ : Addr).add j)=some u):=fun W j u hu=>by
  rw[HNC.out]at hu;exact World.news_of_block (g9 W (Obj.cells #[.int .i64 X.k,.int .i64 X.n,.string X.p,.string X.l,.string X.u,.string X.t,.slice Ad X.ds.length cd,.slice Aa X.ats.length ca] 42)) j u hu
 have HO1:Hid (∀u∈[yn].flatMap nyC,u.oneCell'=true):=fun u hu=>by
  rw[HNC.out]at hu;simp only[q8,C5,or_false]at hu;rcases hu with rfl|rfl|rfl|rfl|rfl|rfl|rfl|rfl<;>rfl
 have D2:=((b8 w4.heap.size w4).drew.block xb (i3 E2)).trans E2;have a0:w4.drew.cell? ⟨xb,0,none⟩=some (.int .i64 X.k):=by rw[d9 _ xb 0 _ _ _ D2];rfl
 have a1:w4.drew.cell? ⟨xb,1,none⟩=some (.int .i64 X.n):=by rw[d9 _ xb 1 _ _ _ D2];rfl
 have a2:w4.drew.cell? ⟨xb,2,none⟩=some (.string X.p):=by rw[d9 _ xb 2 _ _ _ D2];rfl
 have a3:w4.drew.cell? ⟨xb,3,none⟩=some (.string X.l):=by rw[d9 _ xb 3 _ _ _ D2];rfl
 have a4:w4.drew.cell? ⟨xb,4,none⟩=some (.string X.u):=by rw[d9 _ xb 4 _ _ _ D2];rfl
 have a5:w4.drew.cell? ⟨xb,5,none⟩=some (.string X.t):=by rw[d9 _ xb 5 _ _ _ D2];rfl
 have a6:w4.drew.cell? ⟨xb,6,none⟩=some (.slice Ad X.ds.length cd):=by rw[d9 _ xb 6 _ _ _ D2];rfl
 have a7:w4.drew.cell? ⟨xb,7,none⟩=some (.slice Aa X.ats.length ca):=by rw[d9 _ xb 7 _ _ _ D2];rfl
 have kA:∀ob,(w4.drew.alloc ob).cell? ⟨rb,2,none⟩=some (.slice An ys.length cn):=fun ob=>(((b8 w4.drew.heap.size w4.drew).alloc (c9 _) ob).cell (p:=⟨rb,2,none⟩) rl).trans r2;have kB:∀ob,(w4.alloc ob).cell? ⟨rb,2,none⟩=some (.slice An ys.length cn):=fun ob=>(((b8 w4.heap.size w4).alloc (c9 _) ob).cell (p:=⟨rb,2,none⟩) rl).trans r2;have H5:=a8 (P4.rd.below ((b8 w4.heap.size w4).drew));have S1:=i3 E2;clear P4 ho4 X1 E2 J5 Z6 Z8 D2
 go_upto_region 5 with fail
 go_cut [] (fun wx => ∃vn',S5 wx B rb S (s3.add X) vn' (ys++[⟨X,.slice Ad X.ds.length cd,.slice Aa X.ats.length ca⟩])/\wx.heap[xb]? = w4.heap[xb]?/\L7 rb (.slice An ys.length cn) vn' w4 wx/\Below B w4 wx)
 case first =>
  go_region_law (refine U3 (P:=Tryz.prog) rfl (.tmp 31) (.tmp 33) 28 rfl B 42 i0 _ 8 _ Tryz.underlying28 hi0 hz0 hz1 hz2 rfl (by omega) (.slice An ys.length cn) ys.length (ys.flatMap nyC) rfl (H5.out.rn.alloc _) 1 (.slice (some ⟨w4.drew.heap.size,0,none⟩) 1 1) rfl ([yn].flatMap nyC) (.inr ⟨_,1,rfl,HNA.out w4.drew⟩) rfl HO1.out (by unfold maxLen;omega) (by omega) (by simp;omega) ?_;intro v1 wa J6 E4 hat;rw[<-D8]at J6;obtain⟨g1,g2,g3⟩:=H5.out.grown E4 hat J6 (Z9.out ▸ ⟨b0v (L3 E3.out.rD ((b8 w4.heap.size w4).drew)) HBW.out,b0v (L3 E3.out.rA ((b8 w4.heap.size w4).drew)) HBW.out⟩) Z7;have J7:=(E4.block rb (by simp;omega) (fun e=>O4 H5.out.rn H5.out.rc.choose_spec.box (by decide) e.symm)).trans ((((b8 w4.drew.heap.size w4.drew).alloc (c9 _) _).block rb H5.out.lt).trans H5.out.rc.choose_spec.box);have kc:wa.cell? ⟨rb,2,none⟩=some (.slice An ys.length cn):=(by rw[d9 wa rb 2 _ _ _ J7];rfl);have kf:wa.frozen? ⟨rb,2,none⟩=false:=(by unfold World.frozen?;rw[J7];simp);have HG:=a8 (D5 g1 (D5 g2 g3));obtain⟨A1,c1',rfl,_,_⟩:=q9 J6;clear J7 J6 E4 hat g1 g2 g3)
  all_goals
   have D1:Hid (S5 (wa.setCell ⟨rb,2,none⟩ (.slice A1 (ys.length+1) c1')) B rb S (s3.add X) (.slice A1 (ys.length+1) c1') (ys++[⟨X,.slice Ad X.ds.length cd,.slice Aa X.ats.length ca⟩])/\(wa.setCell ⟨rb,2,none⟩ (.slice A1 (ys.length+1) c1')).heap[xb]? = w4.heap[xb]?/\L7 rb (.slice An ys.length cn) (.slice A1 (ys.length+1) c1') w4 (wa.setCell ⟨rb,2,none⟩ (.slice A1 (ys.length+1) c1'))/\Below B w4 (wa.setCell ⟨rb,2,none⟩ (.slice A1 (ys.length+1) c1'))):=by
    obtain⟨g1,g2,g3⟩:=HG.out;rw[Z9.out]at g1;have g4:=(L7.of_below (rb:=rb) (v:=.slice An ys.length cn) ((b8 w4.heap.size w4).drew)).trans g2;exact⟨g1,g4.els xb S1 D3.out.1 D3.out.2.1,g4,((b8 B w4).drew).trans g3⟩
   clear HG kc kf
   go_wp2_with fail
   go_meet
   exact⟨_,D1.out⟩
 case rest =>
  obtain⟨w5,hw5⟩ : ∃w5:World,w5=wc:=⟨_,rfl⟩;subst hw5;obtain⟨vn',h5,D2,hg5,hb5⟩:=hcut;have S2:L7 rb (.slice An ys.length cn) vn' w w5:=(⟨fun b hb hbr _=>X2.out.els b (by rw[<-P1.out];exact hb) hbr,fun b hb => .inl hb,X2.out.size⟩ : L7 rb (.slice An ys.length cn) (.slice An ys.length cn) w w4).trans hg5
  have X3:=a8 S2;have HB5:=a8 (HB4.out.trans hb5);have J8:=a8 (D2.trans S0.out);have M1:=a8 h5
  have HNX:Hid (∀b,vn'.ownBlock=some b->xb≠b):=fun b hb e=>by
   subst e;rcases hg5.new xb hb with h0|h0
   ·exact D3.out.2.1 h0
   ·omega
  obtain⟨j5,X4⟩:=h5.rc;have e2:=X4.cells.2.2.1;have e3:=X4.cells.2.2.2;have el:=X4.lt;have P6:=HRR.out;clear hg5 S2 hb5 D2 h5 X4 a0 a1 a2 a3 a4 a5 a6 a7 kA kB r2 rl HNC HNA HO1 Z9 H5 S1;replace e3:w5.cell? ⟨rb,3,none⟩=some (.bool s3.bad):=e3;cases E5:s3.bad with
  |true =>
   rw[E5]at e3;rw[g8 E5]at P6;have X5:=a8 P6;clear P6;go_wp2;refine bodyPost_ret (results_none rfl _ _ _) rfl ?_;rw[<-X5.out];exact⟨rfl,⟨_,_,M1.out,X3.out⟩,HB5.out⟩
  |false =>
   rw[E5]at e3;rw[f6 (by rw[E5];simp)]at P6
   have X5:=a8 P6;have hgd:=HGD.out E5;have S3:Kp s3:=HKP.out.of P0.out.2.2;have J9:ys.length=s3.ns.length:=by rw[HYL.out,P0.out.2.2]
   have P7:0<=X.n/\X.n<(s3.ns.length:Int):=by rw[HX.out.2.1,P0.out.2.2];exact⟨hn0,hnn⟩
   have HSM:Hid (Kp (s3.add (Q4 s3.ns X))):=S3.add (b3E S3.sm HX.out.1) (by show 0<=X.n;exact P7.1) (by show X.n<_;exact P7.2)
   have M2:=a8 (D5 S3 (D5 J9 P7));have S4:=fun w' (hm:S5 w' B rb S (s3.add X) vn' (ys++[⟨X,.slice Ad X.ds.length cd,.slice Aa X.ats.length ca⟩]))=>a6L hm S3 (X:=X) rfl rfl P7.1 P7.2 (by rw[<-J9];omega) X.p
   rw[<-J9]at S4;obtain⟨U,hU⟩ : ∃U,(G4 (s3.ns++[X]) ys.length X.p)=U:=⟨_,rfl⟩;rw[hU]at S4;have HU:=a8 hU;obtain⟨A5,c5,rfl,_,_⟩:=q9 M1.out.rn;have E6:(ys++[(⟨X,.slice Ad X.ds.length cd,.slice Aa X.ats.length ca⟩ : Ny)]).length=ys.length+1:=by simp
   rw[E6]at S4 e2 M1 X3
   obtain⟨g,hgE⟩ : ∃g,A5=some ⟨g,0,none⟩:=by
    have h0:=M1.out.rn;rw[E6]at h0;obtain⟨_,⟨h2,h3⟩|⟨g,cap,cur,e,_⟩⟩:=h0
    ·omega
    ·simp only[o5]at e
     exact⟨g,e.1⟩
   subst hgE;have L0:=M1.out.rn;rw[E6]at L0;obtain⟨gcs,X6,S6⟩:=a3X L0;have hgl:=i3 X6
   have hcu:w5.cell? ⟨g,ys.length*8+4,none⟩=some (.string X.u):=by
    have h0:=a2F L0 (j:=ys.length*8+4) (u:=.string X.u) (by
     have h1:=Q6 a2i (ys++[(⟨X,.slice Ad X.ds.length cd,.slice Aa X.ats.length ca⟩ : Ny)]) ys.length 4 (by simp) (by omega)
     rw[h1];simp[nyC,ndC])
    exact h0
   have hfu:w5.frozen? ⟨g,ys.length*8+4,none⟩=false:=by unfold World.frozen?;rw[X6];simp
   have b2:w5.cell? ⟨xb,2,none⟩=some (.string X.p):=by rw[d9 w5 xb 2 _ _ _ J8.out];rfl
   have bxl:=i3 J8.out;have HMW:=a8 (S4 w5.drew (M1.out.below ((b8 w5.heap.size w5).drew)));have HGB:=a8 (D5 X6 S6);have hnl:(ys.length:Int)<(ys.length:Int)+1:=by omega
   clear P6 S3 J9 P7 S4 hU L0 X6 S6
   go_upto_region 7 with fail
   go_cut [] (fun wx=>wx=w5.drew.setCell ⟨g,ys.length*8+4,none⟩ (.string U.1))
   case first =>
    go_region_with (go_at_call 41;refine HMW.out.mono ?_;rintro e w' ⟨rfl,hw⟩;rw[hw];clear hw)
    all_goals
     go_wp2_with fail
     go_meet
     exact rfl
   case rest =>
    have hU5:U=G4 (s3.ns++[X]) s3.ns.length X.p:=by rw[<-M2.out.2.1];exact HU.out.symm
    obtain⟨F,hF⟩ : ∃F,b5q (s3.ns++[X]) s3.ns.length=F:=⟨_,rfl⟩;have hEU:xkN X U.1 F X.ats.length=Q4 s3.ns X:=by rw[b7U,hU5,<-hF];rfl
    have HEU:=a8 hEU;have HF:=a8 hF
    have M9:Hid (a9R w B rb xb S s3 (.slice An ys.length cn) (.slice (some ⟨g,0,none⟩) (ys.length+1) c5) ys X U.1 F (.slice Ad X.ds.length cd) (.slice Aa X.ats.length ca) (.int .i64 0) wc):=by
     rw[hcut];refine⟨0,o4 _,rfl,(M1.out.below ((b8 _ _).drew)).setUri U.1,?_,X3.out.setNew (.inl rfl),HB5.out.drew.setCell (p:=⟨g,ys.length*8+4,none⟩) HGB.out.2 _⟩;rw[f7 _ _ _ _ (show xb≠g from HNX.out g rfl)];exact J8.out
    have HGA:Hid (0<X.ats.length->∃ga,Aa=some ⟨ga,0,none⟩/\w.heap.size<=ga/\∀y∈ys,y.a.ownBlock=none∨y.a.ownBlock≠some ga):=fun hpos=>by
     obtain⟨_,⟨h2,h3⟩|⟨ga,cap,cur,e,hg,_⟩⟩:=E3.out.rA
     ·omega
     ·simp only[o5]at e
      obtain⟨rfl,_⟩:=e;exact⟨ga,rfl,by rw[P1.out];exact hg,E3.out.ya⟩
    have q7:wc.cell? ⟨xb,7,none⟩=some (.slice Aa X.ats.length ca):=by
     obtain⟨_,_,_,_,X1,_⟩:=M9.out;rw[d9 wc xb 7 _ _ _ X1];rfl
    clear hcut hU5 hF hEU e2 e3 el hcu hfu b2 bxl HMW
    go_wp2_with fail
    clear q7
    go_loopw [62] (a9R w B rb xb S s3 (.slice An ys.length cn) (.slice (some ⟨g,0,none⟩) (ys.length+1) c5) ys X U.1 F (.slice Ad X.ds.length cd) (.slice Aa X.ats.length ca)) (fun i _=>X.ats.length-(intOf i).toNat)
    case atStart=>exact M9.out
    case round =>
     obtain⟨k,hk,rfl,hr,G7,hg,hb⟩:=hrel;clear M9;by_cases hlt:k<X.ats.length
     ·have hkz:(k:Int)<(X.ats.length:Int):=by omega
      obtain⟨ga,rfl,S6,hya⟩:=HGA.out (by omega)
      obtain⟨⟨a0,a2⟩,csa,S7⟩:=hr.attCell hlt;obtain⟨n7,csn,hnc⟩:=hr.lastCell;have q7:wr.cell? ⟨xb,7,none⟩=some (.slice (some ⟨ga,0,none⟩) X.ats.length ca):=by rw[d9 wr xb 7 _ _ _ G7];rfl
      have gf:wr.frozen? ⟨ga,k*4+2,none⟩=false:=by unfold World.frozen?;rw[S7];simp
      obtain⟨jr,hjr⟩:=hr.rc;have e2:=hjr.cells.2.2.1
      have N0:Hid (F X.ats[k]=if X.ats[k].p.data.toList=[]then X.ats[k]else { X.ats[k]with u:=(G4 (s3.ns++[X]) s3.ns.length X.ats[k].p).1 }):=by
       show _=_
       rw[<-HF.out];rfl
      have L1:Hid (∀V,F X.ats[k]={ X.ats[k]with u:=V }->_):=fun V hV=>b2R hr G7 hg hb hya hlt S6 D9 V hV;have N1:Hid (F X.ats[k]=X.ats[k]->∀w',Below wr.heap.size wr w'->_):=fun hV w' hw=>b1w hr G7 hg hb D9 hlt hV hw;have S8:=a8 (a6L (hr.below ((b8 wr.heap.size wr).drew)) M2.out.1 (x:=xkN X U.1 F k) (X:=X) rfl rfl M2.out.2.2.1 M2.out.2.2.2 (by rw[<-M2.out.2.1];omega) X.ats[k].p)
      rw[<-M2.out.2.1]at S8 N0
      have L2:Hid (∀V:ByteArray,(wr.setCell ⟨ga,k*4+2,none⟩ (.string V)).drew.cell? ⟨rb,2,none⟩=some (.slice (some ⟨g,0,none⟩) (ys.length+1) c5)/\(wr.setCell ⟨ga,k*4+2,none⟩ (.string V)).drew.cell? ⟨g,ys.length*8+7,none⟩=some (.slice (some ⟨ga,0,none⟩) X.ats.length ca)/\(wr.setCell ⟨ga,k*4+2,none⟩ (.string V)).drew.cell? ⟨xb,7,none⟩=some (.slice (some ⟨ga,0,none⟩) X.ats.length ca)/\(wr.setCell ⟨ga,k*4+2,none⟩ (.string V)).drew.cell? ⟨ga,k*4,none⟩=some (.string X.ats[k].p)):=fun V=>by
       have n1:ga≠rb:=B7 S7 hjr.box (by decide)
       have n2:ga≠g:=B7 S7 hnc (by decide)
       have n3:ga≠xb:=B7 S7 G7 (by decide)
       exact⟨(World.cell?_setCell_far wr ⟨ga,k*4+2,none⟩ ⟨rb,2,none⟩ _ n1).trans e2,(World.cell?_setCell_far wr ⟨ga,k*4+2,none⟩ ⟨g,ys.length*8+7,none⟩ _ n2).trans n7,(World.cell?_setCell_far wr ⟨ga,k*4+2,none⟩ ⟨xb,7,none⟩ _ n3).trans q7,(World.cell?_setCell_other wr ⟨ga,k*4+2,none⟩ ⟨ga,k*4,none⟩ _ (by simp)).trans a0⟩
      clear hr G7 hg hb S7 hnc hjr S6;generalize hxk:X.ats[k]=a at *;obtain⟨P',Lo',Ur,Va⟩:=a;dsimp only at a0 a2 N0 S8 L1 L2;clear hxk;by_cases hP:P'.data.toList=[]
      ·have N2:Hid (∀w',Below wr.heap.size wr w'->_):=N1.out (by rw[N0.out,g8 hP])
       have te:P'.toList.isEmpty=true:=by rw[f9,hP];rfl
       clear hP L1 N1 S8 N0 L2
       go_wp2_with fail
       go_roundw
       case rel=>exact(show Value.int .i64 ((k+1:Nat):Int)=_ by go_num) ▸ N2.out _ (b8 _ _)
       case measure=>simp[intOf];omega
      ·have te:P'.toList.isEmpty=false:=by
        rw[f9];cases hq:P'.data.toList with
        |nil=>exact absurd hq hP
        |cons c t=>rfl
       obtain⟨V,hV⟩ : ∃V,(G4 (s3.ns++[X]) ys.length P')=V:=⟨_,rfl⟩;rw[hV]at S8 N0;have N2:=a8 (L1.out V.1 (by rw[N0.out,f6 hP]))
       have HKP5:=a8 (L2.out V.1);clear hP L1 N1 N0 hV L2
       go_upto_region 12 with fail
       go_region_held3 (fun w'=>w'.cell? ⟨rb,2,none⟩=some (.slice (some ⟨g,0,none⟩) (ys.length+1) c5)/\w'.cell? ⟨g,ys.length*8+7,none⟩=some (.slice (some ⟨ga,0,none⟩) X.ats.length ca)/\w'.cell? ⟨xb,7,none⟩=some (.slice (some ⟨ga,0,none⟩) X.ats.length ca)/\w'.cell? ⟨ga,k*4,none⟩=some (.string P')) (first|exact HKP5.out|go_keep) ((go_at_call 41;refine S8.out.mono ?_;rintro e w' ⟨rfl,hw⟩;rw[hw];clear hw))
       all_goals
        go_wp2_with fail
        go_roundw
        case rel=>exact(show Value.int .i64 ((k+1:Nat):Int)=_ by go_num) ▸ N2.out
        case measure=>simp[intOf];omega
     ·have hkn:k=X.ats.length:=by omega
      subst hkn;have hkz:¬(X.ats.length:Int)<(X.ats.length:Int):=by omega
      rw[HEU.out]at hr;obtain⟨s4,N3⟩ : ∃s4,s3.add (Q4 s3.ns X)=s4:=⟨_,rfl⟩;have hs4l:s4.rest.length=s3.rest.length:=by rw[<-N3];rfl
      have S9:s4.ns.length=s3.ns.length+1:=by rw[<-N3];show(s3.ns++[_]).length=_;simp
      have T0:F3 [47,62] s4=F3 [47,62] s3:=by rw[<-N3];rfl
      have T1:Kp s4:=by rw[<-N3];exact HSM.out
      have hT:(if F3 [47,62] s4=true then D0 [47,62] s4 else a9s (p,l) (M6 (M0 f) (s4.rest.length+1) (ys.length:Int) [] (D0 [62] s4)))=R:=by
       have:=X5.out;rw[N3]at this;rw[T0,hs4l,M2.out.2.1];exact this
      rw[N3]at hr;obtain⟨ysN,T2⟩ : ∃ysN,ys++[(⟨Q4 s3.ns X,.slice Ad X.ds.length cd,.slice Aa X.ats.length ca⟩ : Ny)]=ysN:=⟨_,rfl⟩;obtain⟨vN,X8⟩ : ∃vN,Value.slice (some ⟨g,0,none⟩) (ys.length+1) c5=vN:=⟨_,rfl⟩;rw[T2,X8]at hr;rw[X8]at hg;have HN4:Hid (vN.ownBlock≠some xb):=fun e=>HNX.out xb (by rw[<-X8]at e;exact e) rfl
      obtain⟨k4,hk4⟩:=hr.rc;have T3:Hid (Calls Tryz.prog 57 #[.pointer (some ⟨rb,0,none⟩),.string ⟨#[47,62]⟩] wr fun e w'=>e=.returned (.bool (F3 [47,62] s4))/\M3 rb S vN s4 wr w'):=O3 S ⟨#[47,62]⟩ rb vN s4 k4 wr hk4 (by omega) (by decide)
      have H4':=a8 hr;have N4:=a8 hg;have N5:=a8 hb;have E7:=a8 G7;have T4:B<=wr.heap.size:=d8 D9 hb.size;have HYS:Hid (ys.length=s3.ns.length):=M2.out.2.1;have HK4:=a8 T1;have HT4:=a8 hT;have HPX:Hid (X.p=ba p/\X.l=ba l):=HX.out.2.2.2;clear hr hg hb G7 hk4 X8 T2 N3 T0 T1 hT M1 J8 HB5 X3 HNX HGA HEU HF HSM X5 HRR HGB HU Y5 R2 E3 S0 HB4 X2 H4 HB3 HO3 J4 HTK Y9 M8 HG2 Y8 J3 HB2 Z2 R8 H HC1 HC3 H1 H2;cases P8:F3 [47,62] s4 with
      |true =>
       rw[P8]at T3;have hT:=HT4.out;rw[g8 P8]at hT;have HT5:=a8 hT;clear hT P8
       go_wp2_with fail
       refine T3.out.mono ?_;rintro e wa⟨rfl,G9⟩;have ha:=H4'.out.rst G9 rfl;obtain⟨ka,J7⟩:=ha.rc;have X9:Hid (Calls Tryz.prog 59 #[.pointer (some ⟨rb,0,none⟩),.string ⟨#[47,62]⟩] wa fun e w'=>e=.returned (.tuple #[])/\M3 rb S vN (D0 [47,62] s4) wa w'):=U7 S ⟨#[47,62]⟩ rb vN s4 ka wa J7 (by omega) (by decide)
       have P9:=a8 (N5.out.trans (G9.below E1.out T4));have Y0:=a8 (N4.out.rst G9);have Ha:=a8 ha;clear G9 ha J7
       go_wp2_with fail
       refine X9.out.mono ?_;rintro e wb⟨rfl,J1⟩
       have D1:Hid (U4 B rb S R (.slice An ys.length cn) w wb):=by
        refine⟨⟨vN,ysN,?_,Y0.out.rst J1⟩,P9.out.trans (J1.below E1.out (d8 D9 P9.out.size))⟩;rw[<-HT5.out];exact Ha.out.rst J1 (P5 _ _)
       clear J1;go_wp2;refine bodyPost_ret (results_none rfl _ _ _) rfl ?_;exact⟨rfl,D1.out⟩
      |false =>
       rw[P8]at T3;have hT:=HT4.out;rw[f6 (by rw[P8];simp)]at hT
       obtain⟨s5,T5⟩ : ∃s5,D0 [62] s4=s5:=⟨_,rfl⟩;have hs5l:s5.rest.length<=s4.rest.length:=by rw[<-T5];exact(G8 [62] s4).len
       have E8:s5.ns=s4.ns:=by rw[<-T5];exact P5 _ _
       rw[T5]at hT;obtain⟨s7,hs7⟩ : ∃s7,M6 (M0 f) (s4.rest.length+1) (ys.length:Int) [] s5=s7:=⟨_,rfl⟩;rw[hs7]at hT;obtain⟨s8,Y1⟩ : ∃s8,D0 [60,47] s7=s8:=⟨_,rfl⟩;obtain⟨s9,Y2⟩ : ∃s9,(K8 s8).2=s9:=⟨_,rfl⟩;obtain⟨pl9,N6⟩ : ∃pl9,(K8 s8).1=pl9:=⟨_,rfl⟩;obtain⟨s10,L4⟩ : ∃s10,C8 s9=s10:=⟨_,rfl⟩;obtain⟨s11,L5⟩ : ∃s11,D0 [62] s10=s11:=⟨_,rfl⟩;obtain⟨p9,l9⟩:=pl9
       have hR:R=s11.or (decide ((p9,l9)≠(p,l))):=by
        rw[<-hT,<-L5,<-L4,<-Y2,<-N6,<-Y1];rfl
       have T6:=a8 hR
       have G0:Hid (s8.ns=s7.ns/\s9.ns=s8.ns/\s10.ns=s9.ns/\s11.ns=s10.ns):=by
        refine⟨?_,?_,?_,?_⟩
        ·rw[<-Y1];exact P5 _ _
        ·rw[<-Y2];exact a41 _
        ·rw[<-L4];rfl
        ·rw[<-L5];exact P5 _ _
       have T7:Hid (∀w' k',U5 w' rb S vN s4 k'->Calls Tryz.prog 59 #[.pointer (some ⟨rb,0,none⟩),.string ⟨#[62]⟩] w' fun e w''=>e=.returned (.tuple #[])/\M3 rb S vN s5 w' w''):=fun w' k' hm=>T5 ▸ U7 S ⟨#[62]⟩ rb vN s4 k' w' hm (by omega) (by decide)
       have HIN:Hid (∀w',S5 w' B rb S s5 vN ysN->Calls Tryz.prog 67 #[.pointer (some ⟨rb,0,none⟩),.int .i64 (ys.length:Int)] w' fun e w''=>e=.returned (.tuple #[])/\U4 B rb S s7 vN w' w''):=fun w' hm=>by
        rw[<-hs7];refine b2s HEE.out S B rb s5 vN ysN (ys.length:Int) (s4.rest.length+1) w' hm hS (by omega) (by omega) (HK4.out.of E8) (by omega) (by rw[E8,S9,HYS.out];omega) ?_
        unfold R6 at hct ⊢;rw[E8,S9,P0.out.2.2];omega
       have T8:Hid (∀w' k' v,U5 w' rb S v s7 k'->Calls Tryz.prog 59 #[.pointer (some ⟨rb,0,none⟩),.string ⟨#[60,47]⟩] w' fun e w''=>e=.returned (.tuple #[])/\M3 rb S v s8 w' w''):=fun w' k' v hm=>Y1 ▸ U7 S ⟨#[60,47]⟩ rb v s7 k' w' hm (by omega) (by decide)
       have T9:Hid (∀w' k' v,U5 w' rb S v s8 k'->Calls Tryz.prog 65 #[.pointer (some ⟨rb,0,none⟩)] w' fun e w''=>e=.returned (.tuple #[.string (ba p9),.string (ba l9)])/\M3 rb S v s9 w' w''):=fun w' k' v hm=>by
        have:=a6U S rb v s8 k' w' hm (by omega)
        rw[Y2,N6]at this;exact this
       have V0:Hid (∀w' k' v,U5 w' rb S v s9 k'->Calls Tryz.prog 62 #[.pointer (some ⟨rb,0,none⟩)] w' fun e w''=>e=.returned (.int .i64 (Y6 s9:Nat))/\M3 rb S v s10 w' w''):=fun w' k' v hm=>L4 ▸ U2 S rb v s9 k' w' hm (by omega)
       have M4:Hid (∀w' k' v,U5 w' rb S v s10 k'->Calls Tryz.prog 59 #[.pointer (some ⟨rb,0,none⟩),.string ⟨#[62]⟩] w' fun e w''=>e=.returned (.tuple #[])/\M3 rb S v s11 w' w''):=fun w' k' v hm=>L5 ▸ U7 S ⟨#[62]⟩ rb v s10 k' w' hm (by omega) (by decide)
       have HS5N:=a8 E8;clear hT P8 hR T5 E8 hs7 Y1 Y2 N6 L4 L5
       go_wp2_with fail
       refine T3.out.mono ?_;rintro e wa⟨rfl,G9⟩;have ha:=H4'.out.rst G9 rfl;obtain⟨ka,J7⟩:=ha.rc;have X9:=a8 (T7.out wa ka J7);have P9:=a8 (N5.out.trans (G9.below E1.out T4));have Y0:=a8 (N4.out.rst G9);have HXa:=a8 ((G9.other xb (i3 E7.out) D3.out.1).trans E7.out);have Ha:=a8 ha;clear G9 ha J7
       go_wp2_with fail
       refine X9.out.mono ?_;rintro e wb⟨rfl,J1⟩;have hb:=Ha.out.rst J1 HS5N.out;have HIb:=a8 (HIN.out wb hb);have HBb:=a8 (P9.out.trans (J1.below E1.out (d8 D9 P9.out.size)));have HGb:=a8 (Y0.out.rst J1);have HXb:=a8 ((J1.other xb (i3 HXa.out) D3.out.1).trans HXa.out);clear J1 hb
       go_wp2_with fail
       refine HIb.out.mono ?_;rintro e w7⟨rfl,⟨v7,y7,h7,g7⟩,b7⟩;obtain⟨k7,hk7⟩:=h7.rc;have HT7:=a8 (T8.out w7 k7 v7 hk7);have HB7:=a8 (HBb.out.trans b7);have HG7:=a8 (HGb.out.trans g7);have HX7:=a8 ((g7.els xb (i3 HXb.out) D3.out.1 HN4.out).trans HXb.out);have H7:=a8 h7;clear h7 g7 b7 hk7
       go_wp2_with fail
       refine HT7.out.mono ?_;rintro e w8⟨rfl,V1⟩;have h8:=H7.out.rst V1 G0.out.1;obtain⟨k8,hk8⟩:=h8.rc;have HF8:=a8 (T9.out w8 k8 v7 hk8);have HB8:=a8 (HB7.out.trans (V1.below E1.out (d8 D9 HB7.out.size)));have HG8:=a8 (HG7.out.rst V1);have HX8:=a8 ((V1.other xb (i3 HX7.out) D3.out.1).trans HX7.out);have H8:=a8 h8;clear V1 h8 hk8
       go_wp2_with fail
       refine HF8.out.mono ?_;rintro e w9⟨rfl,V2⟩;have h9:=H8.out.rst V2 G0.out.2.1;obtain⟨k9,hk9⟩:=h9.rc;have V3:=a8 (V0.out w9 k9 v7 hk9);have HB9:=a8 (HB8.out.trans (V2.below E1.out (d8 D9 HB8.out.size)));have HG9:=a8 (HG8.out.rst V2);have HX9:=a8 ((V2.other xb (i3 HX8.out) D3.out.1).trans HX8.out);have H9:=a8 h9;clear V2 h9 hk9
       go_wp2_with fail
       refine V3.out.mono ?_;rintro e w10⟨rfl,G1⟩;have h10:=H9.out.rst G1 G0.out.2.2.1;obtain⟨k10,V4⟩:=h10.rc;have V6:=a8 (M4.out w10 k10 v7 V4);have N7:=a8 (HB9.out.trans (G1.below E1.out (d8 D9 HB9.out.size)));have V7:=a8 (HG9.out.rst G1);have N8:=a8 ((G1.other xb (i3 HX9.out) D3.out.1).trans HX9.out);have H10:=a8 h10;clear G1 h10 V4
       go_wp2_with fail
       refine V6.out.mono ?_;rintro e w11⟨rfl,G5⟩;have h11:=H10.out.rst G5 G0.out.2.2.2;obtain⟨k11,L6⟩:=h11.rc;have c3:=L6.cells.2.2.2;have cf:=L6.frozen 3;have N9:=(G5.other xb (i3 N8.out) D3.out.1).trans N8.out;have x2:w11.cell? ⟨xb,2,none⟩=some (.string (ba p)):=by rw[d9 w11 xb 2 _ _ _ N9,<-HPX.out.1];rfl
       have x3:w11.cell? ⟨xb,3,none⟩=some (.string (ba l)):=by rw[d9 w11 xb 3 _ _ _ N9,<-HPX.out.2];rfl
       have D1:Hid (∀x,x=(s11.bad||decide ((p9,l9)≠(p,l)))->U4 B rb S R (.slice An ys.length cn) w (w11.setCell ⟨rb,3,none⟩ (.bool x))):=fun x hx=>by
        have hm:M3 rb S v7 { s11 with bad:=x } w11 (w11.setCell ⟨rb,3,none⟩ (.bool x)):=M3.mark L6 x;have V8:=N7.out.trans (G5.below E1.out (d8 D9 N7.out.size));refine⟨⟨v7,y7,?_,(V7.out.rst G5).rst hm⟩,V8.trans (hm.below E1.out (d8 D9 V8.size))⟩;have e:R={ s11 with bad:=x }:=by rw[T6.out,hx];rfl
        rw[e];exact h11.rst hm rfl
       clear G5 h11 L6 N9
       go_upto_region 22 with fail
       clear T3 T7 HIN T8 T9 V0 M4 T6 G0 HPX HPL HT4 N8 HX9 HX8 HX7 HXa HXb E7 N7 V7 H10 H9 HB9 HG9 H8 HB8 HG8 H7 HB7 HG7 HBb HGb Ha P9 Y0 V6 V3 HF8 HT7 HIb X9 H4' N4 N5 HK4;obtain⟨b11,hb11⟩ : ∃b11,s11.bad=b11:=⟨_,rfl⟩;rw[hb11]at c3 D1
       have M5:∀{a b:List UInt8},a≠b->((ba a).toList==(ba b).toList)=false:=fun {a b} h=>by
        rw[f9,f9,e9];exact fun e=>h e
       by_cases hp:p9=p
       ·subst hp
        have tp:((ba p9).toList==(ba p9).toList)=true:=beq_self_eq_true _;by_cases hl:l9=l
        ·subst hl
         have tl:((ba l9).toList==(ba l9).toList)=true:=beq_self_eq_true _;cases b11 with
         |true =>
          have G6:=a8 (D1.out true rfl);clear D1 M5;go_wp2
          go_end0
          exact⟨rfl,G6.out⟩
         |false =>
          have G6:=a8 (D1.out false (by simp))
          clear D1 M5;go_wp2
          go_end0
          exact⟨rfl,G6.out⟩
        ·have tl:((ba l9).toList==(ba l).toList)=false:=M5 hl
         cases b11 with
         |true =>
          have G6:=a8 (D1.out true rfl);clear D1 M5;go_wp2
          go_end0
          exact⟨rfl,G6.out⟩
         |false =>
          have G6:=a8 (D1.out true (by simp[hl]))
          clear D1 M5;go_wp2
          go_end0
          exact⟨rfl,G6.out⟩
       ·have tp:((ba p9).toList==(ba p).toList)=false:=M5 hp
        cases b11 with
        |true =>
         have G6:=a8 (D1.out true rfl);clear D1 M5;go_wp2
         go_end0
         exact⟨rfl,G6.out⟩
        |false =>
         have G6:=a8 (D1.out true (by simp[hp]))
         clear D1 M5;go_wp2
         go_end0
         exact⟨rfl,G6.out⟩
end Go.Proofs.YteinegfbpfhflaaGreatDoor
