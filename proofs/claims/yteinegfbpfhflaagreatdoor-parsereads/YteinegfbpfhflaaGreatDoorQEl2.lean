/-
  apostilleref08.Reader: element. Conditions: the reader lies as it is; what is in it is read as it is to be; nothing is too long.
-/
import Derived.Test.YteinegfbpfhflaaGreatDoorM50
import Derived.Deep.RegionHeld3
namespace Go.Proofs.YteinegfbpfhflaaGreatDoor
open Go.RowKit
set_option linter.unusedVariables false
set_option maxRecDepth 100000
set_option maxHeartbeats 128000000
theorem tE{f:Nat}(HE:D8 f):D8 (f+1):=by
 intro S B rb s vn ys n w h hS hf _ hkp hn0 hnn hct;have hrl:=h.lt;have hBs:B<=w.heap.size:=ag h.lo (be hrl);have HLO:=aa h.lo;obtain⟨j,hj⟩:=h.rc;have hrest:s.rest.length<=100000:=by have:=hj.len;omega
 have HTK:Hid (Calls Tryz.prog 59 #[.pointer (some ⟨rb,0,none⟩),.string ⟨#[60]⟩] w fun e w'=>e=.returned (.tuple #[])/\dA rb S vn (bI [60] s) w w'):=eT S ⟨#[60]⟩ rb vn s j w hj (by omega) (by decide)
 obtain⟨m1,m2,m3,m4,m5,m6,m7⟩:=zd (n:=n) hrest;have hmo:=(kQ n s).len;have HKP:=aa hkp;obtain⟨R,hR⟩ : ∃R,dj (f+1) n s=R:=⟨_,rfl⟩;rw[hR];rw[dj]at hR;have hn1:=dX [60] s;have hl1:=(cA [60] s).len;have heN:fg s=cQ (bI [60] s):=rfl;have heM:bZ n s=fy ((fg s).2.rest.length+1) (fg s).2 ⟨1,n,ba (fg s).1.1,ba (fg s).1.2,⟨#[]⟩,⟨#[]⟩,[],[]⟩:=rfl
 have hgood:(bZ n s).1.bad=false->(bI [60] s).rest.length+1=s.rest.length:=fun hb=>by
  have hg:bX [60] s=true:=by
   cases hq:bX [60] s with
   |true=>rfl
   |false =>
    exfalso
    have:(bZ n s).1.bad=true:=(ip _ _ _).1 (tu (by
     rw[fa (by
      cases hp:aH [60] s.rest with
      |none=>rfl
      |some r=>rw[dw hp]at hq;cases hq)];rfl))
    rw[hb]at this;cases this
  have:=iG hg;simp only[az,bb]at this;exact this
 have hml1:(bZ n s).1.rest.length<=(bI [60] s).rest.length:=((fE _).trans (ip _ _ _)).len;have hfl:=(fE (bI [60] s)).len;rw[<-heN]at hfl;have hfln:=tr (bI [60] s);rw[<-heN]at hfln;have hfn:=nn (bI [60] s);rw[<-heN]at hfn;generalize bI [60] s=s1 at *
 have HFU:Hid (∀w' k',eR w' rb S vn s1 k'->Calls Tryz.prog 65 #[.pointer (some ⟨rb,0,none⟩)] w' fun e w''=>e=.returned (.tuple #[.string (ba (fg s).1.1),.string (ba (fg s).1.2)])/\dA rb S vn (fg s).2 w' w''):=fun w' k' hm=>by
  rw[heN];exact pV S rb vn s1 k' w' hm (by omega)
 generalize (fg s).2=s2 at *;obtain⟨pl,hpl⟩ : ∃pl,(fg s).1=pl:=⟨_,rfl⟩;rw[hpl]at m5 m6 heM hR HFU hfln;obtain⟨p,l⟩:=pl;dsimp only at m5 m6 heM HFU hfln
 have HMR:Hid (∀(W0 xb:Nat) (w':World),se w' B W0 rb xb S s2 vn ys ⟨1,n,ba p,ba l,⟨#[]⟩,⟨#[]⟩,[],[]⟩->B<=W0->W0<=w'.heap.size->Calls Tryz.prog 66 #[.pointer (some ⟨rb,0,none⟩),.pointer (some ⟨xb,0,none⟩)] w' fun e w''=>e=.returned (.tuple #[])/\se w'' B W0 rb xb S (bZ n s).1 vn ys (bZ n s).2/\iz W0 rb w' w''/\Below B w' w''):=fun W0 xb w' hx h1 h2=>by
  rw[heM];exact Aw S B W0 rb xb s2 vn ys ⟨1,n,ba p,ba l,⟨#[]⟩,⟨#[]⟩,[],[]⟩ (s2.rest.length+1) w' hx h1 h2 hS (Nat.lt_succ_self _) (by simp;omega)
 have hns3:(bZ n s).1.ns=s.ns:=m2;generalize (bZ n s).1=s3 at *;generalize (bZ n s).2=X at *;have HX:=aa (bM m1 (bM m3 (bM m4 (bM m5 m6))));have HNS:=aa (bM hn1 (bM hfn hns3));have H:=aa h;have HRR:=aa hR;have HEE:=aa HE;have HGD:=aa hgood;have hysl:ys.length=s.ns.length:=h.len;have hysb:ys.length<=800000:=by unfold ey at hct;omega
 have HYL:=aa hysl;obtain⟨W0,hW0⟩ : ∃W0,w.heap.size=W0:=⟨_,rfl⟩;have HW0:=aa hW0;obtain⟨P,hP⟩ : ∃P,ba p=P:=⟨_,rfl⟩;obtain⟨Lo,hLo⟩ : ∃Lo,ba l=Lo:=⟨_,rfl⟩;rw[hP,hLo]at HFU HMR;have HPL:=aa (bM hP hLo);have hrb0:∀b,vn.ownBlock=some b->b<W0:=fun b hb=>by rw[<-hW0];exact(h.rn.lt b hb).2
 have HVB:=aa hrb0;clear h hj hkp m1 m2 m3 m4 m5 m6 heN heM hR hn1 hfn hns3 HE hgood hP hLo hysl hrb0 hpl;go_enter Tryz.func35,Tryz.ntmps35
 go_wp2_with fail
 refine HTK.out.mono ?_;rintro e w1⟨rfl,hr1⟩;have h1:=H.out.rst hr1 HNS.out.1;have HB1:=aa (hr1.below HLO.out hBs);have HG1:Hid (iz W0 rb w w1):=iz.rst hr1 (by rw[HW0.out];exact af _)
 obtain⟨xb,hxb⟩ : ∃xb,w1.heap.size=xb:=⟨_,rfl⟩;obtain⟨w1a,hw1a⟩ : ∃w1a,w1.alloc (Obj.cells #[.int .i64 1,.int .i64 n,.string ⟨#[]⟩,.string ⟨#[]⟩,.string ⟨#[]⟩,.string ⟨#[]⟩,.slice none 0 0,.slice none 0 0] 42)=w1a:=⟨_,rfl⟩;have hba:Below w1.heap.size w1 w1a:=by rw[<-hw1a];exact(ae _ _).alloc (af _) _
 have hbx:w1a.heap[xb]? = some (.cells #[.int .i64 1,.int .i64 n,.string ⟨#[]⟩,.string ⟨#[]⟩,.string ⟨#[]⟩,.string ⟨#[]⟩,.slice none 0 0,.slice none 0 0] 42 (0,0)):=by rw[<-hw1a,<-hxb];exact ar w1 _
 have h1a:=h1.below hba;have hxr:xb≠rb:=by have:=h1.lt;omega
 have hxw:W0<=xb:=by have:=hr1.size;omega
 have hxn:vn.ownBlock≠some xb:=fun e=>by have:=HVB.out xb e;omega
 obtain⟨j1,hj1⟩:=h1a.rc;have HC1:=aa (HFU.out w1a j1 hj1);have HB1a:=aa (HB1.out.trans (hba.mono (ag hBs HB1.out.size)));have HG1a:=aa (HG1.out.trans (iz.of (hba.mono (by have:=HG1.out.size;rw[HW0.out]at this;exact this))))
 have HXX:=aa (bM hxr (bM hxn hxw));have H1:=aa h1a;have HBX:=aa hbx;have HXB:=aa hxb;have HW1A:=aa hw1a;clear hr1 h1 hba hbx h1a hxr hxn hxb hw1a hj1
 go_wp2_with fail
 rw[HW1A.out,HXB.out];refine HC1.out.mono ?_;rintro e w2⟨rfl,hr2⟩;have hbx2:=(hr2.other xb (au HBX.out) HXX.out.1).trans HBX.out;have h2:=H1.out.rst hr2 HNS.out.2.1;have hsz2:W0<=w2.heap.size:=by have:=HB1a.out.size;have:=hr2.size;omega
 have q2:w2.cell? ⟨xb,2,none⟩=some (.string ⟨#[]⟩):=by rw[ai w2 xb 2 _ _ _ hbx2];rfl
 have q3:w2.cell? ⟨xb,3,none⟩=some (.string ⟨#[]⟩):=by rw[ai w2 xb 3 _ _ _ hbx2];rfl
 have qf:∀i,w2.frozen? ⟨xb,i,none⟩=false:=fun i=>by unfold World.frozen?;rw[hbx2];simp
 have hbl2:=au hbx2;have HG2:=aa (HG1a.out.trans (iz.rst hr2 (by have:=HG1a.out.size;rw[HW0.out]at this;exact this)))
 have HB2:=aa (HB1a.out.trans (hr2.below HLO.out (ag hBs HB1a.out.size)));have H2:=aa h2;have HBX2:=aa hbx2;clear hr2 hbx2 h2
 go_upto_region 3 with fail
 obtain⟨w3,hw3⟩ : ∃w3,(w2.setCell ⟨xb,2,none⟩ (.string P)).setCell ⟨xb,3,none⟩ (.string Lo)=w3:=⟨_,rfl⟩;rw[hw3]
 have hw3b:w3.heap[xb]? = some (.cells #[.int .i64 1,.int .i64 n,.string P,.string Lo,.string ⟨#[]⟩,.string ⟨#[]⟩,.slice none 0 0,.slice none 0 0] 42 (0,0)):=by
  rw[<-hw3,aL (cs:=#[.int .i64 1,.int .i64 n,.string P,.string ⟨#[]⟩,.string ⟨#[]⟩,.string ⟨#[]⟩,.slice none 0 0,.slice none 0 0]) (by rw[aL HBX2.out];rfl)];rfl
 have h3:eF w3 B rb S s2 vn ys:=by
  rw[<-hw3];exact(H2.out.setNode HBX2.out HXX.out.2.1).setNode (cs:=#[.int .i64 1,.int .i64 n,.string P,.string ⟨#[]⟩,.string ⟨#[]⟩,.string ⟨#[]⟩,.slice none 0 0,.slice none 0 0]) (by rw[aL HBX2.out];rfl) HXX.out.2.1
 have hB3:Below xb w2 w3:=by rw[<-hw3];exact((ae xb w2).setCell (p:=⟨xb,2,none⟩) (af _) _).setCell (p:=⟨xb,3,none⟩) (af _) _
 have hs3:w3.heap.size=w2.heap.size:=by rw[<-hw3];simp[World.setCell]
 have hx3:se w3 B W0 rb xb S s2 vn ys ⟨1,n,P,Lo,⟨#[]⟩,⟨#[]⟩,[],[]⟩:=by
  refine⟨h3,HXX.out.2.2,HXX.out.2.1,.slice none 0 0,.slice none 0 0,hw3b,aQ _ _ _ _,aQ _ _ _ _,.inl rfl,fun y _ => ?_,fun y _ => ?_⟩
  ·cases hq:y.d.ownBlock with
   |none=>exact .inl rfl
   |some b=>exact .inr (by rw[tg];simp)
  ·cases hq:y.a.ownBlock with
   |none=>exact .inl rfl
   |some b=>exact .inr (by rw[tg];simp)
 have hBW:B<=W0:=by rw[<-HW0.out];exact hBs
 have HBW:=aa hBW;have HC3:=aa (HMR.out W0 xb w3 hx3 hBW (by omega))
 have HB3:=aa (HB2.out.trans (hB3.mono (ag hBW HXX.out.2.2)));have HO3:=aa (HG2.out.trans (iz.of (hB3.mono HXX.out.2.2)));clear hw3 hw3b h3 hB3 hs3 hx3 q2 q3 qf hbl2
 go_wp2_with fail
 refine HC3.out.mono ?_;rintro e w4⟨rfl,hx4,ho4,hb4⟩;obtain⟨vD,vA,hbx4,hxo4⟩:=hx4.at';obtain⟨Ad,cd,rfl,_,_⟩:=aP hxo4.rD;obtain⟨Aa,ca,rfl,_,_⟩:=aP hxo4.rA;obtain⟨An,cn,rfl,hcn,hcn2⟩:=aP hx4.rd.rn;have HO4:=aa (HO3.out.trans ho4);have HB4:=aa (HB3.out.trans hb4);have H4:=aa hx4.rd;have HXO4:=aa hxo4;have HBX4:=aa hbx4;obtain⟨j4,hj4⟩:=hx4.rd.rc;have r2:=hj4.cells.2.2.1;have rl:=hj4.lt;have hBw4:B<=w4.heap.size:=ag hBs HO4.out.size;obtain⟨i0,hi0,hz0,hz1,hz2⟩:=info_parts ja;obtain⟨yn,hyn⟩ : ∃yn:Ny,yn=⟨X,.slice Ad X.ds.length cd,.slice Aa X.ats.length ca⟩:=⟨_,rfl⟩;have HYN:=aa hyn
 have HNC:Hid ([yn].flatMap gS=[.int .i64 X.k,.int .i64 X.n,.string X.p,.string X.l,.string X.u,.string X.t,.slice Ad X.ds.length cd,.slice Aa X.ats.length ca]):=by
  show _=_
  rw[hyn];rfl
 have HNA:Hid (∀W:World,∀j u,([yn].flatMap gS)[j]? = some u->(W.alloc (Obj.cells #[.int .i64 X.k,.int .i64 X.n,.string X.p,.string X.l,.string X.u,.string X.t,.slice Ad X.ds.length cd,.slice Aa X.ats.length ca] 42)).cell? ((⟨W.heap.size,0,none⟩ : Addr).add j)=some u):=fun W j u hu=>by
  rw[HNC.out]at hu;exact World.news_of_block (ar W (Obj.cells #[.int .i64 X.k,.int .i64 X.n,.string X.p,.string X.l,.string X.u,.string X.t,.slice Ad X.ds.length cd,.slice Aa X.ats.length ca] 42)) j u hu
 have HO1:Hid (∀u∈[yn].flatMap gS,u.oneCell'=true):=fun u hu=>by
  rw[HNC.out]at hu;simp only[aU,bE,or_false]at hu;rcases hu with rfl|rfl|rfl|rfl|rfl|rfl|rfl|rfl<;>rfl
 have hbx5:=((ae w4.heap.size w4).drew.block xb (au hbx4)).trans hbx4;have a0:w4.drew.cell? ⟨xb,0,none⟩=some (.int .i64 X.k):=by rw[ai _ xb 0 _ _ _ hbx5];rfl
 have a1:w4.drew.cell? ⟨xb,1,none⟩=some (.int .i64 X.n):=by rw[ai _ xb 1 _ _ _ hbx5];rfl
 have a2:w4.drew.cell? ⟨xb,2,none⟩=some (.string X.p):=by rw[ai _ xb 2 _ _ _ hbx5];rfl
 have a3:w4.drew.cell? ⟨xb,3,none⟩=some (.string X.l):=by rw[ai _ xb 3 _ _ _ hbx5];rfl
 have a4:w4.drew.cell? ⟨xb,4,none⟩=some (.string X.u):=by rw[ai _ xb 4 _ _ _ hbx5];rfl
 have a5:w4.drew.cell? ⟨xb,5,none⟩=some (.string X.t):=by rw[ai _ xb 5 _ _ _ hbx5];rfl
 have a6:w4.drew.cell? ⟨xb,6,none⟩=some (.slice Ad X.ds.length cd):=by rw[ai _ xb 6 _ _ _ hbx5];rfl
 have a7:w4.drew.cell? ⟨xb,7,none⟩=some (.slice Aa X.ats.length ca):=by rw[ai _ xb 7 _ _ _ hbx5];rfl
 have kA:∀ob,(w4.drew.alloc ob).cell? ⟨rb,2,none⟩=some (.slice An ys.length cn):=fun ob=>(((ae w4.drew.heap.size w4.drew).alloc (af _) ob).cell (p:=⟨rb,2,none⟩) rl).trans r2;have kB:∀ob,(w4.alloc ob).cell? ⟨rb,2,none⟩=some (.slice An ys.length cn):=fun ob=>(((ae w4.heap.size w4).alloc (af _) ob).cell (p:=⟨rb,2,none⟩) rl).trans r2;have H5:=aa (hx4.rd.below ((ae w4.heap.size w4).drew));have hbxl:=au hbx4;clear hx4 ho4 hb4 hbx4 hxo4 hj4 hyn hbx5
 go_upto_region 5 with fail
 go_cut [] (fun wx => ∃vn',eF wx B rb S (s3.add X) vn' (ys++[⟨X,.slice Ad X.ds.length cd,.slice Aa X.ats.length ca⟩])/\wx.heap[xb]? = w4.heap[xb]?/\du rb (.slice An ys.length cn) vn' w4 wx/\Below B w4 wx)
 case first =>
  go_region_law (refine eO (P:=Tryz.prog) rfl (.tmp 31) (.tmp 33) 28 rfl B 42 i0 _ 8 _ Tryz.underlying28 hi0 hz0 hz1 hz2 rfl (by omega) (.slice An ys.length cn) ys.length (ys.flatMap gS) rfl (H5.out.rn.alloc _) 1 (.slice (some ⟨w4.drew.heap.size,0,none⟩) 1 1) rfl ([yn].flatMap gS) (.inr ⟨_,1,rfl,HNA.out w4.drew⟩) rfl HO1.out (by unfold maxLen;omega) (by omega) (by simp;omega) ?_;intro v1 wa hown hgrow hat;rw[<-ch]at hown;obtain⟨g1,g2,g3⟩:=H5.out.grown hgrow hat hown (HYN.out ▸ ⟨uR (dh HXO4.out.rD ((ae w4.heap.size w4).drew)) HBW.out,uR (dh HXO4.out.rA ((ae w4.heap.size w4).drew)) HBW.out⟩) hBw4;have hka:=(hgrow.block rb (by simp;omega) (fun e=>dQ H5.out.rn H5.out.rc.choose_spec.box (by decide) e.symm)).trans ((((ae w4.drew.heap.size w4.drew).alloc (af _) _).block rb H5.out.lt).trans H5.out.rc.choose_spec.box);have kc:wa.cell? ⟨rb,2,none⟩=some (.slice An ys.length cn):=(by rw[ai wa rb 2 _ _ _ hka];rfl);have kf:wa.frozen? ⟨rb,2,none⟩=false:=(by unfold World.frozen?;rw[hka];simp);have HG:=aa (bM g1 (bM g2 g3));obtain⟨A1,c1',rfl,_,_⟩:=aP hown;clear hka hown hgrow hat g1 g2 g3)
  all_goals
   have HEND:Hid (eF (wa.setCell ⟨rb,2,none⟩ (.slice A1 (ys.length+1) c1')) B rb S (s3.add X) (.slice A1 (ys.length+1) c1') (ys++[⟨X,.slice Ad X.ds.length cd,.slice Aa X.ats.length ca⟩])/\(wa.setCell ⟨rb,2,none⟩ (.slice A1 (ys.length+1) c1')).heap[xb]? = w4.heap[xb]?/\du rb (.slice An ys.length cn) (.slice A1 (ys.length+1) c1') w4 (wa.setCell ⟨rb,2,none⟩ (.slice A1 (ys.length+1) c1'))/\Below B w4 (wa.setCell ⟨rb,2,none⟩ (.slice A1 (ys.length+1) c1'))):=by
    obtain⟨g1,g2,g3⟩:=HG.out;rw[HYN.out]at g1;have g4:=(du.of_below (rb:=rb) (v:=.slice An ys.length cn) ((ae w4.heap.size w4).drew)).trans g2;exact⟨g1,g4.els xb hbxl HXX.out.1 HXX.out.2.1,g4,((ae B w4).drew).trans g3⟩
   clear HG kc kf
   go_wp2_with fail
   go_meet
   exact⟨_,HEND.out⟩
 case rest =>
  obtain⟨w5,hw5⟩ : ∃w5:World,w5=wc:=⟨_,rfl⟩;subst hw5;obtain⟨vn',h5,hbx5,hg5,hb5⟩:=hcut;have hg5':du rb (.slice An ys.length cn) vn' w w5:=(⟨fun b hb hbr _=>HO4.out.els b (by rw[<-HW0.out];exact hb) hbr,fun b hb => .inl hb,HO4.out.size⟩ : du rb (.slice An ys.length cn) (.slice An ys.length cn) w w4).trans hg5
  have HG5:=aa hg5';have HB5:=aa (HB4.out.trans hb5);have HBX5:=aa (hbx5.trans HBX4.out);have HX5:=aa h5
  have HNX:Hid (∀b,vn'.ownBlock=some b->xb≠b):=fun b hb e=>by
   subst e;rcases hg5.new xb hb with h0|h0
   ·exact HXX.out.2.1 h0
   ·omega
  obtain⟨j5,hj5⟩:=h5.rc;have e2:=hj5.cells.2.2.1;have e3:=hj5.cells.2.2.2;have el:=hj5.lt;have hHR:=HRR.out;clear hg5 hg5' hb5 hbx5 h5 hj5 a0 a1 a2 a3 a4 a5 a6 a7 kA kB r2 rl HNC HNA HO1 HYN H5 hbxl;replace e3:w5.cell? ⟨rb,3,none⟩=some (.bool s3.bad):=e3;cases hbad:s3.bad with
  |true =>
   rw[hbad]at e3;rw[av hbad]at hHR;have HR2:=aa hHR;clear hHR;go_wp2;refine bodyPost_ret (results_none rfl _ _ _) rfl ?_;rw[<-HR2.out];exact⟨rfl,⟨_,_,HX5.out,HG5.out⟩,HB5.out⟩
  |false =>
   rw[hbad]at e3;rw[am (by rw[hbad];simp)]at hHR
   have HR2:=aa hHR;have hgd:=HGD.out hbad;have hk3:Kp s3:=HKP.out.of HNS.out.2.2;have hyl3:ys.length=s3.ns.length:=by rw[HYL.out,HNS.out.2.2]
   have hXn:0<=X.n/\X.n<(s3.ns.length:Int):=by rw[HX.out.2.1,HNS.out.2.2];exact⟨hn0,hnn⟩
   have HSM:Hid (Kp (s3.add (d8 s3.ns X))):=hk3.add (zc hk3.sm HX.out.1) (by show 0<=X.n;exact hXn.1) (by show X.n<_;exact hXn.2)
   have HK3:=aa (bM hk3 (bM hyl3 hXn));have hMN:=fun w' (hm:eF w' B rb S (s3.add X) vn' (ys++[⟨X,.slice Ad X.ds.length cd,.slice Aa X.ats.length ca⟩]))=>pP hm hk3 (X:=X) rfl rfl hXn.1 hXn.2 (by rw[<-hyl3];omega) X.p
   rw[<-hyl3]at hMN;obtain⟨U,hU⟩ : ∃U,(ck (s3.ns++[X]) ys.length X.p)=U:=⟨_,rfl⟩;rw[hU]at hMN;have HU:=aa hU;obtain⟨A5,c5,rfl,_,_⟩:=aP HX5.out.rn;have hlen1:(ys++[(⟨X,.slice Ad X.ds.length cd,.slice Aa X.ats.length ca⟩ : Ny)]).length=ys.length+1:=by simp
   rw[hlen1]at hMN e2 HX5 HG5
   obtain⟨g,hgE⟩ : ∃g,A5=some ⟨g,0,none⟩:=by
    have h0:=HX5.out.rn;rw[hlen1]at h0;obtain⟨_,⟨h2,h3⟩|⟨g,cap,cur,e,_⟩⟩:=h0
    ·omega
    ·simp only[aK]at e
     exact⟨g,e.1⟩
   subst hgE;have hrn5:=HX5.out.rn;rw[hlen1]at hrn5;obtain⟨gcs,hgb,hgB⟩:=lO hrn5;have hgl:=au hgb
   have hcu:w5.cell? ⟨g,ys.length*8+4,none⟩=some (.string X.u):=by
    have h0:=j0 hrn5 (j:=ys.length*8+4) (u:=.string X.u) (by
     have h1:=ei jE (ys++[(⟨X,.slice Ad X.ds.length cd,.slice Aa X.ats.length ca⟩ : Ny)]) ys.length 4 (by simp) (by omega)
     rw[h1];simp[gS,FW])
    exact h0
   have hfu:w5.frozen? ⟨g,ys.length*8+4,none⟩=false:=by unfold World.frozen?;rw[hgb];simp
   have b2:w5.cell? ⟨xb,2,none⟩=some (.string X.p):=by rw[ai w5 xb 2 _ _ _ HBX5.out];rfl
   have bxl:=au HBX5.out;have HMW:=aa (hMN w5.drew (HX5.out.below ((ae w5.heap.size w5).drew)));have HGB:=aa (bM hgb hgB);have hnl:(ys.length:Int)<(ys.length:Int)+1:=by omega
   clear hHR hk3 hyl3 hXn hMN hU hrn5 hgb hgB
   go_upto_region 7 with fail
   go_cut [] (fun wx=>wx=w5.drew.setCell ⟨g,ys.length*8+4,none⟩ (.string U.1))
   case first =>
    go_region_with (go_at_call 41;refine HMW.out.mono ?_;rintro e w' ⟨rfl,hw⟩;rw[hw];clear hw)
    all_goals
     go_wp2_with fail
     go_meet
     exact rfl
   case rest =>
    have hU5:U=ck (s3.ns++[X]) s3.ns.length X.p:=by rw[<-HK3.out.2.1];exact HU.out.symm
    obtain⟨F,hF⟩ : ∃F,BA (s3.ns++[X]) s3.ns.length=F:=⟨_,rfl⟩;have hEU:lM X U.1 F X.ats.length=d8 s3.ns X:=by rw[Eh,hU5,<-hF];rfl
    have HEU:=aa hEU;have HF:=aa hF
    have HREL:Hid (ud w B rb xb S s3 (.slice An ys.length cn) (.slice (some ⟨g,0,none⟩) (ys.length+1) c5) ys X U.1 F (.slice Ad X.ds.length cd) (.slice Aa X.ats.length ca) (.int .i64 0) wc):=by
     rw[hcut];refine⟨0,aM _,rfl,(HX5.out.below ((ae _ _).drew)).setUri U.1,?_,HG5.out.setNew (.inl rfl),HB5.out.drew.setCell (p:=⟨g,ys.length*8+4,none⟩) HGB.out.2 _⟩;rw[ao _ _ _ _ (show xb≠g from HNX.out g rfl)];exact HBX5.out
    have HGA:Hid (0<X.ats.length->∃ga,Aa=some ⟨ga,0,none⟩/\w.heap.size<=ga/\∀y∈ys,y.a.ownBlock=none∨y.a.ownBlock≠some ga):=fun hpos=>by
     obtain⟨_,⟨h2,h3⟩|⟨ga,cap,cur,e,hg,_⟩⟩:=HXO4.out.rA
     ·omega
     ·simp only[aK]at e
      obtain⟨rfl,_⟩:=e;exact⟨ga,rfl,by rw[HW0.out];exact hg,HXO4.out.ya⟩
    have q7:wc.cell? ⟨xb,7,none⟩=some (.slice Aa X.ats.length ca):=by
     obtain⟨_,_,_,_,hb4,_⟩:=HREL.out;rw[ai wc xb 7 _ _ _ hb4];rfl
    clear hcut hU5 hF hEU e2 e3 el hcu hfu b2 bxl HMW
    go_wp2_with fail
    clear q7
    go_loopw [62] (ud w B rb xb S s3 (.slice An ys.length cn) (.slice (some ⟨g,0,none⟩) (ys.length+1) c5) ys X U.1 F (.slice Ad X.ds.length cd) (.slice Aa X.ats.length ca)) (fun i _=>X.ats.length-(intOf i).toNat)
    case atStart=>exact HREL.out
    case round =>
     obtain⟨k,hk,rfl,hr,hbx,hg,hb⟩:=hrel;clear HREL;by_cases hlt:k<X.ats.length
     ·have hkz:(k:Int)<(X.ats.length:Int):=by omega
      obtain⟨ga,rfl,hgB,hya⟩:=HGA.out (by omega)
      obtain⟨⟨a0,a2⟩,csa,hac⟩:=hr.attCell hlt;obtain⟨n7,csn,hnc⟩:=hr.lastCell;have q7:wr.cell? ⟨xb,7,none⟩=some (.slice (some ⟨ga,0,none⟩) X.ats.length ca):=by rw[ai wr xb 7 _ _ _ hbx];rfl
      have gf:wr.frozen? ⟨ga,k*4+2,none⟩=false:=by unfold World.frozen?;rw[hac];simp
      obtain⟨jr,hjr⟩:=hr.rc;have e2:=hjr.cells.2.2.1
      have HFX:Hid (F X.ats[k]=if X.ats[k].p.data.toList=[]then X.ats[k]else { X.ats[k]with u:=(ck (s3.ns++[X]) s3.ns.length X.ats[k].p).1 }):=by
       show _=_
       rw[<-HF.out];rfl
      have HSET:Hid (∀V,F X.ats[k]={ X.ats[k]with u:=V }->_):=fun V hV=>ye hr hbx hg hb hya hlt hgB hBs V hV;have HSAM:Hid (F X.ats[k]=X.ats[k]->∀w',Below wr.heap.size wr w'->_):=fun hV w' hw=>wu hr hbx hg hb hBs hlt hV hw;have HMN:=aa (pP (hr.below ((ae wr.heap.size wr).drew)) HK3.out.1 (x:=lM X U.1 F k) (X:=X) rfl rfl HK3.out.2.2.1 HK3.out.2.2.2 (by rw[<-HK3.out.2.1];omega) X.ats[k].p)
      rw[<-HK3.out.2.1]at HMN HFX
      have HKP4:Hid (∀V:ByteArray,(wr.setCell ⟨ga,k*4+2,none⟩ (.string V)).drew.cell? ⟨rb,2,none⟩=some (.slice (some ⟨g,0,none⟩) (ys.length+1) c5)/\(wr.setCell ⟨ga,k*4+2,none⟩ (.string V)).drew.cell? ⟨g,ys.length*8+7,none⟩=some (.slice (some ⟨ga,0,none⟩) X.ats.length ca)/\(wr.setCell ⟨ga,k*4+2,none⟩ (.string V)).drew.cell? ⟨xb,7,none⟩=some (.slice (some ⟨ga,0,none⟩) X.ats.length ca)/\(wr.setCell ⟨ga,k*4+2,none⟩ (.string V)).drew.cell? ⟨ga,k*4,none⟩=some (.string X.ats[k].p)):=fun V=>by
       have n1:ga≠rb:=br hac hjr.box (by decide)
       have n2:ga≠g:=br hac hnc (by decide)
       have n3:ga≠xb:=br hac hbx (by decide)
       exact⟨(World.cell?_setCell_far wr ⟨ga,k*4+2,none⟩ ⟨rb,2,none⟩ _ n1).trans e2,(World.cell?_setCell_far wr ⟨ga,k*4+2,none⟩ ⟨g,ys.length*8+7,none⟩ _ n2).trans n7,(World.cell?_setCell_far wr ⟨ga,k*4+2,none⟩ ⟨xb,7,none⟩ _ n3).trans q7,(World.cell?_setCell_other wr ⟨ga,k*4+2,none⟩ ⟨ga,k*4,none⟩ _ (by simp)).trans a0⟩
      clear hr hbx hg hb hac hnc hjr hgB;generalize hxk:X.ats[k]=a at *;obtain⟨P',Lo',Ur,Va⟩:=a;dsimp only at a0 a2 HFX HMN HSET HKP4;clear hxk;by_cases hP:P'.data.toList=[]
      ·have HFIN:Hid (∀w',Below wr.heap.size wr w'->_):=HSAM.out (by rw[HFX.out,av hP])
       have te:P'.toList.isEmpty=true:=by rw[aq,hP];rfl
       clear hP HSET HSAM HMN HFX HKP4
       go_wp2_with fail
       go_roundw
       case rel=>exact(show Value.int .i64 ((k+1:Nat):Int)=_ by go_num) ▸ HFIN.out _ (ae _ _)
       case measure=>simp[intOf];omega
      ·have te:P'.toList.isEmpty=false:=by
        rw[aq];cases hq:P'.data.toList with
        |nil=>exact absurd hq hP
        |cons c t=>rfl
       obtain⟨V,hV⟩ : ∃V,(ck (s3.ns++[X]) ys.length P')=V:=⟨_,rfl⟩;rw[hV]at HMN HFX;have HFIN:=aa (HSET.out V.1 (by rw[HFX.out,am hP]))
       have HKP5:=aa (HKP4.out V.1);clear hP HSET HSAM HFX hV HKP4
       go_upto_region 12 with fail
       go_region_held3 (fun w'=>w'.cell? ⟨rb,2,none⟩=some (.slice (some ⟨g,0,none⟩) (ys.length+1) c5)/\w'.cell? ⟨g,ys.length*8+7,none⟩=some (.slice (some ⟨ga,0,none⟩) X.ats.length ca)/\w'.cell? ⟨xb,7,none⟩=some (.slice (some ⟨ga,0,none⟩) X.ats.length ca)/\w'.cell? ⟨ga,k*4,none⟩=some (.string P')) (first|exact HKP5.out|go_keep) ((go_at_call 41;refine HMN.out.mono ?_;rintro e w' ⟨rfl,hw⟩;rw[hw];clear hw))
       all_goals
        go_wp2_with fail
        go_roundw
        case rel=>exact(show Value.int .i64 ((k+1:Nat):Int)=_ by go_num) ▸ HFIN.out
        case measure=>simp[intOf];omega
     ·have hkn:k=X.ats.length:=by omega
      subst hkn;have hkz:¬(X.ats.length:Int)<(X.ats.length:Int):=by omega
      rw[HEU.out]at hr;obtain⟨s4,hs4⟩ : ∃s4,s3.add (d8 s3.ns X)=s4:=⟨_,rfl⟩;have hs4l:s4.rest.length=s3.rest.length:=by rw[<-hs4];rfl
      have hs4n:s4.ns.length=s3.ns.length+1:=by rw[<-hs4];show(s3.ns++[_]).length=_;simp
      have hs4s:bX [47,62] s4=bX [47,62] s3:=by rw[<-hs4];rfl
      have hs4k:Kp s4:=by rw[<-hs4];exact HSM.out
      have hT:(if bX [47,62] s4=true then bI [47,62] s4 else qF (p,l) (da (dj f) (s4.rest.length+1) (ys.length:Int) [] (bI [62] s4)))=R:=by
       have:=HR2.out;rw[hs4]at this;rw[hs4s,hs4l,HK3.out.2.1];exact this
      rw[hs4]at hr;obtain⟨ysN,hysN⟩ : ∃ysN,ys++[(⟨d8 s3.ns X,.slice Ad X.ds.length cd,.slice Aa X.ats.length ca⟩ : Ny)]=ysN:=⟨_,rfl⟩;obtain⟨vN,hvN⟩ : ∃vN,Value.slice (some ⟨g,0,none⟩) (ys.length+1) c5=vN:=⟨_,rfl⟩;rw[hysN,hvN]at hr;rw[hvN]at hg;have HN4:Hid (vN.ownBlock≠some xb):=fun e=>HNX.out xb (by rw[<-hvN]at e;exact e) rfl
      obtain⟨k4,hk4⟩:=hr.rc;have HSE:Hid (Calls Tryz.prog 57 #[.pointer (some ⟨rb,0,none⟩),.string ⟨#[47,62]⟩] wr fun e w'=>e=.returned (.bool (bX [47,62] s4))/\dA rb S vN s4 wr w'):=dP S ⟨#[47,62]⟩ rb vN s4 k4 wr hk4 (by omega) (by decide)
      have H4':=aa hr;have HG4':=aa hg;have HB4':=aa hb;have HBX4':=aa hbx;have hbs4:B<=wr.heap.size:=ag hBs hb.size;have HYS:Hid (ys.length=s3.ns.length):=HK3.out.2.1;have HK4:=aa hs4k;have HT4:=aa hT;have HPX:Hid (X.p=ba p/\X.l=ba l):=HX.out.2.2.2;clear hr hg hb hbx hk4 hvN hysN hs4 hs4s hs4k hT HX5 HBX5 HB5 HG5 HNX HGA HEU HF HSM HR2 HRR HGB HU HMR HFU HXO4 HBX4 HB4 HO4 H4 HB3 HO3 HBX2 HTK HG1 HG1a HG2 HB1 HB1a HB2 HBX HW1A H HC1 HC3 H1 H2;cases hse:bX [47,62] s4 with
      |true =>
       rw[hse]at HSE;have hT:=HT4.out;rw[av hse]at hT;have HT5:=aa hT;clear hT hse
       go_wp2_with fail
       refine HSE.out.mono ?_;rintro e wa⟨rfl,hra⟩;have ha:=H4'.out.rst hra rfl;obtain⟨ka,hka⟩:=ha.rc;have HTA:Hid (Calls Tryz.prog 59 #[.pointer (some ⟨rb,0,none⟩),.string ⟨#[47,62]⟩] wa fun e w'=>e=.returned (.tuple #[])/\dA rb S vN (bI [47,62] s4) wa w'):=eT S ⟨#[47,62]⟩ rb vN s4 ka wa hka (by omega) (by decide)
       have HBa:=aa (HB4'.out.trans (hra.below HLO.out hbs4));have HGa:=aa (HG4'.out.rst hra);have Ha:=aa ha;clear hra ha hka
       go_wp2_with fail
       refine HTA.out.mono ?_;rintro e wb⟨rfl,hrb⟩
       have HEND:Hid (eP B rb S R (.slice An ys.length cn) w wb):=by
        refine⟨⟨vN,ysN,?_,HGa.out.rst hrb⟩,HBa.out.trans (hrb.below HLO.out (ag hBs HBa.out.size))⟩;rw[<-HT5.out];exact Ha.out.rst hrb (dX _ _)
       clear hrb;go_wp2;refine bodyPost_ret (results_none rfl _ _ _) rfl ?_;exact⟨rfl,HEND.out⟩
      |false =>
       rw[hse]at HSE;have hT:=HT4.out;rw[am (by rw[hse];simp)]at hT
       obtain⟨s5,hs5⟩ : ∃s5,bI [62] s4=s5:=⟨_,rfl⟩;have hs5l:s5.rest.length<=s4.rest.length:=by rw[<-hs5];exact(cA [62] s4).len
       have hs5n:s5.ns=s4.ns:=by rw[<-hs5];exact dX _ _
       rw[hs5]at hT;obtain⟨s7,hs7⟩ : ∃s7,da (dj f) (s4.rest.length+1) (ys.length:Int) [] s5=s7:=⟨_,rfl⟩;rw[hs7]at hT;obtain⟨s8,hs8⟩ : ∃s8,bI [60,47] s7=s8:=⟨_,rfl⟩;obtain⟨s9,hs9⟩ : ∃s9,(cQ s8).2=s9:=⟨_,rfl⟩;obtain⟨pl9,hpl9⟩ : ∃pl9,(cQ s8).1=pl9:=⟨_,rfl⟩;obtain⟨s10,hs10⟩ : ∃s10,bG s9=s10:=⟨_,rfl⟩;obtain⟨s11,hs11⟩ : ∃s11,bI [62] s10=s11:=⟨_,rfl⟩;obtain⟨p9,l9⟩:=pl9
       have hR:R=s11.or (decide ((p9,l9)≠(p,l))):=by
        rw[<-hT,<-hs11,<-hs10,<-hs9,<-hpl9,<-hs8];rfl
       have HR11:=aa hR
       have HNS8:Hid (s8.ns=s7.ns/\s9.ns=s8.ns/\s10.ns=s9.ns/\s11.ns=s10.ns):=by
        refine⟨?_,?_,?_,?_⟩
        ·rw[<-hs8];exact dX _ _
        ·rw[<-hs9];exact nn _
        ·rw[<-hs10];rfl
        ·rw[<-hs11];exact dX _ _
       have HTK5:Hid (∀w' k',eR w' rb S vN s4 k'->Calls Tryz.prog 59 #[.pointer (some ⟨rb,0,none⟩),.string ⟨#[62]⟩] w' fun e w''=>e=.returned (.tuple #[])/\dA rb S vN s5 w' w''):=fun w' k' hm=>hs5 ▸ eT S ⟨#[62]⟩ rb vN s4 k' w' hm (by omega) (by decide)
       have HIN:Hid (∀w',eF w' B rb S s5 vN ysN->Calls Tryz.prog 67 #[.pointer (some ⟨rb,0,none⟩),.int .i64 (ys.length:Int)] w' fun e w''=>e=.returned (.tuple #[])/\eP B rb S s7 vN w' w''):=fun w' hm=>by
        rw[<-hs7];refine xF HEE.out S B rb s5 vN ysN (ys.length:Int) (s4.rest.length+1) w' hm hS (by omega) (by omega) (HK4.out.of hs5n) (by omega) (by rw[hs5n,hs4n,HYS.out];omega) ?_
        unfold ey at hct ⊢;rw[hs5n,hs4n,HNS.out.2.2];omega
       have HTK7:Hid (∀w' k' v,eR w' rb S v s7 k'->Calls Tryz.prog 59 #[.pointer (some ⟨rb,0,none⟩),.string ⟨#[60,47]⟩] w' fun e w''=>e=.returned (.tuple #[])/\dA rb S v s8 w' w''):=fun w' k' v hm=>hs8 ▸ eT S ⟨#[60,47]⟩ rb v s7 k' w' hm (by omega) (by decide)
       have HFU8:Hid (∀w' k' v,eR w' rb S v s8 k'->Calls Tryz.prog 65 #[.pointer (some ⟨rb,0,none⟩)] w' fun e w''=>e=.returned (.tuple #[.string (ba p9),.string (ba l9)])/\dA rb S v s9 w' w''):=fun w' k' v hm=>by
        have:=pV S rb v s8 k' w' hm (by omega)
        rw[hs9,hpl9]at this;exact this
       have HBL9:Hid (∀w' k' v,eR w' rb S v s9 k'->Calls Tryz.prog 62 #[.pointer (some ⟨rb,0,none⟩)] w' fun e w''=>e=.returned (.int .i64 (fN s9:Nat))/\dA rb S v s10 w' w''):=fun w' k' v hm=>hs10 ▸ eN S rb v s9 k' w' hm (by omega)
       have HTK10:Hid (∀w' k' v,eR w' rb S v s10 k'->Calls Tryz.prog 59 #[.pointer (some ⟨rb,0,none⟩),.string ⟨#[62]⟩] w' fun e w''=>e=.returned (.tuple #[])/\dA rb S v s11 w' w''):=fun w' k' v hm=>hs11 ▸ eT S ⟨#[62]⟩ rb v s10 k' w' hm (by omega) (by decide)
       have HS5N:=aa hs5n;clear hT hse hR hs5 hs5n hs7 hs8 hs9 hpl9 hs10 hs11
       go_wp2_with fail
       refine HSE.out.mono ?_;rintro e wa⟨rfl,hra⟩;have ha:=H4'.out.rst hra rfl;obtain⟨ka,hka⟩:=ha.rc;have HTA:=aa (HTK5.out wa ka hka);have HBa:=aa (HB4'.out.trans (hra.below HLO.out hbs4));have HGa:=aa (HG4'.out.rst hra);have HXa:=aa ((hra.other xb (au HBX4'.out) HXX.out.1).trans HBX4'.out);have Ha:=aa ha;clear hra ha hka
       go_wp2_with fail
       refine HTA.out.mono ?_;rintro e wb⟨rfl,hrb⟩;have hb:=Ha.out.rst hrb HS5N.out;have HIb:=aa (HIN.out wb hb);have HBb:=aa (HBa.out.trans (hrb.below HLO.out (ag hBs HBa.out.size)));have HGb:=aa (HGa.out.rst hrb);have HXb:=aa ((hrb.other xb (au HXa.out) HXX.out.1).trans HXa.out);clear hrb hb
       go_wp2_with fail
       refine HIb.out.mono ?_;rintro e w7⟨rfl,⟨v7,y7,h7,g7⟩,b7⟩;obtain⟨k7,hk7⟩:=h7.rc;have HT7:=aa (HTK7.out w7 k7 v7 hk7);have HB7:=aa (HBb.out.trans b7);have HG7:=aa (HGb.out.trans g7);have HX7:=aa ((g7.els xb (au HXb.out) HXX.out.1 HN4.out).trans HXb.out);have H7:=aa h7;clear h7 g7 b7 hk7
       go_wp2_with fail
       refine HT7.out.mono ?_;rintro e w8⟨rfl,hr8⟩;have h8:=H7.out.rst hr8 HNS8.out.1;obtain⟨k8,hk8⟩:=h8.rc;have HF8:=aa (HFU8.out w8 k8 v7 hk8);have HB8:=aa (HB7.out.trans (hr8.below HLO.out (ag hBs HB7.out.size)));have HG8:=aa (HG7.out.rst hr8);have HX8:=aa ((hr8.other xb (au HX7.out) HXX.out.1).trans HX7.out);have H8:=aa h8;clear hr8 h8 hk8
       go_wp2_with fail
       refine HF8.out.mono ?_;rintro e w9⟨rfl,hr9⟩;have h9:=H8.out.rst hr9 HNS8.out.2.1;obtain⟨k9,hk9⟩:=h9.rc;have HB9':=aa (HBL9.out w9 k9 v7 hk9);have HB9:=aa (HB8.out.trans (hr9.below HLO.out (ag hBs HB8.out.size)));have HG9:=aa (HG8.out.rst hr9);have HX9:=aa ((hr9.other xb (au HX8.out) HXX.out.1).trans HX8.out);have H9:=aa h9;clear hr9 h9 hk9
       go_wp2_with fail
       refine HB9'.out.mono ?_;rintro e w10⟨rfl,hr10⟩;have h10:=H9.out.rst hr10 HNS8.out.2.2.1;obtain⟨k10,hk10⟩:=h10.rc;have HT10:=aa (HTK10.out w10 k10 v7 hk10);have HB10:=aa (HB9.out.trans (hr10.below HLO.out (ag hBs HB9.out.size)));have HG10:=aa (HG9.out.rst hr10);have HX10:=aa ((hr10.other xb (au HX9.out) HXX.out.1).trans HX9.out);have H10:=aa h10;clear hr10 h10 hk10
       go_wp2_with fail
       refine HT10.out.mono ?_;rintro e w11⟨rfl,hr11⟩;have h11:=H10.out.rst hr11 HNS8.out.2.2.2;obtain⟨k11,hk11⟩:=h11.rc;have c3:=hk11.cells.2.2.2;have cf:=hk11.frozen 3;have hX11:=(hr11.other xb (au HX10.out) HXX.out.1).trans HX10.out;have x2:w11.cell? ⟨xb,2,none⟩=some (.string (ba p)):=by rw[ai w11 xb 2 _ _ _ hX11,<-HPX.out.1];rfl
       have x3:w11.cell? ⟨xb,3,none⟩=some (.string (ba l)):=by rw[ai w11 xb 3 _ _ _ hX11,<-HPX.out.2];rfl
       have HEND:Hid (∀x,x=(s11.bad||decide ((p9,l9)≠(p,l)))->eP B rb S R (.slice An ys.length cn) w (w11.setCell ⟨rb,3,none⟩ (.bool x))):=fun x hx=>by
        have hm:dA rb S v7 { s11 with bad:=x } w11 (w11.setCell ⟨rb,3,none⟩ (.bool x)):=dA.mark hk11 x;have hB11:=HB10.out.trans (hr11.below HLO.out (ag hBs HB10.out.size));refine⟨⟨v7,y7,?_,(HG10.out.rst hr11).rst hm⟩,hB11.trans (hm.below HLO.out (ag hBs hB11.size))⟩;have e:R={ s11 with bad:=x }:=by rw[HR11.out,hx];rfl
        rw[e];exact h11.rst hm rfl
       clear hr11 h11 hk11 hX11
       go_upto_region 22 with fail
       clear HSE HTK5 HIN HTK7 HFU8 HBL9 HTK10 HR11 HNS8 HPX HPL HT4 HX10 HX9 HX8 HX7 HXa HXb HBX4' HB10 HG10 H10 H9 HB9 HG9 H8 HB8 HG8 H7 HB7 HG7 HBb HGb Ha HBa HGa HT10 HB9' HF8 HT7 HIb HTA H4' HG4' HB4' HK4;obtain⟨b11,hb11⟩ : ∃b11,s11.bad=b11:=⟨_,rfl⟩;rw[hb11]at c3 HEND
       have hne:∀{a b:List UInt8},a≠b->((ba a).toList==(ba b).toList)=false:=fun {a b} h=>by
        rw[aq,aq,ak];exact fun e=>h e
       by_cases hp:p9=p
       ·subst hp
        have tp:((ba p9).toList==(ba p9).toList)=true:=beq_self_eq_true _;by_cases hl:l9=l
        ·subst hl
         have tl:((ba l9).toList==(ba l9).toList)=true:=beq_self_eq_true _;cases b11 with
         |true =>
          have HE2:=aa (HEND.out true rfl);clear HEND hne;go_wp2
          go_end0
          exact⟨rfl,HE2.out⟩
         |false =>
          have HE2:=aa (HEND.out false (by simp))
          clear HEND hne;go_wp2
          go_end0
          exact⟨rfl,HE2.out⟩
        ·have tl:((ba l9).toList==(ba l).toList)=false:=hne hl
         cases b11 with
         |true =>
          have HE2:=aa (HEND.out true rfl);clear HEND hne;go_wp2
          go_end0
          exact⟨rfl,HE2.out⟩
         |false =>
          have HE2:=aa (HEND.out true (by simp[hl]))
          clear HEND hne;go_wp2
          go_end0
          exact⟨rfl,HE2.out⟩
       ·have tp:((ba p9).toList==(ba p).toList)=false:=hne hp
        cases b11 with
        |true =>
         have HE2:=aa (HEND.out true rfl);clear HEND hne;go_wp2
         go_end0
         exact⟨rfl,HE2.out⟩
        |false =>
         have HE2:=aa (HEND.out true (by simp[hp]))
         clear HEND hne;go_wp2
         go_end0
         exact⟨rfl,HE2.out⟩
end Go.Proofs.YteinegfbpfhflaaGreatDoor
