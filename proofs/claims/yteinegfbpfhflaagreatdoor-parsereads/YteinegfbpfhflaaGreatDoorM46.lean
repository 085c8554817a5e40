/-
  apostilleref08.Reader: instruction. Conditions: the reader lies as it is; there are not too many nodes.
  apostilleref08.Reader: aside. Conditions: the reader lies as it is; there are not too many nodes.
-/
import Derived.Test.YteinegfbpfhflaaGreatDoorM45
namespace Go.Proofs.YteinegfbpfhflaaGreatDoor
open Go.RowKit
set_option linter.unusedVariables false
set_option maxRecDepth 100000
set_option maxHeartbeats 32000000
theorem je(S:ByteArray)(B rb:Nat)(s:Rf)(vn:Value)(ys:List Ny)(n:Int)(w:World)(h:eF w B rb S s vn ys)(hS:S.size<=1000000)(hys:ys.length<=900000) :
 Calls Tryz.prog 64 #[.pointer (some ⟨rb,0,none⟩),.int .i64 n] w fun e w'=>e=.returned (.tuple #[])/\eP B rb S (fm n s) vn w w':=by
 have hrl:=h.lt;have hBs:B<=w.heap.size:=ag h.lo (be hrl);obtain⟨k,hk⟩:=h.rc;have HTK:Hid (Calls Tryz.prog 59 #[.pointer (some ⟨rb,0,none⟩),.string ⟨#[60,63]⟩] w fun e w'=>e=.returned (.tuple #[])/\dA rb S vn (bI [60,63] s) w w'):=eT S ⟨#[60,63]⟩ rb vn s k w hk hS (by decide)
 have HLO:=aa h.lo;have H:=aa h;have hcr:fm n s=(cR [63,62] (gq (dR (bI [60,63] s)))).2.add ⟨4,n,⟨#[]⟩,ba (iR (bI [60,63] s)),⟨#[]⟩,ba (cR [63,62] (gq (dR (bI [60,63] s)))).1,[],[]⟩:=rfl;rw[hcr];have hn1:=dX [60,63] s;generalize bI [60,63] s=s1 at *;have HNM:Hid (∀w' k',eR w' rb S vn s1 k'->_):=fun w' k' hm=>nh S rb vn s1 k' w' hm hS;have hn2:=xx s1;generalize ba (iR s1)=L at *;generalize dR s1=s2 at *;have HSE:Hid (∀w' k',eR w' rb S vn s2 k'->Calls Tryz.prog 57 #[.pointer (some ⟨rb,0,none⟩),.string ⟨#[63,62]⟩] w' fun e w''=>e=.returned (.bool (bX [63,62] s2))/\dA rb S vn s2 w' w''):=fun w' k' hm=>dP S ⟨#[63,62]⟩ rb vn s2 k' w' hm hS (by decide)
 have HBL:Hid (∀w' k',eR w' rb S vn s2 k'->_):=fun w' k' hm=>eN S rb vn s2 k' w' hm hS;obtain⟨s3,hs3⟩ : ∃s3,gq s2=s3:=⟨_,rfl⟩;rw[hs3];have hn3:s3.ns=s2.ns:=by rw[<-hs3];unfold gq;split<;>rfl
 have HUN:Hid (∀w' k',eR w' rb S vn s3 k'->Calls Tryz.prog 101 #[.pointer (some ⟨rb,0,none⟩),.string ⟨#[63,62]⟩] w' fun e w''=>e=.returned (.string (ba (cR [63,62] s3).1))/\dA rb S vn (cR [63,62] s3).2 w' w''):=fun w' k' hm=>iY S ⟨#[63,62]⟩ 63 [62] rfl rb vn s3 k' w' hm hS (by decide)
 have hn4:=iO [63,62] s3;generalize (cR [63,62] s3).2=s4 at *;generalize ba (cR [63,62] s3).1=Z at *;have HN:=aa (bM hn1 (bM hn2 (bM hn3 hn4)));obtain⟨An,cn,rfl,hcn,hcn2⟩:=aP h.rn;obtain⟨i0,hi0,hz0,hz1,hz2⟩:=info_parts ja;obtain⟨yn,hyn⟩ : ∃yn:Ny,yn=⟨⟨4,n,⟨#[]⟩,L,⟨#[]⟩,Z,[],[]⟩,.slice none 0 0,.slice none 0 0⟩:=⟨_,rfl⟩;have HYN:=aa hyn
 have HNC:Hid ([yn].flatMap gS=[.int .i64 4,.int .i64 n,.string ⟨#[]⟩,.string L,.string ⟨#[]⟩,.string Z,.slice none 0 0,.slice none 0 0]):=by
  show _=_
  rw[hyn];rfl
 have HC1:Hid (∀W:World,∀j u,([yn].flatMap gS)[j]? = some u->(W.alloc (Obj.cells #[.int .i64 4,.int .i64 n,.string ⟨#[]⟩,.string L,.string ⟨#[]⟩,.string Z,.slice none 0 0,.slice none 0 0] 42)).cell? ((⟨W.heap.size,0,none⟩ : Addr).add j)=some u):=fun W j u hu=>by
  rw[HNC.out]at hu;exact World.news_of_block (ar W (Obj.cells #[.int .i64 4,.int .i64 n,.string ⟨#[]⟩,.string L,.string ⟨#[]⟩,.string Z,.slice none 0 0,.slice none 0 0] 42)) j u hu
 have HO1:Hid (∀u∈[yn].flatMap gS,u.oneCell'=true):=fun u hu=>by
  rw[HNC.out]at hu;simp only[aU,bE,or_false]at hu;rcases hu with rfl|rfl|rfl|rfl|rfl|rfl|rfl|rfl<;>rfl
 have HS3:=aa hs3;clear h hk hcr hn1 hn2 hn3 hn4 hyn hs3;go_enter Tryz.func64,Tryz.ntmps64
 go_wp2_with fail
 refine HTK.out.mono ?_;rintro e w1⟨rfl,hr1⟩;have h1:eF w1 B rb S s1 (.slice An ys.length cn) ys:=H.out.rst hr1 HN.out.1;obtain⟨k1,hm1⟩:=h1.rc;have HB1:=aa (hr1.below HLO.out hBs);have HG1:Hid (du rb (.slice An ys.length cn) (.slice An ys.length cn) w w1):=⟨fun b hb hbr _=>hr1.other b hb hbr,fun b hb => .inl hb,hr1.size⟩;have H1:=aa h1;have HC:=aa (HNM.out w1 k1 hm1);clear hr1 h1 hm1
 go_wp2_with fail
 refine HC.out.mono ?_;rintro e w2⟨rfl,hr2⟩;have h2:eF w2 B rb S s2 (.slice An ys.length cn) ys:=H1.out.rst hr2 HN.out.2.1;have hbs1:B<=w1.heap.size:=ag hBs HB1.out.size;have HB2:=aa (HB1.out.trans (hr2.below HLO.out hbs1));have HG2:Hid (du rb (.slice An ys.length cn) (.slice An ys.length cn) w w2):=HG1.out.trans ⟨fun b hb hbr _=>hr2.other b hb hbr,fun b hb => .inl hb,hr2.size⟩;clear hr2 hbs1;obtain⟨xb,hxb⟩ : ∃xb,w2.heap.size=xb:=⟨_,rfl⟩;obtain⟨w2a,hw2a⟩ : ∃w2a,w2.alloc (Obj.cells #[.int .i64 4,.int .i64 n,.string ⟨#[]⟩,.string L,.string ⟨#[]⟩,.string ⟨#[]⟩,.slice none 0 0,.slice none 0 0] 42)=w2a:=⟨_,rfl⟩;have hba:Below w2.heap.size w2 w2a:=by rw[<-hw2a];exact(ae _ _).alloc (af _) _
 have hbx:w2a.heap[xb]? = some (.cells #[.int .i64 4,.int .i64 n,.string ⟨#[]⟩,.string L,.string ⟨#[]⟩,.string ⟨#[]⟩,.slice none 0 0,.slice none 0 0] 42 (0,0)):=by rw[<-hw2a,<-hxb];exact ar w2 _
 have h2a:=h2.below hba;have hxr:xb≠rb:=by have:=h2.lt;omega
 have hxn:(Value.slice An ys.length cn).ownBlock≠some xb:=fun e=>by have:=(h2.rn.lt xb e).2;omega
 have hBx:B<=xb:=by have:=HLO.out;have:=h2.lt;omega
 have HB2a:=aa (HB2.out.trans (hba.mono (ag hBs HB2.out.size)));have HG2a:=aa (HG2.out.trans (du.of_below hba));have HX:=aa (bM hxr (bM hxn hBx));have HBX:=aa hbx;have H2a:=aa h2a;have HXB:=aa hxb;have HW2A:=aa hw2a;obtain⟨k2,hm2⟩:=h2a.rc;have HC2:=aa (HSE.out w2a k2 hm2);clear h2 hba hbx h2a hxr hxn hBx hxb hw2a hm2;cases hse:bX [63,62] s2 with
 |true =>
  rw[hse]at HC2;have hs3:s2=s3:=by rw[<-HS3.out];unfold gq;rw[av hse]
  subst hs3;clear hse
  go_wp2_with fail
  rw[HW2A.out,HXB.out];refine HC2.out.mono ?_;rintro e w3⟨rfl,hr3⟩;have h3:eF w3 B rb S s2 (.slice An ys.length cn) ys:=H2a.out.rst hr3 rfl;obtain⟨k3,hm3⟩:=h3.rc;have hbx3:=(hr3.other xb (au HBX.out) HX.out.1).trans HBX.out;have HB3:=aa (HB2a.out.trans (hr3.below HLO.out (ag hBs HB2a.out.size)));have HG3:Hid (du rb (.slice An ys.length cn) (.slice An ys.length cn) w w3):=HG2a.out.trans ⟨fun b hb hbr _=>hr3.other b hb hbr,fun b hb => .inl hb,hr3.size⟩;have H3:=aa h3;have HBX3:=aa hbx3;have HC5:=aa (HUN.out w3 k3 hm3);clear hr3 h3 hm3 hbx3
  go_wp2_with fail
  refine HC5.out.mono ?_;rintro e w4⟨rfl,hr4⟩;have h4:eF w4 B rb S s4 (.slice An ys.length cn) ys:=H3.out.rst hr4 HN.out.2.2.2;have hbx4:=(hr4.other xb (au HBX3.out) HX.out.1).trans HBX3.out;have p5:w4.cell? ⟨xb,5,none⟩=some (.string ⟨#[]⟩):=by rw[ai w4 xb 5 _ _ _ hbx4];rfl
  have pf5:w4.frozen? ⟨xb,5,none⟩=false:=by unfold World.frozen?;rw[hbx4];simp
  have hl4:=au hbx4;have hB4:=HB3.out.trans (hr4.below HLO.out (ag hBs HB3.out.size));have hG4:du rb (.slice An ys.length cn) (.slice An ys.length cn) w w4:=HG3.out.trans ⟨fun b hb hbr _=>hr4.other b hb hbr,fun b hb => .inl hb,hr4.size⟩;have HB4:=aa hB4;have HG4:=aa hG4;have H4:=aa h4;have HBX4:=aa hbx4;clear hr4 h4 hbx4 hB4 hG4
  go_upto_region 5 with fail
  obtain⟨w5,hw5⟩ : ∃w5,w4.setCell ⟨xb,5,none⟩ (.string Z)=w5:=⟨_,rfl⟩;rw[hw5];have hbx5:w5.heap[xb]? = some (.cells #[.int .i64 4,.int .i64 n,.string ⟨#[]⟩,.string L,.string ⟨#[]⟩,.string Z,.slice none 0 0,.slice none 0 0] 42 (0,0)):=by rw[<-hw5,aL HBX4.out];rfl
  have hoth5:∀b,b≠xb->w5.heap[b]? = w4.heap[b]?:=fun b hb=>by rw[<-hw5];exact ao _ _ _ _ hb
  have hsz5:w5.heap.size=w4.heap.size:=by rw[<-hw5];simp[World.setCell]
  have h5:eF w5 B rb S s4 (.slice An ys.length cn) ys:=by
   obtain⟨k4,hm4⟩:=H4.out.rc;have keep:∀{e q m:Nat} {v:Value} {xs:List Value},w4.ownsRow B e q v m xs->v.ownBlock≠some xb->w5.ownsRow B e q v m xs:=fun {e q m v xs} ho hne=>aR ho (fun b hb _=>hoth5 b (fun e0=>hne (e0 ▸ hb)));exact⟨H4.out.lo,⟨k4,hm4.le,hm4.rest,(hoth5 rb (Ne.symm HX.out.1)).trans hm4.box⟩,H4.out.ns,keep H4.out.rn HX.out.2.1,fun y hy=>⟨keep (H4.out.ry y hy).1 (dQ (H4.out.ry y hy).1 HBX4.out (by decide)),keep (H4.out.ry y hy).2 (dQ (H4.out.ry y hy).2 HBX4.out (by decide))⟩⟩
  have hB5:Below B w w5:=by rw[<-hw5];exact HB4.out.setCell (p:=⟨xb,5,none⟩) HX.out.2.2 _
  have hxo:w.heap.size<=xb:=by have:=HB2.out.size;have:=HXB.out;omega
  have hG5:du rb (.slice An ys.length cn) (.slice An ys.length cn) w w5:=⟨fun b hb hbr hbn=>(hoth5 b (by omega)).trans (HG4.out.els b hb hbr hbn),fun b hb => .inl hb,by have:=HG4.out.size;omega⟩
  have hbx6:=((ae w5.heap.size w5).drew.block xb (au hbx5)).trans hbx5;have a0:w5.drew.cell? ⟨xb,0,none⟩=some (.int .i64 4):=by rw[ai _ xb 0 _ _ _ hbx6];rfl
  have a1:w5.drew.cell? ⟨xb,1,none⟩=some (.int .i64 n):=by rw[ai _ xb 1 _ _ _ hbx6];rfl
  have a2:w5.drew.cell? ⟨xb,2,none⟩=some (.string ⟨#[]⟩):=by rw[ai _ xb 2 _ _ _ hbx6];rfl
  have a3:w5.drew.cell? ⟨xb,3,none⟩=some (.string L):=by rw[ai _ xb 3 _ _ _ hbx6];rfl
  have a4:w5.drew.cell? ⟨xb,4,none⟩=some (.string ⟨#[]⟩):=by rw[ai _ xb 4 _ _ _ hbx6];rfl
  have a5:w5.drew.cell? ⟨xb,5,none⟩=some (.string Z):=by rw[ai _ xb 5 _ _ _ hbx6];rfl
  have a6:w5.drew.cell? ⟨xb,6,none⟩=some (.slice none 0 0):=by rw[ai _ xb 6 _ _ _ hbx6];rfl
  have a7:w5.drew.cell? ⟨xb,7,none⟩=some (.slice none 0 0):=by rw[ai _ xb 7 _ _ _ hbx6];rfl
  have h6:=h5.below ((ae w5.heap.size w5).drew);have r2:=h6.rc.choose_spec.cells.2.2.1;have rl:=h6.lt;have hBw5:B<=w5.drew.heap.size:=by have:=HB4.out.size;show B<=w5.heap.size;omega
  have kA:∀ob,(w5.drew.alloc ob).cell? ⟨rb,2,none⟩=some (.slice An ys.length cn):=fun ob=>(((ae w5.drew.heap.size w5.drew).alloc (af _) ob).cell (p:=⟨rb,2,none⟩) rl).trans r2;have kB:∀ob,(w5.alloc ob).cell? ⟨rb,2,none⟩=some (.slice An ys.length cn):=fun ob=>(((ae w5.heap.size w5).alloc (af _) ob).cell (p:=⟨rb,2,none⟩) h5.lt).trans h5.rc.choose_spec.cells.2.2.1;have hBw6:B<=w5.heap.size:=hBw5;have rl6:rb<w5.heap.size:=rl;have H6:=aa h6;have HB5:=aa (hB5.trans ((ae B w5).drew));have HG5:=aa (hG5.trans (du.of_below ((ae w5.heap.size w5).drew)));clear hw5 hbx5 hoth5 hsz5 h5 hB5 hG5 hbx6 h6 p5 pf5 hl4 hxo
  go_region_law (refine eO (P:=Tryz.prog) rfl (.tmp 29) (.tmp 31) 28 rfl B 42 i0 _ 8 _ Tryz.underlying28 hi0 hz0 hz1 hz2 rfl (by omega) (.slice An ys.length cn) ys.length (ys.flatMap gS) rfl (H6.out.rn.alloc _) 1 (.slice (some ⟨w5.drew.heap.size,0,none⟩) 1 1) rfl ([yn].flatMap gS) (.inr ⟨_,1,rfl,HC1.out w5.drew⟩) rfl HO1.out (by unfold maxLen;omega) (by omega) (by simp;omega) ?_;intro v1 wa hown hgrow hat;rw[<-ch]at hown;obtain⟨g1,g2,g3⟩:=H6.out.grown hgrow hat hown (HYN.out ▸ ⟨aQ _ _ _ _,aQ _ _ _ _⟩) hBw5;have hka:=(hgrow.block rb (by simp;omega) (fun e=>dQ H6.out.rn H6.out.rc.choose_spec.box (by decide) e.symm)).trans ((((ae w5.drew.heap.size w5.drew).alloc (af _) _).block rb H6.out.lt).trans H6.out.rc.choose_spec.box);have kc:wa.cell? ⟨rb,2,none⟩=some (.slice An ys.length cn):=(by rw[ai wa rb 2 _ _ _ hka];rfl);have kf:wa.frozen? ⟨rb,2,none⟩=false:=(by unfold World.frozen?;rw[hka];simp);have HG:=aa (bM g1 (bM g2 g3));obtain⟨A1,c1',rfl,_,_⟩:=aP hown;clear hka hown hgrow hat g1 g2 g3)
  all_goals
   have HEND:Hid (eP B rb S (s4.add ⟨4,n,⟨#[]⟩,L,⟨#[]⟩,Z,[],[]⟩) (.slice An ys.length cn) w (wa.setCell ⟨rb,2,none⟩ (.slice A1 (ys.length+1) c1'))):=by
    obtain⟨g1,g2,g3⟩:=HG.out;rw[HYN.out]at g1;exact⟨⟨_,_,g1,HG5.out.trans g2⟩,HB5.out.trans g3⟩
   clear HG kc kf
   go_end0
   exact⟨rfl,HEND.out⟩
 |false =>
  rw[hse]at HC2;have HC3:Hid (∀w' k',eR w' rb S (.slice An ys.length cn) s2 k'->_):=fun w' k' hm=>HBL.out w' k' hm;have hQ:(bG s2).or (decide (fN s2=0))=s3:=by rw[<-HS3.out];unfold gq;rw[am (by rw[hse];simp)]
  obtain⟨bn,hbn⟩ : ∃bn,fN s2=bn:=⟨_,rfl⟩;rw[hbn]at HC3 hQ;have hbl:(bG s2).ns=s2.ns:=rfl;generalize bG s2=sb at *;have HBN:=aa hbl;clear hse hbn hbl;by_cases hz:bn=0
  ·have hzz:((bn:Int)==0)=true:=by rw[hz];rfl
   have hq3:sb.fail=s3:=by rw[<-hQ,hz,ax rfl,Ku]
   have HQ3:=aa hq3;clear hQ hq3 hz
   go_wp2_with fail
   rw[HW2A.out,HXB.out];refine HC2.out.mono ?_;rintro e w3a⟨rfl,hr3a⟩;obtain⟨k3a,hm3a⟩:=hr3a.at';have HR3a:=aa hr3a;have HC4:=aa (HC3.out w3a k3a hm3a);clear hr3a hm3a
   go_wp2_with fail
   refine HC4.out.mono ?_;rintro e w3b⟨rfl,hr3b⟩;obtain⟨k3b,hm3b⟩:=hr3b.at';obtain⟨_,_,_,p3⟩:=hm3b.cells;have pf:=hm3b.frozen 3;have pl:=hm3b.lt;have HR3b:=aa (HR3a.out.trans (hr3b.trans (dA.mark hm3b true)));clear hr3b hm3b
   go_upto_region 4 with fail
   have hr3:dA rb S (.slice An ys.length cn) s3 w2a (w3b.setCell ⟨rb,3,none⟩ (.bool true)):=by
    have:=HR3b.out;rw[show({ sb with bad:=true }:Rf)=s3 from HQ3.out]at this;exact this
   clear HR3b p3 pf pl;generalize w3b.setCell ⟨rb,3,none⟩ (.bool true)=w3 at *;have h3:eF w3 B rb S s3 (.slice An ys.length cn) ys:=H2a.out.rst hr3 HN.out.2.2.1;obtain⟨k3,hm3⟩:=h3.rc;have hbx3:=(hr3.other xb (au HBX.out) HX.out.1).trans HBX.out;have HB3:=aa (HB2a.out.trans (hr3.below HLO.out (ag hBs HB2a.out.size)));have HG3:Hid (du rb (.slice An ys.length cn) (.slice An ys.length cn) w w3):=HG2a.out.trans ⟨fun b hb hbr _=>hr3.other b hb hbr,fun b hb => .inl hb,hr3.size⟩;have H3:=aa h3;have HBX3:=aa hbx3;have HC5:=aa (HUN.out w3 k3 hm3);clear hr3 h3 hm3 hbx3
   go_wp2_with fail
   refine HC5.out.mono ?_;rintro e w4⟨rfl,hr4⟩;have h4:eF w4 B rb S s4 (.slice An ys.length cn) ys:=H3.out.rst hr4 HN.out.2.2.2;have hbx4:=(hr4.other xb (au HBX3.out) HX.out.1).trans HBX3.out;have p5:w4.cell? ⟨xb,5,none⟩=some (.string ⟨#[]⟩):=by rw[ai w4 xb 5 _ _ _ hbx4];rfl
   have pf5:w4.frozen? ⟨xb,5,none⟩=false:=by unfold World.frozen?;rw[hbx4];simp
   have hl4:=au hbx4;have hB4:=HB3.out.trans (hr4.below HLO.out (ag hBs HB3.out.size));have hG4:du rb (.slice An ys.length cn) (.slice An ys.length cn) w w4:=HG3.out.trans ⟨fun b hb hbr _=>hr4.other b hb hbr,fun b hb => .inl hb,hr4.size⟩;have HB4:=aa hB4;have HG4:=aa hG4;have H4:=aa h4;have HBX4:=aa hbx4;clear hr4 h4 hbx4 hB4 hG4
   go_upto_region 5 with fail
   obtain⟨w5,hw5⟩ : ∃w5,w4.setCell ⟨xb,5,none⟩ (.string Z)=w5:=⟨_,rfl⟩;rw[hw5];have hbx5:w5.heap[xb]? = some (.cells #[.int .i64 4,.int .i64 n,.string ⟨#[]⟩,.string L,.string ⟨#[]⟩,.string Z,.slice none 0 0,.slice none 0 0] 42 (0,0)):=by rw[<-hw5,aL HBX4.out];rfl
   have hoth5:∀b,b≠xb->w5.heap[b]? = w4.heap[b]?:=fun b hb=>by rw[<-hw5];exact ao _ _ _ _ hb
   have hsz5:w5.heap.size=w4.heap.size:=by rw[<-hw5];simp[World.setCell]
   have h5:eF w5 B rb S s4 (.slice An ys.length cn) ys:=by
    obtain⟨k4,hm4⟩:=H4.out.rc;have keep:∀{e q m:Nat} {v:Value} {xs:List Value},w4.ownsRow B e q v m xs->v.ownBlock≠some xb->w5.ownsRow B e q v m xs:=fun {e q m v xs} ho hne=>aR ho (fun b hb _=>hoth5 b (fun e0=>hne (e0 ▸ hb)));exact⟨H4.out.lo,⟨k4,hm4.le,hm4.rest,(hoth5 rb (Ne.symm HX.out.1)).trans hm4.box⟩,H4.out.ns,keep H4.out.rn HX.out.2.1,fun y hy=>⟨keep (H4.out.ry y hy).1 (dQ (H4.out.ry y hy).1 HBX4.out (by decide)),keep (H4.out.ry y hy).2 (dQ (H4.out.ry y hy).2 HBX4.out (by decide))⟩⟩
   have hB5:Below B w w5:=by rw[<-hw5];exact HB4.out.setCell (p:=⟨xb,5,none⟩) HX.out.2.2 _
   have hxo:w.heap.size<=xb:=by have:=HB2.out.size;have:=HXB.out;omega
   have hG5:du rb (.slice An ys.length cn) (.slice An ys.length cn) w w5:=⟨fun b hb hbr hbn=>(hoth5 b (by omega)).trans (HG4.out.els b hb hbr hbn),fun b hb => .inl hb,by have:=HG4.out.size;omega⟩
   have hbx6:=((ae w5.heap.size w5).drew.block xb (au hbx5)).trans hbx5;have a0:w5.drew.cell? ⟨xb,0,none⟩=some (.int .i64 4):=by rw[ai _ xb 0 _ _ _ hbx6];rfl
   have a1:w5.drew.cell? ⟨xb,1,none⟩=some (.int .i64 n):=by rw[ai _ xb 1 _ _ _ hbx6];rfl
   have a2:w5.drew.cell? ⟨xb,2,none⟩=some (.string ⟨#[]⟩):=by rw[ai _ xb 2 _ _ _ hbx6];rfl
   have a3:w5.drew.cell? ⟨xb,3,none⟩=some (.string L):=by rw[ai _ xb 3 _ _ _ hbx6];rfl
   have a4:w5.drew.cell? ⟨xb,4,none⟩=some (.string ⟨#[]⟩):=by rw[ai _ xb 4 _ _ _ hbx6];rfl
   have a5:w5.drew.cell? ⟨xb,5,none⟩=some (.string Z):=by rw[ai _ xb 5 _ _ _ hbx6];rfl
   have a6:w5.drew.cell? ⟨xb,6,none⟩=some (.slice none 0 0):=by rw[ai _ xb 6 _ _ _ hbx6];rfl
   have a7:w5.drew.cell? ⟨xb,7,none⟩=some (.slice none 0 0):=by rw[ai _ xb 7 _ _ _ hbx6];rfl
   have h6:=h5.below ((ae w5.heap.size w5).drew);have r2:=h6.rc.choose_spec.cells.2.2.1;have rl:=h6.lt;have hBw5:B<=w5.drew.heap.size:=by have:=HB4.out.size;show B<=w5.heap.size;omega
   have kA:∀ob,(w5.drew.alloc ob).cell? ⟨rb,2,none⟩=some (.slice An ys.length cn):=fun ob=>(((ae w5.drew.heap.size w5.drew).alloc (af _) ob).cell (p:=⟨rb,2,none⟩) rl).trans r2;have kB:∀ob,(w5.alloc ob).cell? ⟨rb,2,none⟩=some (.slice An ys.length cn):=fun ob=>(((ae w5.heap.size w5).alloc (af _) ob).cell (p:=⟨rb,2,none⟩) h5.lt).trans h5.rc.choose_spec.cells.2.2.1;have hBw6:B<=w5.heap.size:=hBw5;have rl6:rb<w5.heap.size:=rl;have H6:=aa h6;have HB5:=aa (hB5.trans ((ae B w5).drew));have HG5:=aa (hG5.trans (du.of_below ((ae w5.heap.size w5).drew)));clear hw5 hbx5 hoth5 hsz5 h5 hB5 hG5 hbx6 h6 p5 pf5 hl4 hxo
   go_region_law (refine eO (P:=Tryz.prog) rfl (.tmp 29) (.tmp 31) 28 rfl B 42 i0 _ 8 _ Tryz.underlying28 hi0 hz0 hz1 hz2 rfl (by omega) (.slice An ys.length cn) ys.length (ys.flatMap gS) rfl (H6.out.rn.alloc _) 1 (.slice (some ⟨w5.drew.heap.size,0,none⟩) 1 1) rfl ([yn].flatMap gS) (.inr ⟨_,1,rfl,HC1.out w5.drew⟩) rfl HO1.out (by unfold maxLen;omega) (by omega) (by simp;omega) ?_;intro v1 wa hown hgrow hat;rw[<-ch]at hown;obtain⟨g1,g2,g3⟩:=H6.out.grown hgrow hat hown (HYN.out ▸ ⟨aQ _ _ _ _,aQ _ _ _ _⟩) hBw5;have hka:=(hgrow.block rb (by simp;omega) (fun e=>dQ H6.out.rn H6.out.rc.choose_spec.box (by decide) e.symm)).trans ((((ae w5.drew.heap.size w5.drew).alloc (af _) _).block rb H6.out.lt).trans H6.out.rc.choose_spec.box);have kc:wa.cell? ⟨rb,2,none⟩=some (.slice An ys.length cn):=(by rw[ai wa rb 2 _ _ _ hka];rfl);have kf:wa.frozen? ⟨rb,2,none⟩=false:=(by unfold World.frozen?;rw[hka];simp);have HG:=aa (bM g1 (bM g2 g3));obtain⟨A1,c1',rfl,_,_⟩:=aP hown;clear hka hown hgrow hat g1 g2 g3)
   all_goals
    have HEND:Hid (eP B rb S (s4.add ⟨4,n,⟨#[]⟩,L,⟨#[]⟩,Z,[],[]⟩) (.slice An ys.length cn) w (wa.setCell ⟨rb,2,none⟩ (.slice A1 (ys.length+1) c1'))):=by
     obtain⟨g1,g2,g3⟩:=HG.out;rw[HYN.out]at g1;exact⟨⟨_,_,g1,HG5.out.trans g2⟩,HB5.out.trans g3⟩
    clear HG kc kf
    go_end0
    exact⟨rfl,HEND.out⟩
  ·have hzz:((bn:Int)==0)=false:=by rw[ak];omega
   have hq3:sb=s3:=by rw[<-hQ,ap hz,cY]
   subst hq3;clear hQ hz
   go_wp2_with fail
   rw[HW2A.out,HXB.out];refine HC2.out.mono ?_;rintro e w3a⟨rfl,hr3a⟩;obtain⟨k3a,hm3a⟩:=hr3a.at';have HR3a:=aa hr3a;have HC4:=aa (HC3.out w3a k3a hm3a);clear hr3a hm3a
   go_wp2_with fail
   refine HC4.out.mono ?_;rintro e w3⟨rfl,hr3b⟩;have hr3:=HR3a.out.trans hr3b;clear hr3b;have h3:eF w3 B rb S sb (.slice An ys.length cn) ys:=H2a.out.rst hr3 HBN.out;obtain⟨k3,hm3⟩:=h3.rc;have hbx3:=(hr3.other xb (au HBX.out) HX.out.1).trans HBX.out;have HB3:=aa (HB2a.out.trans (hr3.below HLO.out (ag hBs HB2a.out.size)));have HG3:Hid (du rb (.slice An ys.length cn) (.slice An ys.length cn) w w3):=HG2a.out.trans ⟨fun b hb hbr _=>hr3.other b hb hbr,fun b hb => .inl hb,hr3.size⟩;have H3:=aa h3;have HBX3:=aa hbx3;have HC5:=aa (HUN.out w3 k3 hm3);clear hr3 h3 hm3 hbx3
   go_wp2_with fail
   refine HC5.out.mono ?_;rintro e w4⟨rfl,hr4⟩;have h4:eF w4 B rb S s4 (.slice An ys.length cn) ys:=H3.out.rst hr4 HN.out.2.2.2;have hbx4:=(hr4.other xb (au HBX3.out) HX.out.1).trans HBX3.out;have p5:w4.cell? ⟨xb,5,none⟩=some (.string ⟨#[]⟩):=by rw[ai w4 xb 5 _ _ _ hbx4];rfl
   have pf5:w4.frozen? ⟨xb,5,none⟩=false:=by unfold World.frozen?;rw[hbx4];simp
   have hl4:=au hbx4;have hB4:=HB3.out.trans (hr4.below HLO.out (ag hBs HB3.out.size));have hG4:du rb (.slice An ys.length cn) (.slice An ys.length cn) w w4:=HG3.out.trans ⟨fun b hb hbr _=>hr4.other b hb hbr,fun b hb => .inl hb,hr4.size⟩;have HB4:=aa hB4;have HG4:=aa hG4;have H4:=aa h4;have HBX4:=aa hbx4;clear hr4 h4 hbx4 hB4 hG4
   go_upto_region 5 with fail
   obtain⟨w5,hw5⟩ : ∃w5,w4.setCell ⟨xb,5,none⟩ (.string Z)=w5:=⟨_,rfl⟩;rw[hw5];have hbx5:w5.heap[xb]? = some (.cells #[.int .i64 4,.int .i64 n,.string ⟨#[]⟩,.string L,.string ⟨#[]⟩,.string Z,.slice none 0 0,.slice none 0 0] 42 (0,0)):=by rw[<-hw5,aL HBX4.out];rfl
   have hoth5:∀b,b≠xb->w5.heap[b]? = w4.heap[b]?:=fun b hb=>by rw[<-hw5];exact ao _ _ _ _ hb
   have hsz5:w5.heap.size=w4.heap.size:=by rw[<-hw5];simp[World.setCell]
   have h5:eF w5 B rb S s4 (.slice An ys.length cn) ys:=by
    obtain⟨k4,hm4⟩:=H4.out.rc;have keep:∀{e q m:Nat} {v:Value} {xs:List Value},w4.ownsRow B e q v m xs->v.ownBlock≠some xb->w5.ownsRow B e q v m xs:=fun {e q m v xs} ho hne=>aR ho (fun b hb _=>hoth5 b (fun e0=>hne (e0 ▸ hb)));exact⟨H4.out.lo,⟨k4,hm4.le,hm4.rest,(hoth5 rb (Ne.symm HX.out.1)).trans hm4.box⟩,H4.out.ns,keep H4.out.rn HX.out.2.1,fun y hy=>⟨keep (H4.out.ry y hy).1 (dQ (H4.out.ry y hy).1 HBX4.out (by decide)),keep (H4.out.ry y hy).2 (dQ (H4.out.ry y hy).2 HBX4.out (by decide))⟩⟩
   have hB5:Below B w w5:=by rw[<-hw5];exact HB4.out.setCell (p:=⟨xb,5,none⟩) HX.out.2.2 _
   have hxo:w.heap.size<=xb:=by have:=HB2.out.size;have:=HXB.out;omega
   have hG5:du rb (.slice An ys.length cn) (.slice An ys.length cn) w w5:=⟨fun b hb hbr hbn=>(hoth5 b (by omega)).trans (HG4.out.els b hb hbr hbn),fun b hb => .inl hb,by have:=HG4.out.size;omega⟩
   have hbx6:=((ae w5.heap.size w5).drew.block xb (au hbx5)).trans hbx5;have a0:w5.drew.cell? ⟨xb,0,none⟩=some (.int .i64 4):=by rw[ai _ xb 0 _ _ _ hbx6];rfl
   have a1:w5.drew.cell? ⟨xb,1,none⟩=some (.int .i64 n):=by rw[ai _ xb 1 _ _ _ hbx6];rfl
   have a2:w5.drew.cell? ⟨xb,2,none⟩=some (.string ⟨#[]⟩):=by rw[ai _ xb 2 _ _ _ hbx6];rfl
   have a3:w5.drew.cell? ⟨xb,3,none⟩=some (.string L):=by rw[ai _ xb 3 _ _ _ hbx6];rfl
   have a4:w5.drew.cell? ⟨xb,4,none⟩=some (.string ⟨#[]⟩):=by rw[ai _ xb 4 _ _ _ hbx6];rfl
   have a5:w5.drew.cell? ⟨xb,5,none⟩=some (.string Z):=by rw[ai _ xb 5 _ _ _ hbx6];rfl
   have a6:w5.drew.cell? ⟨xb,6,none⟩=some (.slice none 0 0):=by rw[ai _ xb 6 _ _ _ hbx6];rfl
   have a7:w5.drew.cell? ⟨xb,7,none⟩=some (.slice none 0 0):=by rw[ai _ xb 7 _ _ _ hbx6];rfl
   have h6:=h5.below ((ae w5.heap.size w5).drew);have r2:=h6.rc.choose_spec.cells.2.2.1;have rl:=h6.lt;have hBw5:B<=w5.drew.heap.size:=by have:=HB4.out.size;show B<=w5.heap.size;omega
   have kA:∀ob,(w5.drew.alloc ob).cell? ⟨rb,2,none⟩=some (.slice An ys.length cn):=fun ob=>(((ae w5.drew.heap.size w5.drew).alloc (af _) ob).cell (p:=⟨rb,2,none⟩) rl).trans r2;have kB:∀ob,(w5.alloc ob).cell? ⟨rb,2,none⟩=some (.slice An ys.length cn):=fun ob=>(((ae w5.heap.size w5).alloc (af _) ob).cell (p:=⟨rb,2,none⟩) h5.lt).trans h5.rc.choose_spec.cells.2.2.1;have hBw6:B<=w5.heap.size:=hBw5;have rl6:rb<w5.heap.size:=rl;have H6:=aa h6;have HB5:=aa (hB5.trans ((ae B w5).drew));have HG5:=aa (hG5.trans (du.of_below ((ae w5.heap.size w5).drew)));clear hw5 hbx5 hoth5 hsz5 h5 hB5 hG5 hbx6 h6 p5 pf5 hl4 hxo
   go_region_law (refine eO (P:=Tryz.prog) rfl (.tmp 29) (.tmp 31) 28 rfl B 42 i0 _ 8 _ Tryz.underlying28 hi0 hz0 hz1 hz2 rfl (by omega) (.slice An ys.length cn) ys.length (ys.flatMap gS) rfl (H6.out.rn.alloc _) 1 (.slice (some ⟨w5.drew.heap.size,0,none⟩) 1 1) rfl ([yn].flatMap gS) (.inr ⟨_,1,rfl,HC1.out w5.drew⟩) rfl HO1.out (by unfold maxLen;omega) (by omega) (by simp;omega) ?_;intro v1 wa hown hgrow hat;rw[<-ch]at hown;obtain⟨g1,g2,g3⟩:=H6.out.grown hgrow hat hown (HYN.out ▸ ⟨aQ _ _ _ _,aQ _ _ _ _⟩) hBw5;have hka:=(hgrow.block rb (by simp;omega) (fun e=>dQ H6.out.rn H6.out.rc.choose_spec.box (by decide) e.symm)).trans ((((ae w5.drew.heap.size w5.drew).alloc (af _) _).block rb H6.out.lt).trans H6.out.rc.choose_spec.box);have kc:wa.cell? ⟨rb,2,none⟩=some (.slice An ys.length cn):=(by rw[ai wa rb 2 _ _ _ hka];rfl);have kf:wa.frozen? ⟨rb,2,none⟩=false:=(by unfold World.frozen?;rw[hka];simp);have HG:=aa (bM g1 (bM g2 g3));obtain⟨A1,c1',rfl,_,_⟩:=aP hown;clear hka hown hgrow hat g1 g2 g3)
   all_goals
    have HEND:Hid (eP B rb S (s4.add ⟨4,n,⟨#[]⟩,L,⟨#[]⟩,Z,[],[]⟩) (.slice An ys.length cn) w (wa.setCell ⟨rb,2,none⟩ (.slice A1 (ys.length+1) c1'))):=by
     obtain⟨g1,g2,g3⟩:=HG.out;rw[HYN.out]at g1;exact⟨⟨_,_,g1,HG5.out.trans g2⟩,HB5.out.trans g3⟩
    clear HG kc kf
    go_end0
    exact⟨rfl,HEND.out⟩
def lk(w:World)(rb:Nat):Nat:=match w.cell? ⟨rb,1,none⟩with
 |some (.int _ k)=>k.toNat
 |_=>0
theorem eB{w:World}{b:Nat}{S:ByteArray}{v:Value}{s:Rf}{k:Nat}(h:eR w b S v s k):lk w b=k:=by
 unfold lk;rw[h.cells.2.1];simp
theorem iG{p:List UInt8}{s:Rf}(h:bX p s=true):(bI p s).rest.length+p.length=s.rest.length:=by
 obtain⟨r,hr⟩:=sx.1 h;rw[dm hr];have:=ib hr
 show r.length+_=_;omega
theorem oK{n:Int}{s:Rf}(h:bX [60,33,45,45] s=true):(fM n s).rest.length+4<=s.rest.length:=by
 have h1:=iG h;have h2:=((fd [45,45,62] (bI [60,33,45,45] s)).trans (f7 _ ⟨3,n,⟨#[]⟩,⟨#[]⟩,⟨#[]⟩,ba (cR [45,45,62] (bI [60,33,45,45] s)).1,[],[]⟩)).len;have e:fM n s=(cR [45,45,62] (bI [60,33,45,45] s)).2.add ⟨3,n,⟨#[]⟩,⟨#[]⟩,⟨#[]⟩,ba (cR [45,45,62] (bI [60,33,45,45] s)).1,[],[]⟩:=rfl;rw[e];simp only[az,bb]at h1;omega
theorem ov{n:Int}{s:Rf}(h:bX [60,63] s=true):(fm n s).rest.length+2<=s.rest.length:=by
 have h1:=iG h;have h2:=((io (bI [60,63] s)).trans ((kO _).trans (fd [63,62] _))).len;have e:(fm n s).rest=(cR [63,62] (gq (dR (bI [60,63] s)))).2.rest:=rfl;rw[e];simp only[az,bb]at h1;omega
theorem yR(s:Rf):(gq s).ns=s.ns:=by unfold gq;split<;>rfl
theorem tQ(n:Int)(s:Rf):(fM n s).ns.length=s.ns.length+1:=by
 show((cR [45,45,62] (bI [60,33,45,45] s)).2.ns++[_]).length=_
 rw[iO,dX,aj,aB]
theorem ou(n:Int)(s:Rf):(fm n s).ns.length=s.ns.length+1:=by
 show((cR [63,62] (gq (dR (bI [60,63] s)))).2.ns++[_]).length=_
 rw[iO,yR,xx,dX,aj,aB]
def Ee(w:World)(B rb:Nat)(S:ByteArray)(vn:Value)(M:Nat)(T:Rf)(v:Value)(wr:World):Prop :=
 ∃(n:Nat) (s:Rf) (vn':Value) (ys:List Ny),s.rest.length<n/\iB n s=T/\eF wr B rb S s vn' ys/\du rb vn vn' w wr/\Below B w wr/\s.ns.length+s.rest.length<=M
theorem du.rst{rb:Nat}{S:ByteArray}{v v':Value}{s:Rf}{w w1 w2:World}(h:du rb v v' w w1)(hr:dA rb S v' s w1 w2):du rb v v' w w2:=h.trans ⟨fun b hb hbr _=>hr.other b hb hbr,fun b hb => .inl hb,hr.size⟩
theorem r8(S:ByteArray)(B rb:Nat)(s:Rf)(vn:Value)(ys:List Ny)(n:Nat)(w:World)(h:eF w B rb S s vn ys)(hS:S.size<=1000000)(hn:s.rest.length<n)(hM:s.ns.length+s.rest.length<=800000) :
 Calls Tryz.prog 34 #[.pointer (some ⟨rb,0,none⟩)] w fun e w'=>e=.returned (.tuple #[])/\eP B rb S (iB n s) vn w w':=by
 have hrl:=h.lt;have hBs:B<=w.heap.size:=ag h.lo (be hrl);have HLO:=aa h.lo;obtain⟨T,hT⟩ : ∃T,iB n s=T:=⟨_,rfl⟩;rw[hT];have HREL:Hid (∀v,Ee w B rb S vn 800000 T v w):=fun v=>⟨n,s,vn,ys,hn,hT,h,du.of_below (ae _ _),ae _ _,hM⟩;clear h hT hn hM;go_enter Tryz.func34,Tryz.ntmps34;go_wp2
 go_loopw [5] (Ee w B rb S vn 800000 T) (fun _ wr=>S.size-lk wr rb)
 case atStart=>exact HREL.out _
 case round =>
  clear HREL;obtain⟨n,s,vn',ys,hn,hT,h,hg,hb,hM⟩:=hrel;obtain⟨k,hk⟩:=h.rc;have c3:=hk.cells.2.2.2;have hlt:=hk.lt;have hpos:S.size-lk wr rb=s.rest.length:=by rw[eB hk,hk.len]
  have HPOS:=aa hpos;have H:=aa h;have HG:=aa hg;have HB:=aa hb;have HK:=aa hk;clear h hg hb hk hpos;cases n with
  |zero=>omega
  |succ n =>
  rw[iB]at hT;cases hbad:s.bad with
  |true =>
   rw[hbad]at c3 hT;rw[av rfl]at hT;have HT:=aa hT;clear hT;go_wp2
   go_end0
   exact⟨rfl,⟨_,_,HT.out ▸ H.out,HG.out⟩,HB.out⟩
  |false =>
   rw[hbad]at c3 hT;rw[am (by simp)]at hT
   have HBL:=aa (eN S rb vn' s k wr HK.out hS);have hns1:(bG s).ns=s.ns:=rfl;have hl1:=(cJ s).len;generalize bG s=s1 at *;have HSC:Hid (∀w' k',eR w' rb S vn' s1 k'->Calls Tryz.prog 57 #[.pointer (some ⟨rb,0,none⟩),.string ⟨#[60,33,45,45]⟩] w' fun e w''=>e=.returned (.bool (bX [60,33,45,45] s1))/\dA rb S vn' s1 w' w''):=fun w' k' hm=>dP S ⟨#[60,33,45,45]⟩ rb vn' s1 k' w' hm hS (by decide)
   have HSI:Hid (∀w' k',eR w' rb S vn' s1 k'->Calls Tryz.prog 57 #[.pointer (some ⟨rb,0,none⟩),.string ⟨#[60,63]⟩] w' fun e w''=>e=.returned (.bool (bX [60,63] s1))/\dA rb S vn' s1 w' w''):=fun w' k' hm=>dP S ⟨#[60,63]⟩ rb vn' s1 k' w' hm hS (by decide)
   have HCO:Hid (∀w',eF w' B rb S s1 vn' ys->_):=fun w' hm=>mF S B rb s1 vn' ys 0 w' hm hS (by rw[hm.len,hns1];omega)
   have HIN:Hid (∀w',eF w' B rb S s1 vn' ys->_):=fun w' hm=>je S B rb s1 vn' ys 0 w' hm hS (by rw[hm.len,hns1];omega)
   have HNS:=aa hns1;have HTT:=aa hT;clear hT hns1
   go_wp2_with fail
   refine HBL.out.mono ?_;rintro e w1⟨rfl,hr1⟩;have h1:=H.out.rst hr1 HNS.out;obtain⟨k1,hm1⟩:=h1.rc;have HC1:=aa (HSC.out w1 k1 hm1);have H1:=aa h1;have HG1:=aa (HG.out.rst hr1);have HB1:=aa (HB.out.trans (hr1.below HLO.out (ag hBs HB.out.size)));clear hr1 h1 hm1;cases hc:bX [60,33,45,45] s1 with
   |true =>
    rw[hc]at HC1
    have HT:Hid (iB n (fM 0 s1)=T):=by
     have:=HTT.out;rw[av hc]at this;exact this
    have hcl:=oK (n:=0) hc;have hcn:=tQ 0 s1;have HCN:=aa hcn;clear HTT hc hcn
    go_wp2_with fail
    refine HC1.out.mono ?_;rintro e w2⟨rfl,hr2⟩;have h2:=H1.out.rst hr2 rfl;have HC2:=aa (HCO.out w2 h2);have HG2:=aa (HG1.out.rst hr2);have HB2:=aa (HB1.out.trans (hr2.below HLO.out (ag hBs HB1.out.size)));clear hr2 h2
    go_wp2_with fail
    refine HC2.out.mono ?_;rintro e w3⟨rfl,⟨vn3,ys3,h3,hg3⟩,hb3⟩;have HG3:=aa (HG2.out.trans hg3);have HB3:=aa (HB2.out.trans hb3);have H3:=aa h3;clear hg3 hb3 h3;go_wp2
    go_roundw
    case rel=>exact⟨n,fM 0 s1,vn3,ys3,by omega,HT.out,H3.out,HG3.out,HB3.out,by rw[HCN.out,HNS.out];omega⟩
    case measure =>
     obtain⟨k3,hm3⟩:=H3.out.rc;rw[HPOS.out,eB hm3,<-hm3.len];omega
   |false =>
    rw[hc]at HC1
    have HTI:Hid ((if bX [60,63] s1=true then iB n (fm 0 s1)else s1)=T):=by
     have:=HTT.out;rw[am (by rw[hc];simp)]at this
     exact this
    clear HTT hc
    go_wp2_with fail
    refine HC1.out.mono ?_;rintro e w2⟨rfl,hr2⟩;have h2:=H1.out.rst hr2 rfl;obtain⟨k2,hm2⟩:=h2.rc;have HC2:=aa (HSI.out w2 k2 hm2);have H2:=aa h2;have HG2:=aa (HG1.out.rst hr2);have HB2:=aa (HB1.out.trans (hr2.below HLO.out (ag hBs HB1.out.size)));clear hr2 h2 hm2;cases hi:bX [60,63] s1 with
    |true =>
     rw[hi]at HC2
     have HT:Hid (iB n (fm 0 s1)=T):=by
      have:=HTI.out;rw[av hi]at this;exact this
     have hcl:=ov (n:=0) hi;have hcn:=ou 0 s1;have HCN:=aa hcn;clear HTI hi hcn
     go_wp2_with fail
     refine HC2.out.mono ?_;rintro e w3⟨rfl,hr3⟩;have h3:=H2.out.rst hr3 rfl;have HC3:=aa (HIN.out w3 h3);have HG3:=aa (HG2.out.rst hr3);have HB3:=aa (HB2.out.trans (hr3.below HLO.out (ag hBs HB2.out.size)));clear hr3 h3
     go_wp2_with fail
     refine HC3.out.mono ?_;rintro e w4⟨rfl,⟨vn4,ys4,h4,hg4⟩,hb4⟩;have HG4:=aa (HG3.out.trans hg4);have HB4:=aa (HB3.out.trans hb4);have H4:=aa h4;clear hg4 hb4 h4;go_wp2
     go_roundw
     case rel=>exact⟨n,fm 0 s1,vn4,ys4,by omega,HT.out,H4.out,HG4.out,HB4.out,by rw[HCN.out,HNS.out];omega⟩
     case measure =>
      obtain⟨k4,hm4⟩:=H4.out.rc;rw[HPOS.out,eB hm4,<-hm4.len];omega
    |false =>
     rw[hi]at HC2
     have HT:Hid (s1=T):=by
      have:=HTI.out;rw[am (by rw[hi];simp)]at this
      exact this
     clear HTI hi
     go_wp2_with fail
     refine HC2.out.mono ?_;rintro e w3⟨rfl,hr3⟩;have h3:=H2.out.rst hr3 rfl;have H3:=aa h3;have HG3:=aa (HG2.out.rst hr3);have HB3:=aa (HB2.out.trans (hr3.below HLO.out (ag hBs HB2.out.size)));clear hr3 h3;go_wp2;refine bodyPost_ret (results_none rfl _ _ _) rfl ?_;exact⟨rfl,⟨_,_,HT.out ▸ H3.out,HG3.out⟩,HB3.out⟩
end Go.Proofs.YteinegfbpfhflaaGreatDoor
