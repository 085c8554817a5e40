/-
  parse.reader: begin. Conditions: the reader lies as it is; something is open; nothing is too long.
  parse.reader: end. Conditions: the reader lies as it is; an element is open; nothing is too long.
  parse.reader: startTag. Conditions: the reader lies as it is; nothing is too long; upTo answers what it is to answer.
-/
import Derived.Test.YteinegfbpfhflaaGreatDoorM23
import Derived.StillTailTactics
import Derived.Test.YteinegfbpfhflaaGreatDoorM30
namespace Go.Proofs.YteinegfbpfhflaaGreatDoor
open Go.RowKit
set_option linter.unusedVariables false
set_option maxRecDepth 100000
set_option maxHeartbeats 32000000
def xC(x:Nd)(u:ByteArray)(vD vA:Value):Array Value:=#[.int .i64 x.k,.int .i64 x.n,.string x.p,.string x.l,.string u,.string x.t,vD,vA]
def wE(w0:World)(B rb xb:Nat)(st:Rd)(vn vo vd vt:Value)(ys:List Ny)(x:Nd)(U:ByteArray)(vD vA:Value)(i:Value)(wr:World):Prop :=
 ∃k:Nat,k<=x.ats.length/\i=.int .i64 k/\eH wr B rb st vn vo vd vt ys/\wr.heap[xb]? = some (.cells (xC x U vD vA) 42 (0,0))/\gR wr B ys vd vD vA x.ds ((x.ats.take k).map (iU st.ds)++x.ats.drop k)/\Below B w0 wr/\w0.heap.size<=wr.heap.size
theorem pB(w:World)(B rb:Nat)(st:Rd)(vn vo vd vt:Value)(ys:List Ny)(fr:List Po)(o:Po)(x:Nd)(vD vA:Value)(full:List UInt8)(ho:st.op=fr++[o])(hf:iV st)(hxd:x.ds.length<=100000)(hxa:x.ats.length<=100000)(h:eH w B rb st vn vo vd vt ys)(hx:gR w B ys vd vD vA x.ds x.ats) :
 Calls Tryz.prog 133 #[.pointer (some ⟨rb,0,none⟩),.agg #[.int .i64 x.k,.int .i64 x.n,.string x.p,.string x.l,.string x.u,.string x.t,vD,vA],.string (ba full)] w fun e w'=>e=.returned (.tuple #[])/\dS w' B rb (jp st o x full)/\Below B w w':=by
 have H:=aa h;have HX:=aa hx;have HF:=aa hf;have hfr:fr.length<=1000000:=by have:=hf.op;rw[ho,aj]at this;simp at this;omega
 have hdl:=hf.ds;obtain⟨Ad,cd,rfl,_,_⟩:=aP hx.rD;obtain⟨Aa,ca,rfl,hca1,hca2⟩:=aP hx.rA;obtain⟨An,cn,rfl,_,_⟩:=aP h.rd;have hrl:=au h.box;have hBs:B<=w.heap.size:=ag h.lo (be hrl);obtain⟨xb,hxb⟩ : ∃xb,w.heap.size=xb:=⟨_,rfl⟩;obtain⟨w1,hw1⟩ : ∃w1,w.alloc (Obj.cells #[.int .i64 x.k,.int .i64 x.n,.string x.p,.string x.l,.string x.u,.string x.t,.slice Ad x.ds.length cd,.slice Aa x.ats.length ca] 42)=w1:=⟨_,rfl⟩;have hb1:Below w.heap.size w w1:=by rw[<-hw1];exact(ae _ _).alloc (af _) _
 have hbx1:w1.heap[xb]? = some (.cells #[.int .i64 x.k,.int .i64 x.n,.string x.p,.string x.l,.string x.u,.string x.t,.slice Ad x.ds.length cd,.slice Aa x.ats.length ca] 42 (0,0)):=by rw[<-hw1,<-hxb];exact ar w _
 have h1:=h.below hb1;have hx1:gR w1 B ys (.slice An st.ds.length cn) (.slice Ad x.ds.length cd) (.slice Aa x.ats.length ca) x.ds x.ats:=⟨dh hx.rD hb1,dh hx.rA hb1,hx.dd,hx.yd,hx.ya⟩;have hnb:vn.ownBlock≠some xb:=fun e=>by have:=(h.rn.lt xb e).2;omega
 have hrx:xb≠rb:=by omega
 obtain⟨_,_,_,c3,_⟩:=h1.cell;have hfz:=h1.frozen;have p6:w1.cell? ⟨xb,6,none⟩=some (.slice Ad x.ds.length cd):=by rw[ai w1 xb 6 _ _ _ hbx1];rfl
 have H1:=aa h1;have HX1:=aa hx1;have HNB:=aa hnb;have HB1:=aa hb1;have HBX1:=aa hbx1;have HW1:=aa hw1;have HXB:=aa hxb;have HO:=aa ho;clear hb1 hbx1 hw1 hxb h hx hnb h1 hx1 hf ho;go_enter Tryz.func133,Tryz.ntmps133
 go_upto_region 1 with fail
 rw[HW1.out,HXB.out]
 go_upto_region 2 with fail
 go_cut [] (fun wx => ∃vd',eH wx B rb { st with ds:=st.ds++x.ds } vn vo vd' vt ys/\wx.heap[xb]? = some (.cells #[.int .i64 x.k,.int .i64 x.n,.string x.p,.string x.l,.string x.u,.string x.t,.slice Ad x.ds.length cd,.slice Aa x.ats.length ca] 42 (0,0))/\gR wx B ys vd' (.slice Ad x.ds.length cd) (.slice Aa x.ats.length ca) x.ds x.ats/\Below B w1 wx)
 case first =>
  obtain⟨i0,hi0,hz0,hz1,hz2⟩:=info_parts gP;have HRD:=aa H1.out.rd;have hBs1:B<=w1.heap.size:=ag hBs HB1.out.size;have HSL:Hid (em w1.drew w1.heap.size (.slice Ad x.ds.length cd) x.ds.length (x.ds.flatMap jP)):=i5 HX1.out.rD
  go_region_law? (refine eO (P:=Tryz.prog) rfl (.tmp 19) (.tmp 21) 39 rfl B 48 i0 _ 2 _ Tryz.underlying39 hi0 hz0 hz1 hz2 rfl (by omega) (.slice An st.ds.length cn) st.ds.length (st.ds.flatMap jP) rfl HRD.out.drew x.ds.length (.slice Ad x.ds.length cd) rfl (x.ds.flatMap jP) (zL (k:=2) HSL.out (by decide) (dF (f:=jP) (c:=2) (fun _=>rfl) _)) (dF (f:=jP) (c:=2) (fun _=>rfl) _) (FC _) (by unfold maxLen;omega) (by omega) hBs1 ?_;intro v1 wa hown1 hgrow1 hat1;have hka:=(hgrow1.block rb (au H1.out.box) (fun e=>lw HRD.out H1.out.box (by decide) e.symm)).trans H1.out.box;have kc:wa.cell? ⟨rb,3,none⟩=some (.slice An st.ds.length cn):=(by rw[ai wa rb 3 _ _ _ hka];rfl);have kf:wa.frozen? ⟨rb,3,none⟩=false:=(by unfold World.frozen?;rw[hka];simp);have HOW1:=aa hown1;have HGR1:=aa hgrow1;have HAT1:=aa hat1;obtain⟨A1,c1',rfl,_,_⟩:=aP hown1;clear hka hown1 hgrow1 hat1)
  all_goals
   have HEND:Hid (eH (wa.setCell ⟨rb,3,none⟩ (.slice A1 (st.ds.length+x.ds.length) c1')) B rb { st with ds:=st.ds++x.ds } vn vo (.slice A1 (st.ds.length+x.ds.length) c1') vt ys/\(wa.setCell ⟨rb,3,none⟩ (.slice A1 (st.ds.length+x.ds.length) c1')).heap[xb]? = some (.cells #[.int .i64 x.k,.int .i64 x.n,.string x.p,.string x.l,.string x.u,.string x.t,.slice Ad x.ds.length cd,.slice Aa x.ats.length ca] 42 (0,0))/\gR (wa.setCell ⟨rb,3,none⟩ (.slice A1 (st.ds.length+x.ds.length) c1')) B ys (.slice A1 (st.ds.length+x.ds.length) c1') (.slice Ad x.ds.length cd) (.slice Aa x.ats.length ca) x.ds x.ats/\Below B w1 (wa.setCell ⟨rb,3,none⟩ (.slice A1 (st.ds.length+x.ds.length) c1'))):=by
    have hoth:∀b,b<w1.heap.size->(Value.slice An st.ds.length cn).ownBlock≠some b->wa.heap[b]? = w1.heap[b]?:=fun b hb hne=>HGR1.out.block b hb (fun e=>hne e.symm)
    have hown:wa.ownsRow B 48 2 (.slice A1 (st.ds.length+x.ds.length) c1') (st.ds++x.ds).length ((st.ds++x.ds).flatMap jP):=by
     rw[aj,ch];exact HOW1.out
    have hka:=(hoth rb (au H1.out.box) (lw HRD.out H1.out.box (by decide))).trans H1.out.box
    have hx:=HX1.out;refine⟨H1.out.declared hoth hown (fun y hy=>vw (H1.out.ry y hy).1 HAT1.out (H1.out.di y hy)),?_,⟨ev hka (by decide) (cO hoth HRD.out (.inr hx.dd) hx.rD),ev hka (by decide) (cO hoth HRD.out (.inl (by decide)) hx.rA),vw hx.rD HAT1.out hx.dd,hx.yd,hx.ya⟩,?_⟩
    ·rw[ao _ _ _ _ (show xb≠rb from hrx),hoth xb (au HBX1.out) (jD HRD.out HBX1.out (by decide))]
     exact HBX1.out
    ·exact((ae B w1).drew.grown HGR1.out hBs1 (fun k hk=>(HRD.out.lt k hk).1)).setCell (p:=⟨rb,3,none⟩) H1.out.lo _
   clear kc kf HOW1 HGR1 HAT1
   go_wp2_with fail
   go_meet
   exact⟨_,HEND.out⟩
 case rest =>
  obtain⟨vd',hr,hbx,hxo,hbw⟩:=hcut;have HR2:=aa hr;have HX2:=aa hxo;have HBW2:=aa hbw;have hwsz:w.heap.size<wc.heap.size:=by rw[HXB.out];exact au hbx
  have HM2:=aa (pA wc B rb { st with ds:=st.ds++x.ds } x.p ⟨_,_,_,_,_,hr⟩ (by show(st.ds++x.ds).length<=_;rw[aj];have:=HF.out.ds;omega))
  have p2:wc.cell? ⟨xb,2,none⟩=some (.string x.p):=by rw[ai wc xb 2 _ _ _ hbx];rfl
  have p4:wc.cell? ⟨xb,4,none⟩=some (.string x.u):=by rw[ai wc xb 4 _ _ _ hbx];rfl
  have pf:∀j,wc.frozen? ⟨xb,j,none⟩=false:=fun j=>by unfold World.frozen?;rw[hbx];simp
  have HBX2:=aa hbx;clear hr hbx hxo hbw p6 hfz c3;obtain⟨U,hU⟩ : ∃U,f8 (st.ds++x.ds) x.p=U:=⟨_,rfl⟩;have HU:=aa hU;rw[show f8 ({ st with ds:=st.ds++x.ds }:Rd).ds x.p=U from hU]at HM2;clear hU
  go_upto_region 3 with fail
  go_wp2_with fail
  refine HM2.out.mono ?_;rintro e w3⟨rfl,hw⟩;rw[hw];clear hw
  go_upto_region 4 with fail
  obtain⟨w4,hw4⟩ : ∃w4,wc.setCell ⟨xb,4,none⟩ (.string U)=w4:=⟨_,rfl⟩
  have HREL:Hid (wE w B rb xb { st with ds:=st.ds++x.ds } vn vo vd' vt ys x U (.slice Ad x.ds.length cd) (.slice Aa x.ats.length ca) (.int .i64 0) w4):=by
   rw[<-hw4];have hst:∀{e s n:Nat} {v:Value} {xs:List Value},e≠42->wc.ownsRow B e s v n xs->(wc.setCell ⟨xb,4,none⟩ (.string U)).ownsRow B e s v n xs:=fun {e s n v xs} he hh=>aR hh (fun b _ ⟨cs,hc⟩=>ao _ _ _ _ (br hc HBX2.out he));refine⟨0,aM _,rfl,HR2.out.setNode HBX2.out HNB.out,by rw[aL HBX2.out];rfl,⟨?_,?_,HX2.out.dd,HX2.out.yd,HX2.out.ya⟩,(((HB1.out.mono hBs).trans HBW2.out)).setCell (p:=⟨xb,4,none⟩) (by have:=HXB.out;show B<=xb;omega) _,by have:=hwsz;simp[World.setCell];omega⟩
   ·exact hst (by decide) HX2.out.rD
   ·simpa using hst (by decide) HX2.out.rA
  have q7:w4.cell? ⟨xb,7,none⟩=some (.slice Aa x.ats.length ca):=by
   obtain⟨k0,_,_,_,hb4,_⟩:=HREL.out;rw[ai w4 xb 7 _ _ _ hb4];rfl
  rw[hw4];clear hw4 p2 p4 pf HR2 HX2 HBW2 HBX2 hwsz
  go_wp2_with fail
  go_loopw [33] (wE w B rb xb { st with ds:=st.ds++x.ds } vn vo vd' vt ys x U (.slice Ad x.ds.length cd) (.slice Aa x.ats.length ca)) (fun i _=>x.ats.length-(intOf i).toNat)
  case atStart=>exact HREL.out
  case round =>
   obtain⟨k,hk,rfl,hr,hbx,hxo,hb,hsz⟩:=hrel;have HR:=aa hr;have HBX:=aa hbx;have HXO:=aa hxo;have HB:=aa hb;clear hr hbx hxo hb;by_cases hlt:k<x.ats.length
   ·have hkz:(k:Int)<(x.ats.length:Int):=by omega
    obtain⟨L,hL⟩ : ∃L,(x.ats.take k).map (iU (st.ds++x.ds))++x.ats.drop k=L:=⟨_,rfl⟩;have hxo':=HXO.out;rw[show(x.ats.take k).map (iU ({ st with ds:=st.ds++x.ds }:Rd).ds)++x.ats.drop k=L from hL]at hxo';have hLl:L.length=x.ats.length:=by rw[<-hL,aj,bN,aY,bq];omega
    have hLk:L[k]'(by omega)=x.ats[k]:=by
     simp only[<-hL];rw[List.getElem_append_right (by rw[bN,aY];omega)]
     simp only[bN,aY,List.getElem_drop]
     congr 1
     omega
    have hnext:L.set k (iU (st.ds++x.ds) x.ats[k])=(x.ats.take (k+1)).map (iU (st.ds++x.ds))++x.ats.drop (k+1):=by
     rw[<-hL,List.set_append_right _ _ (by rw[bN,aY];omega)]
     rw[bN,aY,show k-min k x.ats.length=0 by omega]
     rw[bv hlt,List.set_cons_zero,aN hlt,List.map_append];simp
    have hrA:=hxo'.rA;rw[hLl]at hrA
    obtain⟨ga,hgaE⟩ : ∃ga,Aa=some ⟨ga,0,none⟩:=by
     obtain⟨_,⟨h2,h3⟩|⟨g,cap,cur,e,_⟩⟩:=hrA
     ·omega
     ·simp only[aK]at e
      exact⟨g,e.1⟩
    subst hgaE
    have hcell:∀j (hj:j<4),wr.cell? ⟨ga,k*4+j,none⟩=some ((jt x.ats[k])[j]'hj):=fun j hj=>by
     obtain⟨_,⟨h2,_⟩|⟨g,cap,cur,e,hg,hh,hn2,hc2,hs2,ht⟩⟩:=hrA
     ·cases h2
     ·simp only[aK,al,Addr.mk.injEq,and_true,true_and]at e
      obtain⟨rfl,rfl⟩:=e;rw[ai wr ga _ cur _ _ hh,<-bi];have e2:cur.toList[k*4+j]? = (L.flatMap jt)[k*4+j]?:=by rw[<-ht,List.getElem?_take_of_lt (by omega)]
      rw[e2,ei (f:=jt) (c:=4) (fun _=>rfl) L k j (by omega) hj,hLk]
      exact aw hj
    obtain⟨hgaB,hgab⟩ : B<=ga/\∃cs,wr.heap[ga]? = some (.cells cs 73 (0,0)):=by
     obtain⟨_,⟨h2,_⟩|⟨g,cap,cur,e,hg,hh,_⟩⟩:=hrA
     ·cases h2
     ·simp only[aK,al,Addr.mk.injEq,and_true,true_and]at e
      obtain⟨rfl,rfl⟩:=e;exact⟨hg,cur,hh⟩
    have a0:=hcell 0 (by omega)
    have a1:=hcell 1 (by omega)
    have a2:=hcell 2 (by omega)
    have a3:=hcell 3 (by omega)
    rw[Nat.add_zero]at a0;have HRA:=aa hrA;have HXO':=aa hxo';have HLK:=aa hLk;have HLL:=aa hLl;have HNEXT:=aa hnext;have HGAB:=aa hgab
    have HSTEP:Hid (∀w5,Below wr.heap.size wr w5->∀V,iU (st.ds++x.ds) x.ats[k]={ x.ats[k]with u:=V }->wE w B rb xb { st with ds:=st.ds++x.ds } vn vo vd' vt ys x U (.slice Ad x.ds.length cd) (.slice (some ⟨ga,0,none⟩) x.ats.length ca) (.int .i64 ((k+1:Nat):Int)) (w5.setCell ⟨ga,k*4+2,none⟩ (.string V))):=fun w5 hb5 V hV=>by
     obtain⟨cs5,hcs⟩:=HGAB.out;have hga5:=(hb5.block ga (au hcs)).trans hcs;have hset:=wt (by rw[HLL.out];exact dh HRA.out hb5) (k:=k) (by rw[HLL.out];exact hlt) V
     rw[HLK.out,<-hV,HNEXT.out,HLL.out]at hset;have hl':((x.ats.take (k+1)).map (iU (st.ds++x.ds))++x.ats.drop (k+1)).length=x.ats.length:=by rw[aj,bN,aY,bq];omega
     have hset2:(w5.setCell ⟨ga,k*4+2,none⟩ (.string V)).ownsRow B 73 4 (.slice (some ⟨ga,0,none⟩) x.ats.length ca) ((x.ats.take (k+1)).map (iU (st.ds++x.ds))++x.ats.drop (k+1)).length (((x.ats.take (k+1)).map (iU (st.ds++x.ds))++x.ats.drop (k+1)).flatMap jt):=by rw[hl'];exact hset
     refine⟨k+1,hlt,rfl,(HR.out.below hb5).setAttr hga5 (fun y hy e => ?_),(ao _ _ _ _ (br HBX.out hcs (by decide))).trans ((hb5.block xb (au HBX.out)).trans HBX.out),⟨aR (dh HXO'.out.rD hb5) (fun b _ ⟨cs,hc⟩=>ao _ _ _ _ (br hc hga5 (by decide))),hset2,HXO'.out.dd,HXO'.out.yd,HXO'.out.ya⟩,((HB.out.trans (hb5.mono (ag hBs hsz)))).setCell (p:=⟨ga,k*4+2,none⟩) hgaB _,by have:=hb5.size;simp[World.setCell];omega⟩
     rcases HXO'.out.ya y hy with h0|h0
     ·rw[e]at h0;cases h0
     ·exact h0 (by rw[e];rfl)
    have HSAME:Hid (∀w5,Below wr.heap.size wr w5->iU (st.ds++x.ds) x.ats[k]=x.ats[k]->wE w B rb xb { st with ds:=st.ds++x.ds } vn vo vd' vt ys x U (.slice Ad x.ds.length cd) (.slice (some ⟨ga,0,none⟩) x.ats.length ca) (.int .i64 ((k+1:Nat):Int)) w5):=fun w5 hb5 hV=>by
     have hL2:L=(x.ats.take (k+1)).map (iU (st.ds++x.ds))++x.ats.drop (k+1):=by
      rw[<-HNEXT.out,hV,<-HLK.out,List.set_getElem_self]
     refine⟨k+1,hlt,rfl,HR.out.below hb5,(hb5.block xb (au HBX.out)).trans HBX.out,⟨dh HXO'.out.rD hb5,?_,HXO'.out.dd,HXO'.out.yd,HXO'.out.ya⟩,HB.out.trans (hb5.mono (ag hBs hsz)),ag hsz hb5.size⟩;have:=dh HXO'.out.rA hb5;rw[hL2]at this;exact this
    have HMT:Hid (∀w5,Below wr.heap.size wr w5->Calls Tryz.prog 171 #[.pointer (some ⟨rb,0,none⟩),.string x.ats[k].p] w5 fun e w'=>e=.returned (.string (f8 (st.ds++x.ds) x.ats[k].p))/\w'=w5):=fun w5 hb5=>pA w5 B rb { st with ds:=st.ds++x.ds } x.ats[k].p ⟨_,_,_,_,_,HR.out.below hb5⟩ (by show(st.ds++x.ds).length<=_;rw[aj];have:=HF.out.ds;omega)
    have q7:wr.cell? ⟨xb,7,none⟩=some (.slice (some ⟨ga,0,none⟩) x.ats.length ca):=by rw[ai wr xb 7 _ _ _ HBX.out];rfl
    have hxl:xb<wr.heap.size:=au HBX.out;have gl:ga<wr.heap.size:=by obtain⟨cs5,hcs⟩:=HGAB.out;exact au hcs
    have gfz:∀j,wr.frozen? ⟨ga,j,none⟩=false:=fun j=>by obtain⟨cs5,hcs⟩:=HGAB.out;unfold World.frozen?;rw[hcs];simp
    clear hcell hL hLk hnext hrA hgab hxo' HREL;generalize hxk:x.ats[k]=a at *;obtain⟨P,Lo,Ur,Va⟩:=a;dsimp only[jt,List.getElem_cons_zero,List.getElem_cons_succ]at a0 a1 a2 a3;have HXK:=aa hxk;clear hxk;have hatm:iU (st.ds++x.ds) ⟨P,Lo,Ur,Va⟩=if P.data.toList=[]then⟨P,Lo,Ur,Va⟩else⟨P,Lo,f8 (st.ds++x.ds) P,Va⟩:=rfl;have HATM:=aa hatm;clear hatm;by_cases hP:P.data.toList=[]
    ·have HFIN:Hid (∀w5,Below wr.heap.size wr w5->_):=fun w5 hb5=>HSAME.out w5 hb5 (by rw[HATM.out,av hP])
     have te:P.toList.isEmpty=true:=by rw[aq,hP];rfl
     clear hP HSTEP HSAME;go_wp2
     go_roundw
     case rel=>exact(show Value.int .i64 ((k+1:Nat):Int)=_ by go_num) ▸ HFIN.out _ ((ae _ _).alloc (af _) _)
     case measure=>simp[intOf];omega
    ·have te:P.toList.isEmpty=false:=by
      rw[aq];cases hq:P.data.toList with
      |nil=>exact absurd hq hP
      |cons c t=>rfl
     obtain⟨V,hV⟩ : ∃V,f8 (st.ds++x.ds) P=V:=⟨_,rfl⟩;have HFIN:Hid (∀w5,Below wr.heap.size wr w5->_):=fun w5 hb5=>HSTEP.out w5 hb5 V (by rw[HATM.out,am hP,hV])
     have HMV:Hid (∀w5,Below wr.heap.size wr w5->Calls Tryz.prog 171 #[.pointer (some ⟨rb,0,none⟩),.string P] w5 fun e w'=>e=.returned (.string V)/\w'=w5):=fun w5 hb5=>by rw[<-hV];exact HMT.out w5 hb5
     clear hP HSTEP HSAME hV HMT
     go_upto_region 8 with fail
     obtain⟨w5,hw5⟩ : ∃w5,wr.alloc (Obj.cells #[.string P,.string Lo,.string Ur,.string Va] 73)=w5:=⟨_,rfl⟩;have hb5:Below wr.heap.size wr w5:=by rw[<-hw5];exact(ae _ _).alloc (af _) _
     have hab:w5.heap[wr.heap.size]? = some (.cells #[.string P,.string Lo,.string Ur,.string Va] 73 (0,0)):=by rw[<-hw5];exact ar wr _
     have b0:w5.cell? ⟨wr.heap.size,0,none⟩=some (.string P):=by rw[ai w5 _ 0 _ _ _ hab];rfl
     have b7:w5.cell? ⟨xb,7,none⟩=some (.slice (some ⟨ga,0,none⟩) x.ats.length ca):=(hb5.cell (p:=⟨xb,7,none⟩) hxl).trans q7;have b2:w5.cell? ⟨ga,k*4+2,none⟩=some (.string Ur):=(hb5.cell (p:=⟨ga,k*4+2,none⟩) gl).trans a2;have bf:w5.frozen? ⟨ga,k*4+2,none⟩=false:=(hb5.frozen (p:=⟨ga,k*4+2,none⟩) gl).trans (gfz _);have HFN:Hid (wE w B rb xb { st with ds:=st.ds++x.ds } vn vo vd' vt ys x U (.slice Ad x.ds.length cd) (.slice (some ⟨ga,0,none⟩) x.ats.length ca) (.int .i64 ((k+1:Nat):Int)) (w5.drew.setCell ⟨ga,k*4+2,none⟩ (.string V))):=HFIN.out w5.drew hb5.drew;have HMW:=aa (HMV.out w5.drew hb5.drew);rw[hw5];clear hw5 hab q7 a0 a1 a2 a3 gfz HMV HFIN hb5;obtain⟨ab,hab⟩ : ∃ab,wr.heap.size=ab:=⟨_,rfl⟩;rw[hab]at b0 ⊢;clear hab hxl gl hsz;refine wp_region_still_tail 9 (by kernel_rfl) (by kernel_rfl) ?_
     simp only[List.take_succ_cons,List.take_zero,List.drop_succ_cons,List.drop_zero]
     repeat still_step
     still_call (HMW.out)
     repeat still_step
     try refine wpStill_nil ?_
     change wpList _ _ _ _ _ w5.drew;go_wp2
     go_roundw
     case rel=>exact(show Value.int .i64 ((k+1:Nat):Int)=_ by go_num) ▸ HFN.out
     case measure=>simp[intOf];omega
   ·have hkn:k=x.ats.length:=by omega
    subst hkn;have hkz:¬(x.ats.length:Int)<(x.ats.length:Int):=by omega
    have hxo:=HXO.out;rw[cL,List.drop_length,bo]at hxo;have hnx:(Ef (st.ds++x.ds) x)={ x with u:=U,ats:=x.ats.map (iU (st.ds++x.ds)) }:=by unfold Ef;rw[HU.out]
    have hrA:=hxo.rA;rw[bN]at hrA;have e0:=ai wr xb 0 _ _ _ HBX.out;have e1:=ai wr xb 1 _ _ _ HBX.out;have e2:=ai wr xb 2 _ _ _ HBX.out;have e3:=ai wr xb 3 _ _ _ HBX.out;have e4:=ai wr xb 4 _ _ _ HBX.out;have e5:=ai wr xb 5 _ _ _ HBX.out;have e6:=ai wr xb 6 _ _ _ HBX.out;have e7:=ai wr xb 7 _ _ _ HBX.out;simp only[xC,List.getElem?_toArray,cw,bH]at e0 e1 e2 e3 e4 e5 e6 e7;have HADD:=aa (oT wr B rb { st with ds:=st.ds++x.ds } vn vo vd' vt ys fr o { x with u:=U,ats:=x.ats.map (iU (st.ds++x.ds)) } (.slice Ad x.ds.length cd) (.slice Aa x.ats.length ca) HO.out hfr HF.out.ns HF.out.tx HR.out ⟨hxo.rD,hxo.rA⟩ hxo.dd)
    have HBEG:Hid (∀(w6:World) (vn':Value) (ys':List Ny) (v1:Value) (wa:World),eH w6 B rb (iw { st with ds:=st.ds++x.ds } o { x with u:=U,ats:=x.ats.map (iU (st.ds++x.ds)) }) vn' vo vd' (.slice none 0 0) ys'->(∀b,b<w6.heap.size->vo.ownBlock≠some b->wa.heap[b]? = w6.heap[b]?)->wa.ownsRow B 87 3 v1 (st.op++[(⟨(ed { st with ds:=st.ds++x.ds } o).ns.length,full,st.ds.length⟩ : Po)]).length ((st.op++[(⟨(ed { st with ds:=st.ds++x.ds } o).ns.length,full,st.ds.length⟩ : Po)]).flatMap wK)->dS (wa.setCell ⟨rb,2,none⟩ v1) B rb (jp st o x full)):=fun w6 vn' ys' v1 wa h6 hoth hown=>by
     have:=h6.opened hoth hown;refine⟨vn',v1,vd',.slice none 0 0,ys',?_⟩;unfold jp;rw[hnx];exact this
    have hBr:B<=wr.heap.size:=ag hBs hsz;clear hxo hnx hrA HREL
    go_wp2_with fail
    refine HADD.out.mono ?_;rintro e w6⟨rfl,⟨vn',ys',hr6,hg6⟩,hb6⟩;obtain⟨_,_,k2,_,_⟩:=hr6.cell;obtain⟨Ao,co,rfl,_,_⟩:=aP hr6.ro;have HR6:=aa hr6;have HB6:=aa (HB.out.trans hb6);have hB6:B<=w6.heap.size:=ag hBr hb6.size;clear hr6 hg6 hb6 e0 e1 e2 e3 e4 e5 e6 e7;have hopl:st.op.length<=1000000:=by have:=HF.out.op;omega
    have HRO:Hid (w6.ownsRow B 87 3 (.slice Ao st.op.length co) st.op.length (st.op.flatMap wK)):=HR6.out.ro
    go_wp2_with (first
     |(at_builtin;refine Hf rfl (.tmp 58) (.tmp 63) rfl B (.slice Ao st.op.length co) st.op rfl (HRO.out.alloc _) w6.heap.size ⟨(ed { st with ds:=st.ds++x.ds } o).ns.length,full,st.ds.length⟩ rfl (ar w6 _) hopl (by simp;omega) ?_;intro v1 wa hown hgrow;have hka:=(hgrow.block rb (by have:=au HR6.out.box;simp;omega) (fun e=>lw HR6.out.ro HR6.out.box (by decide) e.symm)).trans ((((ae w6.heap.size w6).alloc (af _) _).block rb (au HR6.out.box)).trans HR6.out.box);have kc:wa.cell? ⟨rb,2,none⟩=some (.slice Ao st.op.length co):=(by rw[ai wa rb 2 _ _ _ hka];rfl);have kf:wa.frozen? ⟨rb,2,none⟩=false:=(by unfold World.frozen?;rw[hka];simp);have HOW:=aa hown;have HGR:=aa hgrow;obtain⟨A1,c1',rfl,_,_⟩:=aP hown;clear hka hown hgrow)
     |fail)
    go_end0
    refine⟨rfl,HBEG.out w6 _ _ (.slice A1 (st.op.length+1) c1') wa HR6.out (fun b hb hne => ?_) ?_,?_⟩
    ·rw[HGR.out.block b (by simp;omega) (fun e=>hne e.symm)]
     exact((ae w6.heap.size w6).alloc (af _) _).block b hb
    ·have:=HOW.out
     simp only[aj,aB]at this ⊢;exact this
    ·exact((HB6.out.alloc hB6 _).grown HGR.out (by simp;omega) (fun q hq=>(HRO.out.lt q hq).1)).setCell (p:=⟨rb,2,none⟩) HR6.out.lo _
def qi(st:Rd)(fr:List Po)(o:Po):Rd:={ ed st o with ds:=st.ds.take o.outer,op:=fr }
theorem uP{w:World}{B e s n m cap:Nat}{A:Option Addr}{xs:List Value}(h:w.ownsRow B e s (.slice A n cap) n xs)(hm:m<=n):w.ownsRow B e s (.slice A m cap) m (xs.take (m*s)):=by
 obtain⟨h1,⟨h2,h3⟩|⟨g,cap',cur,h2,hg,hh,hn,hc,hs,ht⟩⟩:=h
 ·have hm0:m=0:=by omega
  subst hm0;simp only[aK]at h2;obtain⟨rfl,_,rfl⟩:=h2;refine⟨by simp,.inl ⟨rfl,rfl⟩⟩
 ·simp only[aK]at h2
  obtain⟨rfl,-,rfl⟩:=h2;have hle:m*s<=n*s:=Nat.mul_le_mul_right s hm;refine⟨by rw[aY,h1];omega,.inr ⟨g,cap,cur,rfl,hg,hh,by omega,hc,hs,?_⟩⟩
  rw[<-ht,List.take_take,Nat.min_eq_left hle]
theorem nt{α:Type}{f:α->List Value}{c:Nat}(hf:∀a,(f a).length=c):∀(l:List α) (m:Nat),(l.flatMap f).take (m*c)=(l.take m).flatMap f
 | [],m=>by simp
 |a::l,0=>by simp
 |a::l,m+1=>by
  rw[List.flatMap_cons,List.take_succ_cons,List.flatMap_cons,show(m+1)*c=(f a).length+m*c by rw[hf,Nat.succ_mul];omega,List.take_append]
  simp only[bC (Nat.le_add_right _ _),Nat.add_sub_cancel_left];rw[nt hf l m]
theorem uB{t e:TypeId}{A:Option Addr}{n m cap:Nat}(ht:Tryz.prog.underlying t=some (.slice e)){s:Nat}(hs:∀w,(sizeOf e).run Tryz.prog w=.ok s w)(hm:m<=n)(hn:n<=cap)(w:World):(Instr.slice t (.slice A n cap) none (some (.int .i64 (m:Int))) none).run Tryz.prog w=.ok (.slice A m cap) w:=by
 have h1:(m:Int)<=(cap:Int):=by omega
 cases A with
 |none =>
  simp[Instr.slice,run_underlying ht,Instr.sliceBounds,Instr.sliceBound,asIntOf,hs];intro h;omega
 |some a =>
  simp[Instr.slice,run_underlying ht,Instr.sliceBounds,Instr.sliceBound,asIntOf,hs,Addr.add];intro h;omega
theorem Gk(w:World):(sizeOf 48).run Tryz.prog w=.ok 2 w:=by kernel_rfl
theorem Gj(w:World):(sizeOf 87).run Tryz.prog w=.ok 3 w:=by kernel_rfl
theorem uO(w:World)(B rb:Nat)(st:Rd)(vn vo vd vt:Value)(ys:List Ny)(fr:List Po)(o:Po)(ho:st.op=fr++[o])(hf:iV st)(hou:o.outer<=st.ds.length)(h:eH w B rb st vn vo vd vt ys) :
 Calls Tryz.prog 131 #[.pointer (some ⟨rb,0,none⟩)] w fun e w'=>e=.returned (.tuple #[])/\dS w' B rb (qi st fr o)/\Below B w w':=by
 have hfr:fr.length<=1000000:=by have:=hf.op;rw[ho,aj]at this;simp at this;omega
 have hBs:B<=w.heap.size:=ag h.lo (be (au h.box));have HET:=aa (nW w B rb st vn vo vd vt ys fr o ho hfr (by have:=h.nlen;have:=hf.ns;omega) (by have:=hf.tx;omega) h)
 have HO:=aa ho;clear h hf ho;go_enter Tryz.func131,Tryz.ntmps131
 go_wp2_with fail
 refine HET.out.mono ?_;rintro e w1⟨rfl,⟨vn1,ys1,hr1,hg1⟩,hb1⟩;have HR1:=aa hr1;have HB1:=aa hb1;obtain⟨_,_,c2,c3,_⟩:=hr1.cell;have hfz:=hr1.frozen;obtain⟨Ad,cd,rfl,hcd1,hcd2⟩:=aP hr1.rd;obtain⟨Ao,co,rfl,hco1,hco2⟩:=aP hr1.ro;have hdl:(ed st o).ds=st.ds:=rfl;have hol:(ed st o).op=st.op:=rfl;rw[hdl]at c3 hcd1;rw[hol]at c2 hco1;have HIN:Hid (∀w',Below w1.heap.size w1 w'->Calls Tryz.prog 130 #[.pointer (some ⟨rb,0,none⟩)] w' fun e w''=>e=.returned (.agg #[.int .i64 o.node,.string (ba o.full),.int .i64 o.outer])/\Below w'.heap.size w' w''):=fun w' hb=>gF w' B rb (ed st o) fr o HO.out hfr ⟨_,_,_,_,_,HR1.out.below hb⟩;have hfo:=vF o;have hsl:=uB (A:=Ad) Tryz.underlying39 Gk hou hcd1;have hrl:=au hr1.box;clear hr1 hg1 hb1
 go_upto_region 1 with fail
 go_cut [] (fun wx => ∃vd',eH wx B rb { ed st o with ds:=st.ds.take o.outer } vn1 (.slice Ao st.op.length co) vd' (.slice none 0 0) ys1/\Below B w1 wx)
 case first =>
  go_region_law (first|(go_simp;go_at_call 130;refine(HIN.out _ (by first|exact(ae _ _).drew|exact ae _ _)).mono ?_;rintro e w2 ⟨rfl,hb2⟩;have m3:w2.cell? ⟨rb,3,none⟩=some (.slice Ad st.ds.length cd):=((hb2.cell (p:=⟨rb,3,none⟩) hrl).trans c3);have mf:w2.frozen? ⟨rb,3,none⟩=false:=((hb2.frozen (p:=⟨rb,3,none⟩) hrl).trans (hfz 3));have HB2:=aa hb2;clear hb2))
  all_goals
   have HEND:Hid (eH (w2.setCell ⟨rb,3,none⟩ (.slice Ad o.outer cd)) B rb { ed st o with ds:=st.ds.take o.outer } vn1 (.slice Ao st.op.length co) (.slice Ad o.outer cd) (.slice none 0 0) ys1/\Below B w1 (w2.setCell ⟨rb,3,none⟩ (.slice Ad o.outer cd))):=by
    have hb2:Below w1.heap.size w1 w2:=(ae _ _).drew.trans HB2.out;have h2:=HR1.out.below hb2;have hown:=uP h2.rd hou;rw[show(ed st o).ds=st.ds from rfl,nt (f:=jP) (c:=2) (fun _=>rfl)]at hown;have hl:(st.ds.take o.outer).length=o.outer:=by rw[aY];omega
    rw[<-hl]at hown;have e:(Value.slice Ad o.outer cd).ownBlock=(Value.slice Ad st.ds.length cd).ownBlock:=by cases Ad<;>rfl
    have:=h2.declared (fun b hb _=>rfl) (v1:=.slice Ad o.outer cd) (ds:=st.ds.take o.outer) (by rw[hl]at hown ⊢;exact hown) (fun y hy=>by rw[e];exact h2.di y hy)
    exact⟨this,(hb2.mono (ag hBs HB1.out.size)).setCell (p:=⟨rb,3,none⟩) h2.lo _⟩
   clear m3 mf HB2
   go_wp2_with fail
   go_meet
   exact⟨_,HEND.out⟩
 case rest =>
  obtain⟨vd',hr,hbw⟩:=hcut;have HR:=aa hr;have HBW:=aa hbw;obtain⟨_,_,k2,_,_⟩:=hr.cell;have kf:=hr.frozen;have hopl:st.op.length=fr.length+1:=by rw[HO.out];simp
  rw[hopl]at k2 hco1;have hsl2:=uB (A:=Ao) (m:=fr.length) (n:=fr.length+1) Tryz.underlying88 Gj (by omega) hco1
  have hwr:IntKind.i64.wrap (fr.length:Int)=fr.length:=by rw[IntKind.wrap_i64];omega
  have HEND:Hid (eH (wc.drew.setCell ⟨rb,2,none⟩ (.slice Ao fr.length co)) B rb (qi st fr o) vn1 (.slice Ao fr.length co) vd' (.slice none 0 0) ys1/\Below B w (wc.drew.setCell ⟨rb,2,none⟩ (.slice Ao fr.length co))):=by
   have h2:=hr.below (ae wc.heap.size wc).drew;have hro:=h2.ro;rw[show({ ed st o with ds:=st.ds.take o.outer }:Rd).op=st.op from rfl,HO.out]at hro;have hl1:(fr++[o]).length=fr.length+1:=by simp
   have hro2:wc.drew.ownsRow B 87 3 (.slice Ao (fr.length+1) co) (fr.length+1) ((fr++[o]).flatMap wK):=by
    have e:=hro;rw[hl1]at e;exact e
   have hown:=uP hro2 (show fr.length<=fr.length+1 by omega)
   rw[nt (f:=wK) (c:=3) sQ,List.take_left]at hown;exact⟨h2.opened (fun b hb _=>rfl) (op:=fr) hown,((HB1.out.trans HBW.out).drew).setCell (p:=⟨rb,2,none⟩) h2.lo _⟩
  clear hr hbw hsl c2 c3;obtain⟨n,hn⟩ : ∃n,fr.length=n:=⟨_,rfl⟩;rw[hn]at k2 hsl2 hwr HEND;clear hn
  go_upto_region 2 with fail
  go_still_tail 14,(by kernel_rfl)
  change wpList _ _ _ _ _ wc.drew;go_wp2
  go_end0
  exact⟨rfl,⟨_,_,_,_,_,HEND.out.1⟩,HEND.out.2⟩
noncomputable def lr(full:List UInt8)(o:Po):Nat->Rd->Nd->Option Rd
 |0,_,_=>none
 |n+1,st,x =>
  match aH [62] (aI st.rest)with
  |some r=>some (jp { st with rest:=r } o x full)
  |none=>match aH [47,62] (aI st.rest)with
   |some r=>some (qi (jp { st with rest:=r } o x full) st.op ⟨(ed { st with ds:=st.ds++x.ds } o).ns.length,full,st.ds.length⟩)
   |none=>if(aI st.rest).length<st.rest.length then
    match eV (aI st.rest) x with
    |some (r,x')=>lr full o n { st with rest:=r } x'
    |none=>none
    else none
noncomputable def lq(st:Rd)(o:Po):Option Rd :=
 match dL (cE bd st.rest)with
 |none=>none
 |some (p,l)=>lr (cE bd st.rest) o ((c9 bd st.rest).length+1) { st with rest:=c9 bd st.rest } ⟨1,0,ba p,ba l,⟨#[]⟩,⟨#[]⟩,[],[]⟩
theorem RX.cur{w w':World}{B rb xb:Nat}{st:Rd}{vn vo vd vt:Value}{ys:List Ny}{x:Nd}{r:List UInt8}(h:RX w B rb xb st vn vo vd vt ys x)(hc:dK rb (ba r) w w'):RX w' B rb xb { st with rest:=r } vn vo vd vt ys x:=by
 obtain⟨vD,vA,hb,hx⟩:=h.at';have hoth:∀(b:Nat) (e:TypeId) (cs:Array Value),e≠90->w.heap[b]? = some (.cells cs e (0,0))->w'.heap[b]? = w.heap[b]?:=fun b e cs he hb=>hc.other b (au hb) (br hb h.rd.box he);exact⟨h.rd.cur hc,h.bx,h.nx,vD,vA,(hoth xb _ _ (by decide) hb).trans hb,aR hx.rD (fun b _ ⟨cs,hb⟩=>hoth b _ cs (by decide) hb),aR hx.rA (fun b _ ⟨cs,hb⟩=>hoth b _ cs (by decide) hb),hx.dd,hx.yd,hx.ya⟩
theorem qv(x:Nd)(p l:List UInt8)(v:ByteArray):(fj x p l v).ds.length+(fj x p l v).ats.length=x.ds.length+x.ats.length+1:=by
 unfold fj
 split
 ·simp;omega
 ·split<;>simp<;>omega
theorem kS{s r:List UInt8}{x x':Nd}(h:eV s x=some (r,x')):r.length<=s.length/\x'.ds.length+x'.ats.length=x.ds.length+x.ats.length+1:=by
 unfold eV at h;cases h1:dL (cE bd s)with
 |none=>rw[h1]at h;cases h
 |some q =>
  obtain⟨p,l⟩:=q;rw[h1]at h;dsimp only at h;cases h2:fe (c9 bd s)with
  |none=>rw[h2]at h;cases h
  |some r2 =>
   rw[h2]at h;dsimp only at h;cases h3:e9 r2 with
   |none=>rw[h3]at h;cases h
   |some q2 =>
    obtain⟨q,r3⟩:=q2;rw[h3]at h;dsimp only at h;cases h4:fA q with
    |none=>rw[h4]at h;cases h
    |some v =>
     rw[h4]at h;simp only[al,Prod.mk.injEq]at h;obtain⟨rfl,rfl⟩:=h;have ha:=gM bd s;have he:=gh h2;have hq:=il h3;exact⟨by omega,qv _ _ _ _⟩
def lI(w:World)(rb:Nat):Nat:=match w.cell? ⟨rb,0,none⟩with
 |some (.string s)=>s.size
 |_=>0
theorem oJ{w:World}{B rb:Nat}{st:Rd}{vn vo vd vt:Value}{ys:List Ny}(h:eH w B rb st vn vo vd vt ys):lI w rb=st.rest.length:=by
 unfold lI;rw[h.cell.1];exact cV _
def zI(rb:Nat)(v:Value)(w:World):Nat:=match v with
 | .bool true=>lI w rb+1
 |_=>0
def DT(w0:World)(B rb xb:Nat)(st:Rd)(o:Po)(vn vo vd vt:Value)(ys:List Ny)(full:List UInt8)(T:Option Rd)(v:Value)(wr:World):Prop :=
 (∃(n:Nat) (r:List UInt8) (x:Nd),v=.bool true/\r.length<n/\lr full o n { st with rest:=r } x=T/\RX wr B rb xb { st with rest:=r } vn vo vd vt ys x/\r.length+x.ds.length+x.ats.length<=100000/\Below B w0 wr)∨(v=.bool false/\T=none/\Below B w0 wr)
def kw(T:Option Rd)(B rb:Nat)(e:Ending)(w':World):Prop:=match T with
 |some st'=>e=.returned (.bool true)/\dS w' B rb st'
 |none=>e=.returned (.bool false)
end Go.Proofs.YteinegfbpfhflaaGreatDoor
