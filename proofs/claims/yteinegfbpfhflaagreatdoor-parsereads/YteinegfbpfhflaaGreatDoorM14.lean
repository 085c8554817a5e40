/-
  (*scope).end: what begin laid is taken back. Conditions: the scope lies as it is, the list too; there are not too many, the texts are not too long.
  doc.elementFormed: whether an element is formed by itself. Conditions: the tables lie as they are laid; the texts are not too long, the lists neither.
-/
import Derived.Test.YteinegfbpfhflaaGreatDoorM12
import Derived.StillTailTactics
import Derived.Deep.LoopGhost
namespace Go.Proofs.YteinegfbpfhflaaGreatDoor
set_option linter.unusedVariables false
set_option maxRecDepth 100000
set_option maxHeartbeats 16000000
section
open Go.RowKit Go.Maps Go.WideMaps
def IB(w:World)(B sb mb N n x:Nat)(O:Obj)(S ds:List Dc)(g:Nat)(i:Value)(wr:World):Prop :=
 g<=n/\i=.int .i64 ((g:Int)-1)/\Sc wr B sb mb (N+(n-g)) x O ((ds.take g).reverse++S)/\Below B w wr
theorem j0{w:World}{B e k n g cap:Nat}{xs:List Value}(h:w.ownsRow B e k (.slice (some ⟨g,0,none⟩) n cap) n xs){j:Nat}{u:Value}(hj:xs[j]? = some u):w.cell? ⟨g,j,none⟩=some u:=by
 obtain⟨hl,h |⟨g',cap',cur,e,hb,hh,hn,hc,hs,ht⟩⟩:=h
 ·simp at h
 ·simp only[aK,al,Addr.mk.injEq]at e
  obtain⟨⟨rfl,_⟩,_,rfl⟩:=e;rw[ai w g j cur _ (0,0) hh,<-bi];have hjl:=(bh.1 hj).1;rw[<-ht]at hj hjl;rw[aY]at hjl;rw[List.getElem?_take_of_lt (by omega)]at hj
  exact hj
theorem CC{w:World}{B e g cap n:Nat}{xs ys:List Value}(h:w.ownsRow B e 2 (.slice (some ⟨g,0,none⟩) (n+1) cap) (n+1) (xs++ys))(hx:xs.length=n*2):w.ownsRow B e 2 (.slice (some ⟨g,0,none⟩) n cap) n xs:=by
 obtain⟨hl,h |⟨g',cap',cur,e,hb,hh,hn,hc,hs,ht⟩⟩:=h
 ·simp at h
 ·simp only[aK,al,Addr.mk.injEq]at e
  obtain⟨⟨rfl,_⟩,_,rfl⟩:=e;refine⟨hx,.inr ⟨g,cap,cur,rfl,hb,hh,by omega,hc,hs,?_⟩⟩
  have:=congrArg (List.take (n*2)) ht;rw[List.take_take,Nat.min_eq_left (by omega),List.take_left' hx]at this
  exact this
theorem Df{w:World}{b1 o1 b2 o2:Nat}{v:Value}(h:b1≠b2∨o1≠o2):(w.setCell ⟨b1,o1,none⟩ v).cell? ⟨b2,o2,none⟩=w.cell? ⟨b2,o2,none⟩:=by
 refine World.cell?_setCell_other _ _ _ _ ?_;intro e;simp at e;omega
theorem Fp(B sb mb N x:Nat)(O:Obj)(S ds:List Dc)(vd:Value)(w:World)(hsc:Sc w B sb mb N x O (ds.reverse++S))(hB:B<=w.heap.size)(hd:gL w B vd ds)(hN:N<=1000000000000)(hS:S.length<=1000000000000)(hn:ds.length<=2000000)(hs:∀d∈ds,d.p.size<=2000000) :
 Calls Tryz.prog 145 #[.pointer (some ⟨sb,0,none⟩),vd] w fun e w'=>e=.returned (.tuple #[])/\Sc w' B sb mb (N+ds.length) x O S/\Below B w w':=by
 have HD:Hid (gL w B vd ds):=hd;have HSC:=aa hsc;obtain⟨A,cap,rfl,hc1,hc2,_⟩:=hd;obtain⟨n,hnE⟩ : ∃n,ds.length=n:=⟨_,rfl⟩;have HN:=aa hnE;rw[hnE]at hn hc1 ⊢;clear hnE hsc;go_enter Tryz.func145,Tryz.ntmps145;go_wp2
 go_loopg [4] n (IB w B sb mb N n x O S ds)
 case atStart=>exact⟨af _,by first|rfl|go_num,by rw[bC (by rw[HN.out];exact af _),Nat.sub_self];exact HSC.out,ae _ _⟩
 case round =>
  obtain⟨hg,rfl,⟨v,D,hA⟩,hb⟩:=hrel;cases gk with
  |succ g =>
   have hkl:g<ds.length:=by rw[HN.out];omega
   obtain⟨b,o,cap',e,_,_,hbB,hcell⟩:=gL.open (em.below HD.out hb) (by omega)
   simp only[aK]at e;obtain⟨rfl,_,rfl⟩:=e;obtain⟨d0,d1⟩:=hcell g hkl;have hsd:=hs _ (aJ hkl);have hgz:(g:Int)<(n:Int):=by omega
   obtain⟨d,hdE⟩ : ∃d,ds[g]=d:=⟨_,rfl⟩;rw[hdE]at d0 d1 hsd
   have hRV:(ds.take (g+1)).reverse++S=d::((ds.take g).reverse++S):=by
    rw[aN hkl,hdE];simp
   rw[hRV]at hA;obtain⟨Sk,hSk⟩ : ∃Sk,(ds.take g).reverse++S=Sk:=⟨_,rfl⟩;rw[hSk]at hA;have hSkl:Sk.length<=1000002000000:=by rw[<-hSk];simp;omega
   have HSK:=aa hSk;obtain⟨gb,capg,rfl,hgb1,hgb2⟩:=hA.own.form (by simp)
   obtain⟨nr,hnr⟩ : ∃nr,oc Sk d.p.data.toList=nr:=⟨_,rfl⟩;obtain⟨sl,hsl⟩ : ∃sl,Sk.length=sl:=⟨_,rfl⟩
   have ho1:wr.cell? ⟨gb,sl*2+1,none⟩=some (.int .i64 (nr:Nat)):=j0 hA.own (by
    rw[gA,List.getElem?_append_right (by rw[eC,hsl];omega),eC,hsl,hnr,show sl*2+1-sl*2=1 by omega];rfl)
   have c0:=hA.c0;have c1:=hA.c1;have hmap:=hA.map;have hkey:=C3 d.p hsd;have hlen1:(d::Sk).length=sl+1:=by rw[az,hsl]
   rw[hlen1]at c0;rw[hsl]at hSkl;have HNR:=aa hnr;have HSLE:=aa hsl;have HA:=aa hA;have HB:=aa hb;have hnrl:nr<=sl:=by rw[<-hnr,<-hsl];exact ta _ _
   have hslz:(sl:Int)<(sl:Int)+1:=by omega
   have hgi:((g+1:Nat):Int)-1=(g:Int):=by omega
   rw[hgi];clear hcell hdE hSk hA hb hnr hsl hlen1 hRV hgi;go_wp2
   go_still_tail 17,(by kernel_rfl)
   change wpList _ _ _ _ _ wr.drew
   go_wp2_with (at_mapUpdate;refine wpList_mapUpdate_own _ rfl _ _ _ 79 rfl 9 3 C0 Tryz.underlying79 _ mb _ D rfl hmap.drew (by unfold maxLen;omega) _ _ _ rfl rfl hkey _ [] (plainElem_int Tryz.underlying3 (WalkArith.wf_i64 (by omega))) ?_)
   intro w1 hown1 hgrow1;have hA:=HA.out;have hfar:∀y,y<wr.heap.size->y≠mb->w1.heap[y]? = wr.heap[y]?:=fun y h1 h2=>hgrow1.block y h1 (fun e=>h2 (by simpa using e))
   have k0:w1.cell? ⟨sb,0,none⟩=some (.slice (some ⟨gb,0,none⟩) (sl+1) capg):=(World.cell?_of_block (w:=wr) (hfar sb hA.lt hA.ne)).trans c0;have k1:w1.frozen? ⟨sb,0,none⟩=false:=(World.frozen?_of_block (w:=wr) (hfar sb hA.lt hA.ne)).trans hA.f0;have HK0:Hid (w1.cell? ⟨sb,1,none⟩=some (.map (some mb))):=(World.cell?_of_block (w:=wr) (hfar sb hA.lt hA.ne)).trans c1
   have HOW:Hid (w1.ownsRow B 174 2 (.slice (some ⟨gb,0,none⟩) sl capg) sl (gA Sk)):=by
    have h:=fY hA.own (fun x hx=>hfar x (jZ hA.own hx).2 (fun e=>hA.n2 (by rw[hx,e])))
    rw[az,HSLE.out]at h;exact CC h (by rw[eC,HSLE.out])
   have HXK:Hid (w1.heap[x]? = some O):=(hfar x (au hA.xk) hA.xm).trans hA.xk;have hng:gb≠sb:=fun e=>hA.n1 (by rw[e];rfl)
   have hngm:gb≠mb:=fun e=>hA.n2 (by rw[e];rfl)
   have HMP:=aa hown1;have HBX:Hid (Below B w w1):=HB.out.drew.grown hgrow1 (ag hB HB.out.size) (fun j hj=>by cases hj;exact hA.b2)
   have hcap:(sl:Int)<=(capg:Int):=by
    obtain⟨_,h |⟨g',cap',cur,e,_,_,hn',_⟩⟩:=HOW.out
    ·simp at h
    ·simp only[aK]at e;omega
   clear hown1 hgrow1 hfar hA c0 c1 hmap hkey d0 d1 ho1;go_wp2
   go_roundg g
   case measure=>omega
   case rel =>
    have hA:=HA.out;refine⟨by omega,by first|rfl|go_num,?_,HBX.out.setCell (p:=⟨sb,0,none⟩) hA.b1 _⟩
    rw[HSK.out];refine⟨_,D.put (.string d.p.data.toList) (.lit (.int .i64 (nr:Nat))),World.cell?_setCell_same _ _ _ k0,(Df (.inr (by omega))).trans HK0.out,(World.frozen?_setCell _ _ _ _).trans k1,?_,?_,?_,hA.ne,by simp[Value.ownBlock];exact hng,by simp[Value.ownBlock];exact hngm,hA.b1,hA.b2,hA.xs,hA.xm,hA.xv,(ao _ _ _ _ hA.xs).trans HXK.out⟩
    ·rw[HSLE.out]
     exact fY HOW.out (fun x hx=>by
      simp[Value.ownBlock]at hx;subst hx;exact ao _ _ _ _ hng)
    ·have h:=gX HMP.out (ao w1 ⟨sb,0,none⟩ (.slice (some ⟨gb,0,none⟩) sl capg) mb (Ne.symm hA.ne))
     have e:N+(n-(g+1))+1=N+(n-g):=by omega
     rw[e]at h;exact h
    ·have h:=CX hA.map.isMap hA.look
     rw[HNR.out]at h;exact h
  |zero =>
   have HA:=aa hA;clear hA;go_wp2
   go_end0
   exact⟨rfl,⟨v,D,HA.out⟩,hb⟩
end
section
open Go.RowKit
structure Sm(x:Nd):Prop where
 p:x.p.size<=2000000
 l:x.l.size<=2000000
 u:x.u.size<=2000000
 t:x.t.size<=2000000
 nd:x.ds.length<=2000000
 na:x.ats.length<=2000000
 ds:∀d∈x.ds,d.p.size<=2000000/\d.u.size<=2000000
 ats:∀a∈x.ats,a.p.size<=2000000/\a.l.size<=2000000/\a.u.size<=2000000/\a.v.size<=2000000
noncomputable def iJ(x:Nd):Bool:=ic x.l&&(fX x.p&&(dZ x.t []&&(x.ds.all eW&&(x.ats.all gu&&(!mA (e8 x.ds) && !mA (ft x.ats))))))
def ue{α:Type}(p:α->Bool)(l:List α)(w:World)(i:Value)(wr:World):Prop:=∃k:Nat,k<=l.length/\i=.int .i64 k/\(l.take k).all p=true/\Below w.heap.size w wr
theorem oS{α:Type}{p:α->Bool}{l:List α}{k:Nat}(h:k<l.length)(hz:p l[k]=false):l.all p=false:=by
 rw[List.all_eq_false];exact⟨l[k],aJ _,by simp[hz]⟩
theorem mM{α:Type}{p:α->Bool}{l:List α}{k:Nat}(h:k<l.length)(ha:(l.take k).all p=true)(hz:p l[k]=true):(l.take (k+1)).all p=true:=by
 rw[aN h,List.all_append,ha];simp[hz]
theorem la{α:Type}{p:α->Bool}{l:List α}{k:Nat}(h:¬k<l.length)(ha:(l.take k).all p=true):l.all p=true:=by
 rwa [bC (by omega)]at ha
theorem vS(x:Nd)(v:Value)(hs:Sm x)(w:World)(hW:Wd w)(hv:nH w w.heap.size v x) :
 Calls Tryz.prog 140 #[v] w fun e w'=>e=.returned (.bool (iJ x))/\Below w.heap.size w w':=by
 obtain⟨vd,va,rfl,hd,ha⟩:=hv;have HW:=aa hW;have HS:=aa hs;have HP:Hid (∀w',Below w.heap.size w w'->Calls Tryz.prog 175 #[.string x.p] w' fun e w''=>e=.returned (.bool (fX x.p))/\Below w'.heap.size w' w''):=fun w' hb=>lv x.p hs.p w' (hW.later hb);have HN:Hid (∀w',Below w.heap.size w w'->Calls Tryz.prog 170 #[.string x.l] w' fun e w''=>e=.returned (.bool (ic x.l))/\Below w'.heap.size w' w''):=fun w' hb=>lz x.l hs.l w' (hW.later hb).tabs;have HD:Hid (gL w w.heap.size vd x.ds):=hd;have HA:Hid (kE w w.heap.size va x.ats):=ha;obtain⟨A1,cap1,rfl,hl1,hm1,_⟩:=hd;obtain⟨A2,cap2,rfl,hl2,hm2,_⟩:=ha;obtain⟨R,hR⟩ : ∃R,iJ x=R:=⟨_,rfl⟩;rw[hR];have HR:Hid ((ic x.l&&(fX x.p&&(dZ x.t []&&(x.ds.all eW&&(x.ats.all gu&&(!mA (e8 x.ds) && !mA (ft x.ats)))))))=R):=hR;clear hR;obtain⟨b3,e3,E3⟩:=gv x.t;rw[e3]at HR;clear e3 hW hs;have hnd:=HS.out.nd;have hna:=HS.out.na;generalize fX x.p=B2 at *;generalize ic x.l=B1 at *;obtain⟨nd,hndE⟩ : ∃n,x.ds.length=n:=⟨_,rfl⟩;obtain⟨na,hnaE⟩ : ∃n,x.ats.length=n:=⟨_,rfl⟩;have HND:=aa hndE;have HNA:=aa hnaE;rw[hndE]at hnd hl1;rw[hnaE]at hna hl2;rw[hndE,hnaE];clear hndE hnaE;go_enter Tryz.func140,Tryz.ntmps140
 go_wp2_with fail
 refine(HN.out _ ((ae _ _).alloc (af _) _)).mono ?_;rintro e w1⟨rfl,hb1⟩;have c0:=aZ (j:=0) hb1 rfl;have c1:=aZ (j:=1) hb1 rfl;have c2:=aZ (j:=2) hb1 rfl;have c3:=aZ (j:=3) hb1 rfl;have c4:=aZ (j:=4) hb1 rfl;have c5:=aZ (j:=5) hb1 rfl;have c6:=aZ (j:=6) hb1 rfl;have c7:=aZ (j:=7) hb1 rfl;have hbw:=bR hb1;cases B1 with
 |false =>
  have hF:false=R:=by simpa using HR.out
  subst hF;go_wp2;go_ret;exact⟨rfl,hbw⟩
 |true =>
  go_wp2_with fail
  refine(eh hb1.size hb1 (HP.out _ hbw)).mono ?_;rintro e w2⟨rfl,hb2⟩;replace c0:=aZ (j:=0) hb2 rfl;replace c1:=aZ (j:=1) hb2 rfl;replace c2:=aZ (j:=2) hb2 rfl;replace c3:=aZ (j:=3) hb2 rfl;replace c4:=aZ (j:=4) hb2 rfl;replace c5:=aZ (j:=5) hb2 rfl;replace c6:=aZ (j:=6) hb2 rfl;replace c7:=aZ (j:=7) hb2 rfl;replace hbw:=bR hb2;clear hb1;cases B2 with
  |false =>
   have hF:false=R:=by simpa using HR.out
   subst hF;go_wp2;go_ret;exact⟨rfl,hbw⟩
  |true =>
   obtain⟨t3,t3'⟩:=E3.out;cases b3 with
   |false =>
    have hF:false=R:=by simpa using HR.out
    subst hF;go_wp2;go_ret;exact⟨rfl,hbw⟩
   |true =>
    have HR2:Hid ((x.ds.all eW&&(x.ats.all gu&&(!mA (e8 x.ds) && !mA (ft x.ats))))=R):=aa (by simpa using HR.out)
    have hlt2:w.heap.size<w2.heap.size:=a8 (by simp) hb2.size
    have HC:Hid (∀wr j v,Below w2.heap.size w2 wr->w2.cell? ⟨w.heap.size,j,none⟩=some v->wr.cell? ⟨w.heap.size,j,none⟩=some v):=fun wr j v hb h=>(hb.cell (p:=⟨w.heap.size,j,none⟩) hlt2).trans h;have HC6:=aa c6;have HC7:=aa c7;have HBW:=aa hbw;clear HR HP HN hb2 c0 c1 c2 c3 c4;go_wp2;clear c5 c6 c7
    go_loopw [25] (ue eW x.ds w2) (fun i _=>nd-(intOf i).toNat)
    case atStart=>exact⟨0,aM _,rfl,rfl,ae _ _⟩
    case round =>
     obtain⟨k,hk,rfl,hal,hbr⟩:=hrel;have HAL:=aa hal;have hbwr:=HBW.out.trans (hbr.mono HBW.out.size);rw[HND.out]at hk;clear hal;by_cases hlt:k<nd
     ·have hltd:k<x.ds.length:=by rw[HND.out];exact hlt
      obtain⟨b,o,cap',e,_,_,hbB,hcell⟩:=gL.open (em.below HD.out hbwr) (by omega)
      simp only[aK]at e;obtain⟨rfl,_,rfl⟩:=e;obtain⟨d0,d1⟩:=hcell k hltd;have hsd:=HS.out.ds _ (aJ hltd);have HDC:Hid (∀w',Below w.heap.size w w'->Calls Tryz.prog 176 #[.agg #[.string x.ds[k].p,.string x.ds[k].u]] w' fun e w''=>e=.returned (.bool (eW x.ds[k]))/\Below w'.heap.size w' w''):=fun w' hb=>Du _ hsd.1 hsd.2 w' (HW.out.later hb);have hkz:(k:Int)<(nd:Int):=by omega
      have HF:Hid (eW x.ds[k]=false->R=false):=fun h=>by rw[<-HR2.out,oS hltd h];rfl
      have HT:Hid (eW x.ds[k]=true->(x.ds.take (k+1)).all eW=true):=mM hltd HAL.out;generalize x.ds[k].p=P at *;generalize x.ds[k].u=U at *;generalize eW x.ds[k]=B at *;clear hcell
      go_wp2_with fail
      refine(HDC.out _ (hbwr.alloc (ag (af _) hbwr.size) _)).mono ?_;rintro e w3⟨rfl,hb3⟩;have hb3':=bR hb3;clear hb3;cases B with
      |false =>
       obtain rfl:=HF.out rfl;go_wp2;go_ret;exact⟨rfl,hbwr.trans (hb3'.mono hbwr.size)⟩
      |true =>
       go_wp2
       go_roundw
       case rel=>exact⟨k+1,hltd,by go_num,HT.out (by simp),hbr.trans (hb3'.mono hbr.size)⟩
       case measure=>simp[intOf];omega
     ·rename World=>W1
      have hkz:¬(k:Int)<(nd:Int):=by omega
      have hall:=la (by rw[HND.out];exact hlt) HAL.out
      have HR3:Hid ((x.ats.all gu&&(!mA (e8 x.ds) && !mA (ft x.ats)))=R):=aa (by have h:=HR2.out;rw[hall]at h;simpa using h)
      have c6:=HC.out W1 6 _ hbr HC6.out;have c7:=HC.out W1 7 _ hbr HC7.out;have HWR:=aa hbr;clear hall HAL HR2 hbr;go_wp2;clear c6 c7
      go_loopw [36] (ue gu x.ats W1) (fun i _=>na-(intOf i).toNat)
      case atStart=>exact⟨0,aM _,rfl,rfl,ae _ _⟩
      case round =>
       obtain⟨q,hq,rfl,hal,hbq⟩:=hrel;have HAL:=aa hal;have hbwq:=hbwr.trans (hbq.mono hbwr.size);rw[HNA.out]at hq;clear hal;by_cases hltq:q<na
       ·have hltd:q<x.ats.length:=by rw[HNA.out];exact hltq
        obtain⟨b,o,cap',e,_,_,hbB,hcell⟩:=kE.open (em.below HA.out hbwq) (by omega)
        simp only[aK]at e;obtain⟨rfl,_,rfl⟩:=e;obtain⟨d0,d1,d2,d3⟩:=hcell q hltd;have hsd:=HS.out.ats _ (aJ hltd);have HDC:Hid (∀w',Below w.heap.size w w'->Calls Tryz.prog 177 #[.agg #[.string x.ats[q].p,.string x.ats[q].l,.string x.ats[q].u,.string x.ats[q].v]] w' fun e w''=>e=.returned (.bool (gu x.ats[q]))/\Below w'.heap.size w' w''):=fun w' hb=>DP _ hsd.1 hsd.2.1 hsd.2.2.2 w' (HW.out.later hb);have hkz:(q:Int)<(na:Int):=by omega
        have HF:Hid (gu x.ats[q]=false->R=false):=fun h=>by rw[<-HR3.out,oS hltd h];rfl
        have HT:Hid (gu x.ats[q]=true->(x.ats.take (q+1)).all gu=true):=mM hltd HAL.out;generalize x.ats[q].p=P at *;generalize x.ats[q].l=L at *;generalize x.ats[q].u=U at *;generalize x.ats[q].v=V at *;generalize gu x.ats[q]=B at *;clear hcell
        go_wp2_with fail
        refine(HDC.out _ (hbwq.alloc (ag (af _) hbwq.size) _)).mono ?_;rintro e w3⟨rfl,hb3⟩;have hb3':=bR hb3;clear hb3;cases B with
        |false =>
         obtain rfl:=HF.out rfl;go_wp2;go_ret;exact⟨rfl,hbwq.trans (hb3'.mono hbwq.size)⟩
        |true =>
         go_wp2
         go_roundw
         case rel=>exact⟨q+1,hltd,by go_num,HT.out (by simp),hbq.trans (hb3'.mono hbq.size)⟩
         case measure=>simp[intOf];omega
       ·have hkz:¬(q:Int)<(na:Int):=by omega
        have hall:=la (by rw[HNA.out];exact hltq) HAL.out
        have HR4:Hid ((!mA (e8 x.ds) && !mA (ft x.ats))=R):=aa (by have h:=HR3.out;rw[hall]at h;simpa using h)
        have hb2q:=HWR.out.trans (hbq.mono HWR.out.size);have c6:=HC.out wr 6 _ hb2q HC6.out;have HT1:=aa (qG x.ds _ wr (em.later HD.out hbwq) (by rw[HND.out];exact hnd) (fun d hd=>(HS.out.ds d hd).1))
        have HT2:Hid (∀w',Below wr.heap.size wr w'->Calls Tryz.prog 179 #[.slice A2 na cap2] w' fun e w''=>e=.returned (.bool (mA (ft x.ats)))/\Below w'.heap.size w' w''):=fun w' hb=>by
         have h:=qJ x.ats _ w' (em.later HA.out (hbwq.trans (hb.mono hbwq.size))) (by rw[HNA.out];exact hna) (fun a ha=>⟨(HS.out.ats a ha).2.1,(HS.out.ats a ha).2.2.1⟩)
         rw[HNA.out]at h;exact h
        rw[HND.out]at HT1;generalize mA (e8 x.ds)=D1 at *;generalize mA (ft x.ats)=D2 at *;clear hall HAL HR3
        go_wp2_with fail
        refine HT1.out.mono ?_;rintro e w4⟨rfl,hb4⟩;have hb4w:=hbwq.trans (hb4.mono hbwq.size);cases D1 with
        |true =>
         have hF:false=R:=by simpa using HR4.out
         subst hF;go_wp2;go_ret;exact⟨rfl,hb4w⟩
        |false =>
         have hF:(!D2)=R:=by simpa using HR4.out
         subst hF;have c7:=HC.out w4 7 _ (hb2q.trans (hb4.mono hb2q.size)) HC7.out
         go_wp2_with fail
         refine(HT2.out w4 hb4).mono ?_;rintro e w5⟨rfl,hb5⟩;go_wp2;go_ret;exact⟨rfl,hb4w.trans (hb5.mono hb4w.size)⟩
end
end Go.Proofs.YteinegfbpfhflaaGreatDoor
