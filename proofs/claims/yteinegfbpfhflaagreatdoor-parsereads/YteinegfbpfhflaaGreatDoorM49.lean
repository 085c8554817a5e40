/-
  apostilleref08.Reader: inside. Conditions: the reader lies as it is; elements in it are read as they are to be; nothing is too long.
-/
import Derived.Test.YteinegfbpfhflaaGreatDoorM48
namespace Go.Proofs.YteinegfbpfhflaaGreatDoor
open Go.RowKit
set_option linter.unusedVariables false
set_option maxRecDepth 100000
set_option maxHeartbeats 64000000
theorem xF{f:Nat}(HE:D8 f)(S:ByteArray)(B rb:Nat)(s:Rf)(vn:Value)(ys:List Ny)(n:Int)(k:Nat)(w:World)(h:eF w B rb S s vn ys)(hS:S.size<=100000)(hf:s.rest.length<=f)(hk:s.rest.length<k)(hkp:Kp s)(hn0:0<=n)(hnn:n<(s.ns.length:Int))(hct:ey s<=800000) :
 Calls Tryz.prog 67 #[.pointer (some ⟨rb,0,none⟩),.int .i64 n] w fun e w'=>e=.returned (.tuple #[])/\eP B rb S (da (dj f) k n [] s) vn w w':=by
 have hrl:=h.lt;have hBs:B<=w.heap.size:=ag h.lo (be hrl);have HLO:=aa h.lo;obtain⟨T,hT⟩ : ∃T,da (dj f) k n [] s=T:=⟨_,rfl⟩;rw[hT];have hrest:s.rest.length<=100000:=by obtain⟨j,hj⟩:=h.rc;have:=hj.len;omega
 have HREL:Hid (D5 w B rb S vn f n T (.string ⟨#[]⟩) w):=⟨k,[],s,vn,ys,rfl,hk,hT,h,du.of_below (ae _ _),ae _ _,hkp,hnn,by simp;omega,by rw[av rfl];exact hct,hf⟩
 have HEE:=aa HE;have HN0:=aa hn0;clear h hT hk hkp hnn hct hf hrest HE;go_enter Tryz.func67,Tryz.ntmps67;go_wp2
 go_loopw [4] (D5 w B rb S vn f n T) (fun _ wr=>S.size-lk wr rb)
 case atStart=>exact HREL.out
 case round =>
  clear HREL;obtain⟨k,t,s,vn',ys,rfl,hk,hT,h,hg,hb,hkp,hnn,htl,hct,hf⟩:=hrel;obtain⟨j,hj⟩:=h.rc;obtain⟨c0,c1,_,c3⟩:=hj.cells;have hlt:=hj.lt;have hjl:=hj.len;have hjs:=hj.le;have hpos:S.size-lk wr rb=s.rest.length:=by rw[eB hj,hj.len]
  have hysl:=h.len;have HPOS:=aa hpos;have H:=aa h;have HG:=aa hg;have HB:=aa hb;have HJ:=aa hj;have HKP:=aa hkp;have HNN:=aa hnn;have hcn:ys.length<=800000:=by unfold ey at hct;omega
  have HPUT:Hid (∀w',eF w' B rb S s vn' ys->_):=fun w' hm=>yy S B rb s vn' ys n t w' hm (by omega)
  have HSQ:Hid (∀m,Calls Tryz.prog 57 #[.pointer (some ⟨rb,0,none⟩),.string ⟨#[60,47]⟩] (wr.drewN m) fun e w'=>e=.returned (.bool (bX [60,47] s))/\∃m',w'=wr.drewN m'):=fun m=>Ch ⟨#[60,47]⟩ hj (by omega) (by decide) m
  clear h hg hb hj hpos hkp hnn hysl;cases k with
  |zero=>omega
  |succ k =>
  rw[da]at hT;have hput:∀wx,eF wx B rb S s vn' ys->du rb vn vn' w wx->Below B w wx->cP n t s=T->Calls Tryz.prog 105 #[.pointer (some ⟨rb,0,none⟩),.int .i64 n,.string (ba t)] wx fun e w'=>e=.returned (.tuple #[])/\eP B rb S T vn w w':=fun wx h1 h2 h3 h4=>(HPUT.out wx h1).mono fun e w' ⟨e1,⟨v1,y1,r1,r2⟩,r3⟩=>⟨e1,⟨v1,y1,h4 ▸ r1,h2.trans r2⟩,h3.trans r3⟩;have HPT:=aa hput;clear hput;have hdr:∀m,eF (wr.drewN m) B rb S s vn' ys/\du rb vn vn' w (wr.drewN m)/\Below B w (wr.drewN m):=fun m=>⟨H.out.below (ay (ae _ _) m),HG.out.trans (du.of_below (ay (ae _ _) m)),HB.out.trans (ay (ae _ _) m)⟩;have HDR:=aa hdr;clear hdr;obtain⟨Z,hZ⟩ : ∃Z,ba t=Z:=⟨_,rfl⟩;have HZ:=aa hZ;rw[hZ]at HPT ⊢;clear hZ;cases hbad:s.bad with
  |true =>
   rw[hbad]at c3 hT;rw[av (.inl rfl)]at hT;have HT:=aa hT;clear hT
   go_wp2_with fail
   go_quiet (fail)
   go_wp2_with fail
   obtain⟨d1,d2,d3⟩:=HDR.out nq;refine(HPT.out _ d1 d2 d3 HT.out).mono ?_;rintro e w2⟨rfl,ha⟩;have HA:=aa ha;clear ha d1 d2 d3;go_wp2
   go_end0
   exact⟨rfl,HA.out⟩
  |false =>
   rw[hbad]at c3 hT;by_cases hend:j<S.size
   ·have hd:decide ((j:Int)<(S.size:Int))=true:=ax (by omega)
    cases hse:bX [60,47] s with
    |true =>
     rw[hse]at HSQ;rw[av (.inr (.inr hse))]at hT;have HT:=aa hT;clear hT
     go_wp2_with fail
     go_quiet ((go_at_call 57;exact HSQ.out _))
     go_wp2_with fail
     obtain⟨d1,d2,d3⟩:=HDR.out nq;refine(HPT.out _ d1 d2 d3 HT.out).mono ?_;rintro e w2⟨rfl,ha⟩;have HA:=aa ha;clear ha d1 d2 d3;go_wp2
     go_end0
     exact⟨rfl,HA.out⟩
    |false =>
     rw[hse]at HSQ;have hrne:s.rest≠[]:=fun e=>by rw[e]at hjl;simp at hjl;omega
     rw[am (by rw[hse];simp[hrne])]at hT
     go_wp2_with fail
     go_quiet ((go_at_call 57;exact HSQ.out _))
     obtain⟨h1,hg1,hb1⟩:=HDR.out nq;generalize wr.drewN nq=w1 at *;clear c0 c1 c3 HSQ hlt hd hse HDR HPT;have H1:=aa h1;have HG1:=aa hg1;have HB1:=aa hb1;obtain⟨j1,hj1⟩:=h1.rc;have HC1:Hid (Calls Tryz.prog 57 #[.pointer (some ⟨rb,0,none⟩),.string ⟨#[60,33,91,67,68,65,84,65,91]⟩] w1 fun e w''=>e=.returned (.bool (bX [60,33,91,67,68,65,84,65,91] s))/\dA rb S vn' s w1 w''):=dP S ⟨#[60,33,91,67,68,65,84,65,91]⟩ rb vn' s j1 w1 hj1 (by omega) (by decide)
     have HHT:=aa hT;clear h1 hg1 hb1 hj1 hT;cases hc:bX [60,33,91,67,68,65,84,65,91] s with
     |true =>
      rw[hc]at HC1
      have hT:da (dj f) k n (t++(cR [93,93,62] (bI [60,33,91,67,68,65,84,65,91] s)).1) (cR [93,93,62] (bI [60,33,91,67,68,65,84,65,91] s)).2=T:=by
       have:=HHT.out;rw[av hc]at this;exact this
      have hn1:=dX [60,33,91,67,68,65,84,65,91] s;have hl1:=iG hc;simp only[az,bb]at hl1;have HTK:Hid (∀w' k',eR w' rb S vn' s k'->Calls Tryz.prog 59 #[.pointer (some ⟨rb,0,none⟩),.string ⟨#[60,33,91,67,68,65,84,65,91]⟩] w' fun e w''=>e=.returned (.tuple #[])/\dA rb S vn' (bI [60,33,91,67,68,65,84,65,91] s) w' w''):=fun w' k' hm=>eT S ⟨#[60,33,91,67,68,65,84,65,91]⟩ rb vn' s k' w' hm (by omega) (by decide)
      generalize bI [60,33,91,67,68,65,84,65,91] s=s1 at *;have HUN:Hid (∀w' k',eR w' rb S vn' s1 k'->Calls Tryz.prog 101 #[.pointer (some ⟨rb,0,none⟩),.string ⟨#[93,93,62]⟩] w' fun e w''=>e=.returned (.string (ba (cR [93,93,62] s1).1))/\dA rb S vn' (cR [93,93,62] s1).2 w' w''):=fun w' k' hm=>iY S ⟨#[93,93,62]⟩ 93 [93,62] rfl rb vn' s1 k' w' hm (by omega) (by decide)
      have hn2:=iO [93,93,62] s1;have hl2:=(fd [93,93,62] s1).len
      have hl3:(cR [93,93,62] s1).1.length+(cR [93,93,62] s1).2.rest.length<=s1.rest.length:=by
       unfold cR
       split
       ·next p q hc=>have:=dW hc;show p.length+q.length<=_;omega
       ·simp[Rf.fail]
      generalize (cR [93,93,62] s1).2=s2 at *;generalize (cR [93,93,62] s1).1=q at *;obtain⟨Y,hY⟩ : ∃Y,ba q=Y:=⟨_,rfl⟩;have hYs:Y.size<=100000:=by rw[<-hY,cV];omega
      have hZs:Z.size<=1000000:=by rw[<-HZ.out,cV];omega
      have HY:Hid (Value.string (Z++Y)=.string (ba (t++q))):=by show _=_;rw[<-HZ.out,<-hY,nF]
      rw[hY]at HUN;have HT:=aa hT;have HN2:=aa (bM hn1 hn2);clear hc HHT hY hT hn1 hn2
      go_wp2_with fail
      refine HC1.out.mono ?_;rintro e w2⟨rfl,hr2⟩;have h2:=H1.out.rst hr2 rfl;obtain⟨j2,hj2⟩:=h2.rc;have HC2:=aa (HTK.out w2 j2 hj2);have H2:=aa h2;have HG2:=aa (HG1.out.rst hr2);have HB2:=aa (HB1.out.trans (hr2.below HLO.out (ag hBs HB1.out.size)));clear hr2 h2 hj2
      go_wp2_with fail
      refine HC2.out.mono ?_;rintro e w3⟨rfl,hr3⟩;have h3:=H2.out.rst hr3 HN2.out.1;obtain⟨j3,hj3⟩:=h3.rc;have HC3:=aa (HUN.out w3 j3 hj3);have H3:=aa h3;have HG3:=aa (HG2.out.rst hr3);have HB3:=aa (HB2.out.trans (hr3.below HLO.out (ag hBs HB2.out.size)));clear hr3 h3 hj3
      go_wp2_with fail
      refine HC3.out.mono ?_;rintro e w4⟨rfl,hr4⟩;have H4:=aa (H3.out.rst hr4 HN2.out.2);have HG4:=aa (HG3.out.rst hr4);have HB4:=aa (HB3.out.trans (hr4.below HLO.out (ag hBs HB3.out.size)));clear hr4;go_wp2
      go_roundw
      case rel =>
       have e2:s2.ns=s.ns:=HN2.out.2.trans HN2.out.1;exact⟨k,t++q,s2,vn',ys,HY.out,by omega,HT.out,H4.out,HG4.out,HB4.out,HKP.out.of e2,by rw[e2];exact HNN.out,by rw[aj];omega,by unfold ey at hct ⊢;rw[e2];split<;>omega,by omega⟩
      case measure =>
       obtain⟨j4,hj4⟩:=H4.out.rc;rw[HPOS.out,eB hj4,<-hj4.len];omega
     |false =>
      rw[hc]at HC1
      have HHT2:Hid ((if bX [60] s=false then da (dj f) k n (t++(cT (cE [60] s.rest)).getD []) ((s.to (c9 [60] s.rest)).or (cT (cE [60] s.rest)).isNone)else if bX [60,33,45,45] s=true then da (dj f) k n [] (fM n (cP n t s))else if bX [60,63] s=true then da (dj f) k n [] (fm n (cP n t s))else da (dj f) k n [] (dj f n (cP n t s)))=T):=by
       have:=HHT.out;rw[am (by rw[hc];simp)]at this
       exact this
      clear HHT hc;have HSL:Hid (∀w' k',eR w' rb S vn' s k'->Calls Tryz.prog 57 #[.pointer (some ⟨rb,0,none⟩),.string ⟨#[60]⟩] w' fun e w''=>e=.returned (.bool (bX [60] s))/\dA rb S vn' s w' w''):=fun w' k' hm=>dP S ⟨#[60]⟩ rb vn' s k' w' hm (by omega) (by decide)
      go_wp2_with fail
      refine HC1.out.mono ?_;rintro e w2⟨rfl,hr2⟩;have h2:=H1.out.rst hr2 rfl;obtain⟨j2,hj2⟩:=h2.rc;have HC2:=aa (HSL.out w2 j2 hj2);have H2:=aa h2;have HG2:=aa (HG1.out.rst hr2);have HB2:=aa (HB1.out.trans (hr2.below HLO.out (ag hBs HB1.out.size)));clear hr2 h2 hj2 HSL;cases hl:bX [60] s with
      |false =>
       rw[hl]at HC2
       have hT:da (dj f) k n (t++(cT (cE [60] s.rest)).getD []) ((s.to (c9 [60] s.rest)).or (cT (cE [60] s.rest)).isNone)=T:=by
        have:=HHT2.out;rw[av hl]at this;exact this
       have HT:=aa hT;have HL:=aa hl;clear HHT2 hT hl
       go_wp2_with fail
       refine HC2.out.mono ?_;rintro e w3⟨rfl,hr3⟩;have h3:=H2.out.rst hr3 rfl;obtain⟨j3,hj3⟩:=h3.rc;obtain⟨d0,d1,_,_⟩:=hj3.cells;have dl:=hj3.lt;have H3:=aa h3;have HJ3:=aa hj3;have HG3:=aa (HG2.out.rst hr3);have HB3:=aa (HB2.out.trans (hr3.below HLO.out (ag hBs HB2.out.size)));clear hr3 h3 hj3 d0;go_wp2;clear d1 dl
       go_loopw [48] (Hj w3 rb S vn' s j3) (fun _ wx=>S.size-lk wx rb)
       case atStart =>
        have e:s.to (S.data.toList.drop j3)=s:=by rw[<-HJ3.out.rest];rfl
        refine⟨j3,af _,by rw[e];exact HJ3.out,by rw[e];exact dA.of HJ3.out (ae _ _),fun c hc => ?_⟩
        rw[Nat.sub_self]at hc;simp at hc
       case round =>
        obtain⟨i,hji,hm,hr,hall⟩:=hrel;obtain⟨d0,d1,_,d3⟩:=hm.cells;have dl:=hm.lt;have dle:=hm.le;have df:=hm.frozen 1;have hpos2:S.size-lk wr rb=S.size-i:=by rw[eB hm]
        have HPOS2:=aa hpos2;have HM:=aa hm;have HR:=aa hr;have HALL:=aa hall;have HSQ:Hid (∀m,Calls Tryz.prog 57 #[.pointer (some ⟨rb,0,none⟩),.string ⟨#[60]⟩] (wr.drewN m) fun e w'=>e=.returned (.bool (bX [60] (s.to (S.data.toList.drop i))))/\∃m',w'=wr.drewN m'):=fun m=>Ch ⟨#[60]⟩ hm (by omega) (by decide) m
        clear hm hr hall hpos2;by_cases hin:i<S.size
        ·have hd:decide ((i:Int)<(S.size:Int))=true:=ax (by omega)
         have hil:i<S.data.toList.length:=by rw[<-aF];exact hin
         have hdrop:S.data.toList.drop i=S.data.toList[i]::S.data.toList.drop (i+1):=bv hil;cases hs60:bX [60] (s.to (S.data.toList.drop i))with
         |false =>
          rw[hs60]at HSQ
          have hne:S.data.toList[i]≠60:=fun e=>by
           rw[dw (s:=s.to (S.data.toList.drop i)) (r:=S.data.toList.drop (i+1)) (by show aH [60] (S.data.toList.drop i)=_;rw[hdrop,e];exact kK _ _)]at hs60
           cases hs60
          have HAL2:Hid (∀c∈(S.data.toList.drop j3).take (i+1-j3),c∉([60] : List UInt8)):=fun c hc=>by
           have h1:i-j3<(S.data.toList.drop j3).length:=by rw[bq];omega
           rw[show i+1-j3=(i-j3)+1 by omega,aN h1,bS,aW,List.getElem_drop]at hc
           rcases hc with hc|hc
           ·exact HALL.out c hc
           ·rw[hc,aW]
            intro e;refine hne (Eq.trans ?_ e)
            congr 1;omega
          have HEQ:Hid (Value.int .i64 ((i:Int)+1)=Value.int .i64 ((i+1:Nat):Int)):=by show _=_;simp
          clear hs60 hne hdrop hil
          go_wp2_with fail
          go_quiet ((go_at_call 57;exact HSQ.out _))
          go_wp2
          go_roundw
          case rel =>
           rw[HEQ.out];have hm1:=HM.out.below (ay (ae wr.heap.size wr) nq);exact⟨i+1,by omega,hm1.go (by omega),HR.out.trans ((dA.of HM.out (ay (ae wr.heap.size wr) nq)).trans (dA.go hm1 (by omega))),HAL2.out⟩
          case measure =>
           have hm1:=HM.out.below (ay (ae wr.heap.size wr) nq);rw[HEQ.out,HPOS2.out,eB (hm1.go (j:=i+1) (by omega))];omega
         |true =>
          rw[hs60]at HSQ
          have hst:S.data.toList.drop i=[]∨∃z,S.data.toList.drop i=60::z:=by
           obtain⟨r,hr⟩:=sx.1 hs60;exact .inr ⟨r,cH hr⟩
          have HST:=aa hst;clear hs60 hdrop hil hst
          go_wp2_with fail
          go_quiet ((go_at_call 57;exact HSQ.out _))
          have hm4:=HM.out.below (ay (ae wr.heap.size wr) nq);have hr4:=HR.out.trans (dA.of HM.out (ay (ae wr.heap.size wr) nq));clear d0 d1 d3 dl df hd HSQ;generalize wr.drewN nq=w4 at *;obtain⟨u1,u2⟩:=um HJ3.out.rest hji HALL.out HST.out;obtain⟨Y,hY⟩ : ∃Y,S.extract j3 i=Y:=⟨_,rfl⟩
          have hYq:Y=ba (cE [60] s.rest):=by
           apply cp
           rw[bp,u1,<-hY,cS,List.drop_take]
          have hsl:∀w,(Instr.slice 9 (.string S) (some (.int .i64 (j3:Int))) (some (.int .i64 (i:Int))) none).run Tryz.prog w=.ok (.string Y) w:=fun w=>by
           rw[<-hY];exact fP S hji dle w
          have hql:=gN [60] s.rest;have hsum:=sh [60] s.rest
          have HCT:Hid (∀w',Calls Tryz.prog 104 #[.string Y] w' fun e w''=>e=.returned (.tuple #[.string (ba ((cT (cE [60] s.rest)).getD [])),.bool (cT (cE [60] s.rest)).isSome])/\Below w'.heap.size w' w''):=fun w'=>by
           rw[hYq];exact pv (cE [60] s.rest) (by omega) w'
          have hne:s.rest≠[]:=fun e=>by rw[e]at hjl;simp at hjl;omega
          have hA1:1<=(cE [60] s.rest).length:=by
           have hlt':aH [60] s.rest=none:=by
            cases hq:aH [60] s.rest with
            |none=>rfl
            |some r=>have:=HL.out;rw[dw hq]at this;cases this
           obtain⟨d,z,hd,hd60⟩:=pz hlt' hne;rw[hd];unfold cE;rw[List.takeWhile_cons_of_pos (by simpa using hd60)];simp
          have hcl:((cT (cE [60] s.rest)).getD []).length<=4*(cE [60] s.rest).length:=by
           cases hc:cT (cE [60] s.rest)with
           |none=>simp
           |some y=>rw[Option.getD_some];exact mE hc
          have h4:eF w4 B rb S (s.to (S.data.toList.drop i)) vn' ys:=H3.out.rst hr4 rfl;have hT2:=HT.out;have hiS:(cT (cE [60] s.rest)).isNone = !(cT (cE [60] s.rest)).isSome:=by cases cT (cE [60] s.rest)<;>rfl
          rw[hiS,u2]at hT2;obtain⟨y,hy⟩ : ∃y,(cT (cE [60] s.rest)).getD []=y:=⟨_,rfl⟩;obtain⟨okb,hok⟩ : ∃okb,(cT (cE [60] s.rest)).isSome=okb:=⟨_,rfl⟩;rw[hy,hok]at hT2 HCT;rw[hy]at hcl;have hdl:(S.data.toList.drop i).length+(cE [60] s.rest).length=s.rest.length:=by rw[<-u2];omega
          obtain⟨V,hV⟩ : ∃V,ba y=V:=⟨_,rfl⟩;rw[hV]at HCT;have hVs:V.size<=400000:=by rw[<-hV,cV];omega
          have hZs:Z.size<=1000000:=by rw[<-HZ.out,cV];omega
          have HY:Hid (Value.string (Z++V)=.string (ba (t++y))):=by show _=_;rw[<-HZ.out,<-hV,nF]
          have hbs:(s.to (S.data.toList.drop i)).bad=false:=hbad;have HT2:=aa hT2;have HDL:=aa (bM hdl (bM hcl hA1));have H4:=aa h4;have HG4:=aa (HG3.out.rst hr4);have HB4:=aa (HB3.out.trans (hr4.below HLO.out (ag hBs HB3.out.size)));have HM4:=aa hm4;obtain⟨e0,e1,_,_⟩:=hm4.cells;have el:=hm4.lt;clear hm4 hr4 h4 hT2 hiS hdl hcl hA1 hne hY hYq hy hok hV hql hsum u1 u2 hji
          go_upto_region 9 with fail
          go_cut [6,7] (fun c1' c2' wx=>c1'=.string V/\c2'=.bool okb/\Below w4.heap.size w4 wx)
          case first =>
           go_region_with (first|(go_at_call 104;refine(HCT.out _).mono ?_;rintro e w6 ⟨rfl,hb6⟩))
           all_goals
            have HB46:=aa (((ae w4.heap.size w4).drew).trans hb6);clear hb6
            go_wp2_with fail
            go_meet
            exact⟨rfl,rfl,HB46.out⟩
          case rest =>
           obtain⟨rfl,rfl,hb46⟩:=hcut;clear e0 e1 el;have hm6:=HM4.out.below hb46;have e3:=hm6.cells.2.2.2;rw[hbs]at e3;have ef:=hm6.frozen 3;have el:=hm6.lt;have H6:=aa (H4.out.below hb46);have HG6:=aa (HG4.out.trans (du.of_below hb46));have HB6:=aa (HB4.out.trans (hb46.mono (ag hBs HB4.out.size)));have HM6:=aa hm6;clear hb46 hm6;go_wp2;have hr7:=dA.mark HM6.out (!okb)
           have hst7:({ (s.to (S.data.toList.drop i))with bad:=!okb }:Rf)=(s.to (S.data.toList.drop i)).or (!okb):=by
            unfold Rf.or;rw[hbs];rfl
           rw[hst7]at hr7;have H7:=aa (H6.out.rst hr7 rfl);have HG7:=aa (HG6.out.rst hr7);have HB7:=aa (HB6.out.trans (hr7.below HLO.out (ag hBs HB6.out.size)));clear hr7 hst7
           go_roundw
           case rel =>
            have:=HDL.out.1;have:=HDL.out.2.1;have:=HDL.out.2.2;have hrr:((s.to (S.data.toList.drop i)).or (!okb)).rest.length=(S.data.toList.drop i).length:=rfl;exact⟨k,t++y,(s.to (S.data.toList.drop i)).or (!okb),vn',ys,HY.out,by rw[hrr];omega,HT2.out,H7.out,HG7.out,HB7.out,HKP.out.of rfl,HNN.out,by rw[aj,hrr];omega,by unfold ey at hct ⊢;rw[hrr];show s.ns.length+_+_<=_;split<;>omega,by rw[hrr];omega⟩
           case measure =>
            have:=HDL.out.1;have:=HDL.out.2.2;obtain⟨j7,hj7⟩:=H7.out.rc;have hl7:((s.to (S.data.toList.drop i)).or (!okb)).rest.length=(S.data.toList.drop i).length:=rfl;rw[HPOS.out,eB hj7,<-hj7.len,hl7];omega
        ·have hd:decide ((i:Int)<(S.size:Int))=false:=ap (by omega)
         have HST:Hid (S.data.toList.drop i=[]∨∃z,S.data.toList.drop i=60::z):=.inl (List.drop_eq_nil_of_le (by rw[<-aF];omega))
         go_wp2_with fail
         go_quiet (fail)
         have hm4:=HM.out.below (ay (ae wr.heap.size wr) nq);have hr4:=HR.out.trans (dA.of HM.out (ay (ae wr.heap.size wr) nq));clear d0 d1 d3 dl df hd HSQ;generalize wr.drewN nq=w4 at *;obtain⟨u1,u2⟩:=um HJ3.out.rest hji HALL.out HST.out;obtain⟨Y,hY⟩ : ∃Y,S.extract j3 i=Y:=⟨_,rfl⟩
         have hYq:Y=ba (cE [60] s.rest):=by
          apply cp
          rw[bp,u1,<-hY,cS,List.drop_take]
         have hsl:∀w,(Instr.slice 9 (.string S) (some (.int .i64 (j3:Int))) (some (.int .i64 (i:Int))) none).run Tryz.prog w=.ok (.string Y) w:=fun w=>by
          rw[<-hY];exact fP S hji dle w
         have hql:=gN [60] s.rest;have hsum:=sh [60] s.rest
         have HCT:Hid (∀w',Calls Tryz.prog 104 #[.string Y] w' fun e w''=>e=.returned (.tuple #[.string (ba ((cT (cE [60] s.rest)).getD [])),.bool (cT (cE [60] s.rest)).isSome])/\Below w'.heap.size w' w''):=fun w'=>by
          rw[hYq];exact pv (cE [60] s.rest) (by omega) w'
         have hne:s.rest≠[]:=fun e=>by rw[e]at hjl;simp at hjl;omega
         have hA1:1<=(cE [60] s.rest).length:=by
          have hlt':aH [60] s.rest=none:=by
           cases hq:aH [60] s.rest with
           |none=>rfl
           |some r=>have:=HL.out;rw[dw hq]at this;cases this
          obtain⟨d,z,hd,hd60⟩:=pz hlt' hne;rw[hd];unfold cE;rw[List.takeWhile_cons_of_pos (by simpa using hd60)];simp
         have hcl:((cT (cE [60] s.rest)).getD []).length<=4*(cE [60] s.rest).length:=by
          cases hc:cT (cE [60] s.rest)with
          |none=>simp
          |some y=>rw[Option.getD_some];exact mE hc
         have h4:eF w4 B rb S (s.to (S.data.toList.drop i)) vn' ys:=H3.out.rst hr4 rfl;have hT2:=HT.out;have hiS:(cT (cE [60] s.rest)).isNone = !(cT (cE [60] s.rest)).isSome:=by cases cT (cE [60] s.rest)<;>rfl
         rw[hiS,u2]at hT2;obtain⟨y,hy⟩ : ∃y,(cT (cE [60] s.rest)).getD []=y:=⟨_,rfl⟩;obtain⟨okb,hok⟩ : ∃okb,(cT (cE [60] s.rest)).isSome=okb:=⟨_,rfl⟩;rw[hy,hok]at hT2 HCT;rw[hy]at hcl;have hdl:(S.data.toList.drop i).length+(cE [60] s.rest).length=s.rest.length:=by rw[<-u2];omega
         obtain⟨V,hV⟩ : ∃V,ba y=V:=⟨_,rfl⟩;rw[hV]at HCT;have hVs:V.size<=400000:=by rw[<-hV,cV];omega
         have hZs:Z.size<=1000000:=by rw[<-HZ.out,cV];omega
         have HY:Hid (Value.string (Z++V)=.string (ba (t++y))):=by show _=_;rw[<-HZ.out,<-hV,nF]
         have hbs:(s.to (S.data.toList.drop i)).bad=false:=hbad;have HT2:=aa hT2;have HDL:=aa (bM hdl (bM hcl hA1));have H4:=aa h4;have HG4:=aa (HG3.out.rst hr4);have HB4:=aa (HB3.out.trans (hr4.below HLO.out (ag hBs HB3.out.size)));have HM4:=aa hm4;obtain⟨e0,e1,_,_⟩:=hm4.cells;have el:=hm4.lt;clear hm4 hr4 h4 hT2 hiS hdl hcl hA1 hne hY hYq hy hok hV hql hsum u1 u2 hji
         go_upto_region 9 with fail
         go_cut [6,7] (fun c1' c2' wx=>c1'=.string V/\c2'=.bool okb/\Below w4.heap.size w4 wx)
         case first =>
          go_region_with (first|(go_at_call 104;refine(HCT.out _).mono ?_;rintro e w6 ⟨rfl,hb6⟩))
          all_goals
           have HB46:=aa (((ae w4.heap.size w4).drew).trans hb6);clear hb6
           go_wp2_with fail
           go_meet
           exact⟨rfl,rfl,HB46.out⟩
         case rest =>
          obtain⟨rfl,rfl,hb46⟩:=hcut;clear e0 e1 el;have hm6:=HM4.out.below hb46;have e3:=hm6.cells.2.2.2;rw[hbs]at e3;have ef:=hm6.frozen 3;have el:=hm6.lt;have H6:=aa (H4.out.below hb46);have HG6:=aa (HG4.out.trans (du.of_below hb46));have HB6:=aa (HB4.out.trans (hb46.mono (ag hBs HB4.out.size)));have HM6:=aa hm6;clear hb46 hm6;go_wp2;have hr7:=dA.mark HM6.out (!okb)
          have hst7:({ (s.to (S.data.toList.drop i))with bad:=!okb }:Rf)=(s.to (S.data.toList.drop i)).or (!okb):=by
           unfold Rf.or;rw[hbs];rfl
          rw[hst7]at hr7;have H7:=aa (H6.out.rst hr7 rfl);have HG7:=aa (HG6.out.rst hr7);have HB7:=aa (HB6.out.trans (hr7.below HLO.out (ag hBs HB6.out.size)));clear hr7 hst7
          go_roundw
          case rel =>
           have:=HDL.out.1;have:=HDL.out.2.1;have:=HDL.out.2.2;have hrr:((s.to (S.data.toList.drop i)).or (!okb)).rest.length=(S.data.toList.drop i).length:=rfl;exact⟨k,t++y,(s.to (S.data.toList.drop i)).or (!okb),vn',ys,HY.out,by rw[hrr];omega,HT2.out,H7.out,HG7.out,HB7.out,HKP.out.of rfl,HNN.out,by rw[aj,hrr];omega,by unfold ey at hct ⊢;rw[hrr];show s.ns.length+_+_<=_;split<;>omega,by rw[hrr];omega⟩
          case measure =>
           have:=HDL.out.1;have:=HDL.out.2.2;obtain⟨j7,hj7⟩:=H7.out.rc;have hl7:((s.to (S.data.toList.drop i)).or (!okb)).rest.length=(S.data.toList.drop i).length:=rfl;rw[HPOS.out,eB hj7,<-hj7.len,hl7];omega
      |true =>
       rw[hl]at HC2
       have HHT3:Hid ((if bX [60,33,45,45] s=true then da (dj f) k n [] (fM n (cP n t s))else if bX [60,63] s=true then da (dj f) k n [] (fm n (cP n t s))else da (dj f) k n [] (dj f n (cP n t s)))=T):=by
        have:=HHT2.out;rw[am (by rw[hl];simp)]at this
        exact this
       clear HHT2;have hpr:=(jY n t s).1;have hprl:(cP n t s).rest.length=s.rest.length:=by rw[hpr]
       have hpn:=sM n t s;have hpk:=xi HKP.out (by omega:t.length<=2000000) HN0.out HNN.out
       have hpm:=(f5 n t s).2.1.length_le;have hnp:n<((cP n t s).ns.length:Int):=by have:=HNN.out;omega
       have hrc:(cP n t s).rest.length<=100000:=by omega
       have hct2:ey (cP n t s)<=800000:=by unfold ey at hct ⊢;rw[hpn,hprl];omega
       have hsc:bX [60,33,45,45] s=bX [60,33,45,45] (cP n t s):=by unfold bX;rw[hpr]
       have hsi:bX [60,63] s=bX [60,63] (cP n t s):=by unfold bX;rw[hpr]
       have hsl:bX [60] (cP n t s)=true:=by rw[<-hl];unfold bX;rw[hpr]
       rw[hsc,hsi]at HHT3
       have HPP:Hid (∀w',eF w' B rb S s vn' ys->Calls Tryz.prog 105 #[.pointer (some ⟨rb,0,none⟩),.int .i64 n,.string Z] w' fun e w''=>e=.returned (.tuple #[])/\eP B rb S (cP n t s) vn' w' w''):=fun w' hm=>by
        rw[<-HZ.out];exact yy S B rb s vn' ys n t w' hm (by omega)
       generalize cP n t s=sP at *;have HPK:=aa (bM hpk hnp);clear hl hsc hsi hpr hpn hpk hnp hpm HPUT
       go_wp2_with fail
       refine HC2.out.mono ?_;rintro e w3⟨rfl,hr3⟩;have h3:=H2.out.rst hr3 rfl;have HC3:=aa (HPP.out w3 h3);have HG3:=aa (HG2.out.rst hr3);have HB3:=aa (HB2.out.trans (hr3.below HLO.out (ag hBs HB2.out.size)));clear hr3 h3
       go_wp2_with fail
       refine HC3.out.mono ?_;rintro e w4⟨rfl,⟨vn4,ys4,h4,hg4⟩,hb4⟩;have HG4:=aa (HG3.out.trans hg4);have HB4:=aa (HB3.out.trans hb4);have H4:=aa h4;obtain⟨j4,hj4⟩:=h4.rc;have hys4:ys4.length<=800000:=by rw[h4.len];unfold ey at hct2;omega
       have HC4:Hid (Calls Tryz.prog 57 #[.pointer (some ⟨rb,0,none⟩),.string ⟨#[60,33,45,45]⟩] w4 fun e w''=>e=.returned (.bool (bX [60,33,45,45] sP))/\dA rb S vn4 sP w4 w''):=dP S ⟨#[60,33,45,45]⟩ rb vn4 sP j4 w4 hj4 (by omega) (by decide)
       clear hg4 hb4 h4 hj4;cases hcm:bX [60,33,45,45] sP with
       |true =>
        rw[hcm]at HC4
        have HT:Hid (da (dj f) k n [] (fM n sP)=T):=by
         have:=HHT3.out;rw[av hcm]at this;exact this
        have hcl:=oK (n:=n) hcm;have hcn:=tQ n sP;have HCK:=aa (bM (xX HPK.out.1 hrc HN0.out HPK.out.2) hcn);clear HHT3 hcm hsl hcn
        go_wp2_with fail
        refine HC4.out.mono ?_;rintro e w5⟨rfl,hr5⟩;have h5:=H4.out.rst hr5 rfl;have HC5:=aa (mF S B rb sP vn4 ys4 n w5 h5 (by omega) (by omega))
        have HG5:=aa (HG4.out.rst hr5);have HB5:=aa (HB4.out.trans (hr5.below HLO.out (ag hBs HB4.out.size)));clear hr5 h5
        go_wp2_with fail
        refine HC5.out.mono ?_;rintro e w6⟨rfl,⟨vn6,ys6,h6,hg6⟩,hb6⟩;have HG6:=aa (HG5.out.trans hg6);have HB6:=aa (HB5.out.trans hb6);have H6:=aa h6;clear hg6 hb6 h6;go_wp2
        go_roundw
        case rel=>exact⟨k,[],fM n sP,vn6,ys6,rfl,by omega,HT.out,H6.out,HG6.out,HB6.out,HCK.out.1,by rw[HCK.out.2];have:=HPK.out.2;omega,by simp;omega,by rw[av rfl];have:=HCK.out.2;unfold ey at hct2 ⊢;omega,by omega⟩
        case measure =>
         obtain⟨j6,hj6⟩:=H6.out.rc;rw[HPOS.out,eB hj6,<-hj6.len];omega
       |false =>
        rw[hcm]at HC4
        have HHT4:Hid ((if bX [60,63] sP=true then da (dj f) k n [] (fm n sP)else da (dj f) k n [] (dj f n sP))=T):=by
         have:=HHT3.out;rw[am (by rw[hcm];simp)]at this
         exact this
        clear HHT3 hcm
        go_wp2_with fail
        refine HC4.out.mono ?_;rintro e w5⟨rfl,hr5⟩;have h5:=H4.out.rst hr5 rfl;obtain⟨j5,hj5⟩:=h5.rc;have HC5:Hid (Calls Tryz.prog 57 #[.pointer (some ⟨rb,0,none⟩),.string ⟨#[60,63]⟩] w5 fun e w''=>e=.returned (.bool (bX [60,63] sP))/\dA rb S vn4 sP w5 w''):=dP S ⟨#[60,63]⟩ rb vn4 sP j5 w5 hj5 (by omega) (by decide)
        have H5:=aa h5;have HG5:=aa (HG4.out.rst hr5);have HB5:=aa (HB4.out.trans (hr5.below HLO.out (ag hBs HB4.out.size)));clear hr5 h5 hj5;cases hin:bX [60,63] sP with
        |true =>
         rw[hin]at HC5
         have HT:Hid (da (dj f) k n [] (fm n sP)=T):=by
          have:=HHT4.out;rw[av hin]at this;exact this
         have hcl:=ov (n:=n) hin;have hcn:=ou n sP;have HCK:=aa (bM (tk HPK.out.1 hrc HN0.out HPK.out.2) hcn);clear HHT4 hin hsl hcn
         go_wp2_with fail
         refine HC5.out.mono ?_;rintro e w6⟨rfl,hr6⟩;have h6:=H5.out.rst hr6 rfl;have HC6:=aa (je S B rb sP vn4 ys4 n w6 h6 (by omega) (by omega))
         have HG6:=aa (HG5.out.rst hr6);have HB6:=aa (HB5.out.trans (hr6.below HLO.out (ag hBs HB5.out.size)));clear hr6 h6
         go_wp2_with fail
         refine HC6.out.mono ?_;rintro e w7⟨rfl,⟨vn7,ys7,h7,hg7⟩,hb7⟩;have HG7:=aa (HG6.out.trans hg7);have HB7:=aa (HB6.out.trans hb7);have H7:=aa h7;clear hg7 hb7 h7;go_wp2
         go_roundw
         case rel=>exact⟨k,[],fm n sP,vn7,ys7,rfl,by omega,HT.out,H7.out,HG7.out,HB7.out,HCK.out.1,by rw[HCK.out.2];have:=HPK.out.2;omega,by simp;omega,by rw[av rfl];have:=HCK.out.2;unfold ey at hct2 ⊢;omega,by omega⟩
         case measure =>
          obtain⟨j7,hj7⟩:=H7.out.rc;rw[HPOS.out,eB hj7,<-hj7.len];omega
        |false =>
         rw[hin]at HC5
         have HT:Hid (da (dj f) k n [] (dj f n sP)=T):=by
          have:=HHT4.out;rw[am (by rw[hin];simp)]at this
          exact this
         obtain⟨b1,b2,b3⟩:=xQ f n sP HPK.out.1 hrc (by omega) HN0.out HPK.out.2
         have b3':=b3 hsl;have hmn:=(iq f n sP).2.1.length_le;have hsl1:=iG hsl;simp only[az,bb]at hsl1;have hdec:(dj f n sP).rest.length<sP.rest.length:=by unfold ey at b3';omega
         have hct3:ey (dj f n sP)<=800000:=by omega
         have hEE:=fun w' (hm:eF w' B rb S sP vn4 ys4)=>HEE.out S B rb sP vn4 ys4 n w' hm hS (by omega) (by omega) HPK.out.1 HN0.out HPK.out.2 hct2
         have HE2:=aa hEE;have HCK:=aa b1;clear HHT4 hin hsl b1 b2 b3 b3' hEE
         go_wp2_with fail
         refine HC5.out.mono ?_;rintro e w6⟨rfl,hr6⟩;have h6:=H5.out.rst hr6 rfl;have HC6:=aa (HE2.out w6 h6);have HG6:=aa (HG5.out.rst hr6);have HB6:=aa (HB5.out.trans (hr6.below HLO.out (ag hBs HB5.out.size)));clear hr6 h6
         go_wp2_with fail
         refine HC6.out.mono ?_;rintro e w7⟨rfl,⟨vn7,ys7,h7,hg7⟩,hb7⟩;have HG7:=aa (HG6.out.trans hg7);have HB7:=aa (HB6.out.trans hb7);have H7:=aa h7;clear hg7 hb7 h7;go_wp2
         go_roundw
         case rel=>exact⟨k,[],dj f n sP,vn7,ys7,rfl,by omega,HT.out,H7.out,HG7.out,HB7.out,HCK.out,by have:=HPK.out.2;omega,by simp;omega,by rw[av rfl];exact hct3,by omega⟩
         case measure =>
          obtain⟨j7,hj7⟩:=H7.out.rc;rw[HPOS.out,eB hj7,<-hj7.len];omega
   ·have hd:decide ((j:Int)<(S.size:Int))=false:=ap (by omega)
    have hrne:s.rest=[]:=aD (by omega)
    rw[av (.inr (.inl hrne))]at hT;have HT:=aa hT;clear hT
    go_wp2_with fail
    go_quiet (fail)
    go_wp2_with fail
    obtain⟨d1,d2,d3⟩:=HDR.out nq;refine(HPT.out _ d1 d2 d3 HT.out).mono ?_;rintro e w2⟨rfl,ha⟩;have HA:=aa ha;clear ha d1 d2 d3;go_wp2
    go_end0
    exact⟨rfl,HA.out⟩
end Go.Proofs.YteinegfbpfhflaaGreatDoor
