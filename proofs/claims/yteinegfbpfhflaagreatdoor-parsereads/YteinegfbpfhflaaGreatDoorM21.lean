/-
  parse.reader: lay. Conditions: the reader lies as it is; something is open; there are not too many nodes.
  parse.reader: endText, add. Conditions: the reader lies as it is; something is open; there are not too many nodes, the text is not too long.
  parse.reader: comment, data. Conditions: the reader lies as it is, something is open; nothing is too long; the tables lie as they are laid.
-/
import Derived.Test.YteinegfbpfhflaaGreatDoorM20
import Derived.Deep.RegionLaw
import Derived.Test.YteinegfbpfhflaaGreatDoorM10
namespace Go.Proofs.YteinegfbpfhflaaGreatDoor
open Go.RowKit
set_option linter.unusedVariables false
set_option maxRecDepth 100000
set_option maxHeartbeats 16000000
structure du(rb:Nat)(v v':Value)(w w':World):Prop where
 els:∀b,b<w.heap.size->b≠rb->v.ownBlock≠some b->w'.heap[b]? = w.heap[b]?
 new:∀b,v'.ownBlock=some b->v.ownBlock=some b∨w.heap.size<=b
 size:w.heap.size<=w'.heap.size
theorem du.of_below{rb:Nat}{v:Value}{w w':World}(h:Below w.heap.size w w'):du rb v v w w':=⟨fun b hb _ _=>h.block b hb,fun b hb => .inl hb,h.size⟩
theorem du.trans{rb:Nat}{v v' v'':Value}{w w1 w2:World}(h:du rb v v' w w1)(h':du rb v' v'' w1 w2):du rb v v'' w w2:=by
 refine⟨fun b hb hr hn=>(h'.els b (a8 hb h.size) hr (fun e => ?_)).trans (h.els b hb hr hn),fun b hb => ?_,ag h.size h'.size⟩
 ·rcases h.new b e with e1|e1
  ·exact hn e1
  ·omega
 ·rcases h'.new b hb with e1|e1
  ·exact h.new b e1
  ·exact .inr (ag h.size e1)
def cy(x:Nd)(n:Nat):Nd:={ x with n:=(n:Int) }
theorem eH.laid{w w1:World}{B rb:Nat}{st:Rd}{vn vo vd vt v1:Value}{ys:List Ny}{y:Ny}(h:eH w B rb st vn vo vd vt ys)(hoth:∀b,b<w.heap.size->vn.ownBlock≠some b->w1.heap[b]? = w.heap[b]?)(hown:w1.ownsRow B 42 8 v1 (ys.length+1) ((ys++[y]).flatMap gS))(hy:qL w B y)(hdi:y.d.ownBlock=none∨y.d.ownBlock≠vd.ownBlock) :
 eH (w1.setCell ⟨rb,1,none⟩ v1) B rb { st with ns:=st.ns++[y.x] } v1 vo vd vt (ys++[y]):=by
 have hset:∀(b:Nat) (e:TypeId) (cs:Array Value),e≠90->w1.heap[b]? = some (.cells cs e (0,0))->(w1.setCell ⟨rb,1,none⟩ v1).heap[b]? = w1.heap[b]?:=fun b e cs he hb=>ao _ _ _ _ (fun e0=>by
  rw[e0]at hb
  rw[hoth rb (au h.box) (fun e1=>by
   obtain⟨_,⟨e2,_⟩|⟨g,cap,cur,e2,_,hh,_⟩⟩:=h.rn
   ·rw[e2]at e1;simp[Value.ownBlock]at e1
   ·rw[e2]at e1
    simp only[Value.ownBlock,al]at e1;rw[e1,h.box]at hh;simp at hh),h.box]at hb
  simp only[al,Obj.cells.injEq]at hb;exact he hb.2.1.symm)
 have keep:∀{e s n:Nat} {v:Value} {xs:List Value},e≠42->e≠90->w.ownsRow B e s v n xs->(w1.setCell ⟨rb,1,none⟩ v1).ownsRow B e s v n xs:=fun {e s n v xs} he he2 ho=>by
  have h1:w1.ownsRow B e s v n xs:=aR ho (fun b hb ⟨cs,hc⟩=>hoth b (au hc) (fun e0=>by
   rcases i9 ho h.rn he with h0|h0
   ·rw[hb]at h0;cases h0
   ·exact h0 (hb.trans e0.symm)))
  exact aR h1 (fun b hb ⟨cs,hc⟩=>hset b e cs he2 hc)
 have hrb:w1.heap[rb]? = w.heap[rb]?:=hoth rb (au h.box) (fun e1=>by
  obtain⟨_,⟨e2,_⟩|⟨g,cap,cur,e2,_,hh,_⟩⟩:=h.rn
  ·rw[e2]at e1;simp[Value.ownBlock]at e1
  ·rw[e2]at e1
   simp only[Value.ownBlock,al]at e1;rw[e1,h.box]at hh;simp at hh)
 refine⟨h.lo,by rw[aL (hrb.trans h.box)];rfl,by rw[List.map_append,h.ns];rfl,?_,keep (by decide) (by decide) h.ro,keep (by decide) (by decide) h.rd,keep (by decide) (by decide) h.rt,fun z hz => ?_,fun z hz => ?_⟩
 ·rw[aj,aB]
  exact aR hown (fun b _ ⟨cs,hc⟩=>hset b _ cs (by decide) hc)
 ·rcases bS.1 hz with hz|hz
  ·exact⟨keep (by decide) (by decide) (h.ry z hz).1,keep (by decide) (by decide) (h.ry z hz).2⟩
  ·rw[aW.1 hz]
   exact⟨keep (by decide) (by decide) hy.1,keep (by decide) (by decide) hy.2⟩
 ·rcases bS.1 hz with hz|hz
  ·exact h.di z hz
  ·rw[aW.1 hz];exact hdi
theorem xO(o:Po)(w:World):(Instr.field 87 (.agg #[.int .i64 o.node,.string (ba o.full),.int .i64 o.outer]) 0).run Tryz.prog w=.ok (.int .i64 o.node) w:=by kernel_rfl
theorem pZ(o:Po)(w:World):(Instr.field 87 (.agg #[.int .i64 o.node,.string (ba o.full),.int .i64 o.outer]) 1).run Tryz.prog w=.ok (.string (ba o.full)) w:=by kernel_rfl
theorem vF(o:Po)(w:World):(Instr.field 87 (.agg #[.int .i64 o.node,.string (ba o.full),.int .i64 o.outer]) 2).run Tryz.prog w=.ok (.int .i64 o.outer) w:=by kernel_rfl
theorem yM(w:World)(B rb:Nat)(st:Rd)(vn vo vd vt:Value)(ys:List Ny)(fr:List Po)(o:Po)(x:Nd)(vD vA:Value)(ho:st.op=fr++[o])(hfr:fr.length<=1000000)(hys:ys.length<=1000000)(h:eH w B rb st vn vo vd vt ys)(hx:qL w B ⟨x,vD,vA⟩)(hdi:vD.ownBlock=none∨vD.ownBlock≠vd.ownBlock) :
 Calls Tryz.prog 168 #[.pointer (some ⟨rb,0,none⟩),.agg #[.int .i64 x.k,.int .i64 x.n,.string x.p,.string x.l,.string x.u,.string x.t,vD,vA]] w fun e w'=>e=.returned (.int .i64 (ys.length:Int)) /\
  (∃vn',eH w' B rb { st with ns:=st.ns++[cy x o.node] } vn' vo vd vt (ys++[⟨cy x o.node,vD,vA⟩])/\du rb vn vn' w w')/\Below B w w':=by
 have H:=aa h;have HX:=aa hx;obtain⟨Ad,cd,rfl,_,_⟩ : ∃A c,vD=.slice A x.ds.length c/\x.ds.length<=c/\c<=9223372036854775807:=aP hx.1;obtain⟨Aa,ca,rfl,_,_⟩ : ∃A c,vA=.slice A x.ats.length c/\x.ats.length<=c/\c<=9223372036854775807:=aP hx.2;obtain⟨An,cn,rfl,hcn,hcn2⟩:=aP h.rn;have hrl:=au h.box;have hBs:B<=w.heap.size:=ag h.lo (be hrl);clear h hx;obtain⟨xb,hxb⟩ : ∃xb,w.heap.size=xb:=⟨_,rfl⟩;obtain⟨w1,hw1⟩ : ∃w1,w.alloc (Obj.cells #[.int .i64 x.k,.int .i64 x.n,.string x.p,.string x.l,.string x.u,.string x.t,.slice Ad x.ds.length cd,.slice Aa x.ats.length ca] 42)=w1:=⟨_,rfl⟩;have hb1:Below w.heap.size w w1:=by rw[<-hw1];exact(ae _ _).alloc (af _) _
 have hbx1:w1.heap[xb]? = some (.cells #[.int .i64 x.k,.int .i64 x.n,.string x.p,.string x.l,.string x.u,.string x.t,.slice Ad x.ds.length cd,.slice Aa x.ats.length ca] 42 (0,0)):=by rw[<-hw1,<-hxb];exact ar w _
 have HIN:=aa (gF w1 B rb st fr o ho hfr ⟨_,_,_,_,_,H.out.below hb1⟩);have HB1:=aa hb1;have HBX1:=aa hbx1;have HW1:=aa hw1;have HXB:=aa hxb;clear hb1 hbx1 hw1 hxb ho;go_enter Tryz.func168,Tryz.ntmps168
 go_wp2_with fail
 rw[HW1.out,HXB.out];refine HIN.out.mono ?_;rintro e w2⟨rfl,hb2⟩;have hbx2:=(hb2.block xb (au HBX1.out)).trans HBX1.out;have q1:w2.cell? ⟨xb,1,none⟩=some (.int .i64 x.n):=by rw[ai w2 xb 1 _ _ _ hbx2];rfl
 have qf:∀j,w2.frozen? ⟨xb,j,none⟩=false:=fun j=>by unfold World.frozen?;rw[hbx2];simp
 have HB2:=aa hb2;have HBX2:=aa hbx2;clear hb2 hbx2;have hfn:=xO o
 go_upto_region 2 with fail
 obtain⟨w3,hw3⟩ : ∃w3,w2.setCell ⟨xb,1,none⟩ (.int .i64 o.node)=w3:=⟨_,rfl⟩;have hlt2:xb<w2.heap.size:=au HBX2.out;have hbx3:w3.heap[xb]? = some (.cells #[.int .i64 x.k,.int .i64 o.node,.string x.p,.string x.l,.string x.u,.string x.t,.slice Ad x.ds.length cd,.slice Aa x.ats.length ca] 42 (0,0)):=by rw[<-hw3,aL HBX2.out];rfl
 have hb3:Below xb w w3:=by rw[<-hw3];exact((HB1.out.mono (by rw[HXB.out];exact af _)).trans (HB2.out.mono (be (au HBX1.out)))).setCell (p:=⟨xb,1,none⟩) (af _) _
 have hs3:w.heap.size<w3.heap.size:=by rw[HXB.out];exact au hbx3
 have hbw:Below w.heap.size w w3:=by rw[HXB.out];exact hb3
 have h3:=H.out.below hbw;have hx3:qL w3 B ⟨x,.slice Ad x.ds.length cd,.slice Aa x.ats.length ca⟩:=⟨dh HX.out.1 hbw,dh HX.out.2 hbw⟩;have hzf:=h3.frozen;obtain⟨_,c1,_,_,_⟩:=h3.cell;have p0:w3.cell? ⟨xb,0,none⟩=some (.int .i64 x.k):=by rw[ai w3 xb 0 _ _ _ hbx3];rfl
 have p1:w3.cell? ⟨xb,1,none⟩=some (.int .i64 o.node):=by rw[ai w3 xb 1 _ _ _ hbx3];rfl
 have p2:w3.cell? ⟨xb,2,none⟩=some (.string x.p):=by rw[ai w3 xb 2 _ _ _ hbx3];rfl
 have p3:w3.cell? ⟨xb,3,none⟩=some (.string x.l):=by rw[ai w3 xb 3 _ _ _ hbx3];rfl
 have p4:w3.cell? ⟨xb,4,none⟩=some (.string x.u):=by rw[ai w3 xb 4 _ _ _ hbx3];rfl
 have p5:w3.cell? ⟨xb,5,none⟩=some (.string x.t):=by rw[ai w3 xb 5 _ _ _ hbx3];rfl
 have p6:w3.cell? ⟨xb,6,none⟩=some (.slice Ad x.ds.length cd):=by rw[ai w3 xb 6 _ _ _ hbx3];rfl
 have p7:w3.cell? ⟨xb,7,none⟩=some (.slice Aa x.ats.length ca):=by rw[ai w3 xb 7 _ _ _ hbx3];rfl
 rw[hw3];have H3:=aa h3;have HX3:=aa hx3;have HB3:=aa hbw;have HS3:=aa hs3;clear hbx3 hw3 hb3 h3 hx3 hbw hs3 q1 qf hlt2 hfn
 go_cut [] (fun wx => ∃vn',eH wx B rb { st with ns:=st.ns++[cy x o.node] } vn' vo vd vt (ys++[⟨cy x o.node,.slice Ad x.ds.length cd,.slice Aa x.ats.length ca⟩])/\Below B w3 wx/\du rb (Value.slice An ys.length cn) vn' w3 wx)
 case first =>
  obtain⟨i0,hi0,hz0,hz1,hz2⟩:=info_parts ja;obtain⟨yn,hyn⟩ : ∃yn:Ny,yn=⟨cy x o.node,.slice Ad x.ds.length cd,.slice Aa x.ats.length ca⟩:=⟨_,rfl⟩
  have HNC:Hid ([yn].flatMap gS=[.int .i64 x.k,.int .i64 o.node,.string x.p,.string x.l,.string x.u,.string x.t,.slice Ad x.ds.length cd,.slice Aa x.ats.length ca]):=by
   show _=_
   rw[hyn];rfl
  have HC1:Hid (∀W:World,∀j u,([yn].flatMap gS)[j]? = some u->(W.alloc (Obj.cells #[.int .i64 x.k,.int .i64 o.node,.string x.p,.string x.l,.string x.u,.string x.t,.slice Ad x.ds.length cd,.slice Aa x.ats.length ca] 42)).cell? ((⟨W.heap.size,0,none⟩ : Addr).add j)=some u):=fun W j u hu=>by
   rw[HNC.out]at hu;exact World.news_of_block (ar W (Obj.cells #[.int .i64 x.k,.int .i64 o.node,.string x.p,.string x.l,.string x.u,.string x.t,.slice Ad x.ds.length cd,.slice Aa x.ats.length ca] 42)) j u hu
  have HO1:Hid (∀u∈[yn].flatMap gS,u.oneCell'=true):=fun u hu=>by
   rw[HNC.out]at hu;simp only[aU,bE,or_false]at hu;rcases hu with rfl|rfl|rfl|rfl|rfl|rfl|rfl|rfl<;>rfl
  have HRN:=aa H3.out.rn
  have HNB:Hid (∀b,(Value.slice An ys.length cn).ownBlock=some b->b≠rb):=fun b hb e=>by
   obtain⟨_,⟨e1,_⟩|⟨g,cap,cur,e1,_,hh,_⟩⟩:=HRN.out
   ·rw[e1]at hb;simp[Value.ownBlock]at hb
   ·rw[e1]at hb
    simp only[Value.ownBlock,al]at hb;rw[hb,e,H3.out.box]at hh;simp at hh
  have HKP:Hid (∀(ob:Obj) (wa:World),(w3.drew.alloc ob).grownBy wa (Value.slice An ys.length cn).ownBlock->∀b,b<w3.heap.size->(Value.slice An ys.length cn).ownBlock≠some b->wa.heap[b]? = w3.heap[b]?):=fun ob wa hg b hb hne=>by
   rw[hg.block b (by simp;omega) (fun e=>hne e.symm)]
   exact((ae w3.heap.size w3).drew.alloc (af _) ob).block b hb
  have kA:∀ob,(w3.alloc ob).cell? ⟨rb,1,none⟩=some (.slice An ys.length cn):=fun ob=>(((ae w3.heap.size w3).alloc (af _) ob).cell (p:=⟨rb,1,none⟩) (au H3.out.box)).trans c1;have hBs3:B<=w3.heap.size:=by have:=HS3.out;omega
  go_region_law? (refine eO (P:=Tryz.prog) rfl (.tmp 13) (.tmp 15) 28 rfl B 42 i0 _ 8 _ Tryz.underlying28 hi0 hz0 hz1 hz2 rfl (by omega) (.slice An ys.length cn) ys.length (ys.flatMap gS) rfl (HRN.out.drew.alloc _) 1 (.slice (some ⟨w3.drew.heap.size,0,none⟩) 1 1) rfl ([yn].flatMap gS) (.inr ⟨_,1,rfl,HC1.out w3.drew⟩) rfl HO1.out (by unfold maxLen;omega) (by omega) (by simp;omega) ?_;intro v1 wa hown1 hgrow1 hat1;have hka:=(HKP.out _ wa hgrow1 rb (au H3.out.box) (fun e=>HNB.out rb e rfl)).trans H3.out.box;have kc:wa.cell? ⟨rb,1,none⟩=some (.slice An ys.length cn):=(by rw[ai wa rb 1 _ _ _ hka];rfl);have kf:wa.frozen? ⟨rb,1,none⟩=false:=(by unfold World.frozen?;rw[hka];simp);have HKA:=aa hka;have HOW1:=aa hown1;have HGR1:=aa hgrow1;have HAT1:=aa hat1;obtain⟨A1,c1',rfl,_,_⟩:=aP hown1;clear hka hown1 hgrow1 hat1)
  all_goals
   have HEND:Hid (eH (wa.setCell ⟨rb,1,none⟩ (.slice A1 (ys.length+1) c1')) B rb { st with ns:=st.ns++[cy x o.node] } (.slice A1 (ys.length+1) c1') vo vd vt (ys++[⟨cy x o.node,.slice Ad x.ds.length cd,.slice Aa x.ats.length ca⟩])/\Below B w3 (wa.setCell ⟨rb,1,none⟩ (.slice A1 (ys.length+1) c1'))/\du rb (Value.slice An ys.length cn) (.slice A1 (ys.length+1) c1') w3 (wa.setCell ⟨rb,1,none⟩ (.slice A1 (ys.length+1) c1'))):=by
    have hgrw:=HGR1.out;have hown:=HOW1.out;rw[<-ch,hyn]at hown;refine⟨H3.out.laid (HKP.out _ wa hgrw) hown HX3.out hdi,?_,fun b hb hbr hbn => ?_,fun b hb => ?_,?_⟩
    ·exact((((ae B w3).drew.alloc hBs3 _).grown hgrw (by simp;omega) (fun k hk=>(HRN.out.lt k hk).1))).setCell (p:=⟨rb,1,none⟩) H3.out.lo _
    ·rw[ao _ _ _ _ hbr]
     exact HKP.out _ wa hgrw b hb hbn
    ·rcases HAT1.out with h1|h1
     ·exact .inl (h1 ▸ hb)
     ·rw[h1]at hb
      simp only[al]at hb;exact .inr (by rw[<-hb];simp)
    ·have:=hgrw.size
     simp[World.setCell]at this ⊢;omega
   clear kc kf HKA HOW1 HGR1 HAT1
   go_wp2_with fail
   go_meet
   exact⟨_,HEND.out⟩
 case rest =>
  obtain⟨vn',hr,hbx,hel⟩:=hcut;obtain⟨_,k1,_,_,_⟩:=hr.cell;obtain⟨A2,c2',rfl,_,_⟩:=aP hr.rn;have hlen:(ys++[(⟨cy x o.node,.slice Ad x.ds.length cd,.slice Aa x.ats.length ca⟩ : Ny)]).length=ys.length+1:=by simp
  rw[hlen]at k1;have HR:=aa hr;have HBX:=aa hbx;have HEL:=aa hel;have hmm:((ys.length+1:Nat):Int)-1=(ys.length:Int):=by omega
  clear hr hbx hel hlen p0 p1 p2 p3 p4 p5 p6 p7 hzf c1;go_wp2;go_ret;exact⟨rfl,⟨_,HR.out,(du.of_below HB3.out).trans HEL.out⟩,(HB3.out.mono hBs).trans HBX.out⟩
def m9(t:List UInt8):Nd:=⟨2,0,⟨#[]⟩,⟨#[]⟩,⟨#[]⟩,ba t,[],[]⟩
def ed(st:Rd)(o:Po):Rd:={ st with ns:=st.ns++(if st.tx=[]then[]else[cy (m9 st.tx) o.node]),tx:=[] }
theorem eH.set4{w:World}{B rb:Nat}{st:Rd}{vn vo vd vt:Value}{ys:List Ny}(h:eH w B rb st vn vo vd vt ys){v:Value}{t:List UInt8}(hv:(w.setCell ⟨rb,4,none⟩ v).ownsRow B 5 1 v t.length (ec t)):eH (w.setCell ⟨rb,4,none⟩ v) B rb { st with tx:=t } vn vo vd v ys:=by
 have hset:∀(b:Nat) (e:TypeId) (cs:Array Value),e≠90->w.heap[b]? = some (.cells cs e (0,0))->(w.setCell ⟨rb,4,none⟩ v).heap[b]? = w.heap[b]?:=fun b e cs he hb=>ao _ _ _ _ (br hb h.box he);exact⟨h.lo,by rw[aL h.box];rfl,h.ns,aR h.rn (fun b _ ⟨cs,hc⟩=>hset b _ cs (by decide) hc),aR h.ro (fun b _ ⟨cs,hc⟩=>hset b _ cs (by decide) hc),aR h.rd (fun b _ ⟨cs,hc⟩=>hset b _ cs (by decide) hc),hv,fun y hy=>⟨aR (h.ry y hy).1 (fun b _ ⟨cs,hc⟩=>hset b _ cs (by decide) hc),aR (h.ry y hy).2 (fun b _ ⟨cs,hc⟩=>hset b _ cs (by decide) hc)⟩,h.di⟩
theorem du.set{rb:Nat}{v v':Value}{w w':World}(h:du rb v v' w w')(j:Nat)(u:Value):du rb v v' w (w'.setCell ⟨rb,j,none⟩ u):=⟨fun b hb hr hn=>(ao _ _ _ _ hr).trans (h.els b hb hr hn),h.new,by simp[World.setCell];exact h.size⟩
theorem nW(w:World)(B rb:Nat)(st:Rd)(vn vo vd vt:Value)(ys:List Ny)(fr:List Po)(o:Po)(ho:st.op=fr++[o])(hfr:fr.length<=1000000)(hys:ys.length<=1000000)(htx:st.tx.length<=1000000)(h:eH w B rb st vn vo vd vt ys) :
 Calls Tryz.prog 167 #[.pointer (some ⟨rb,0,none⟩)] w fun e w'=>e=.returned (.tuple #[])/\(∃vn' ys',eH w' B rb (ed st o) vn' vo vd (.slice none 0 0) ys'/\du rb vn vn' w w')/\Below B w w':=by
 have H:=aa h;have hrl:=au h.box;have hBs:B<=w.heap.size:=ag h.lo (be hrl);obtain⟨_,_,_,_,c4⟩:=h.cell;obtain⟨At,ct,rfl,_,_⟩:=aP h.rt;have hfz:=h.frozen;have hlies:=(pE h.rt);obtain⟨A',cap',e',_,_,hl',_⟩:=hlies;simp only[aK]at e';obtain⟨rfl,-,rfl⟩:=e';have hcv:=cF (w:=w) ct hl';have htl:=htx;cases htn:st.tx with
 |nil =>
  have hz:st.tx.length=0:=by rw[htn];rfl
  rw[hz]at c4
  have hEND:eH (w.setCell ⟨rb,4,none⟩ (.slice none 0 0)) B rb (ed st o) vn vo vd (.slice none 0 0) ys:=by
   have:=h.set4 (v:=.slice none 0 0) (t:=[]) (aQ _ _ _ _);have e:ed st o={ st with tx:=[] }:=by unfold ed;rw[av htn,bo]
   rw[e];exact this
  have HE:=aa hEND;have HG:Hid (du rb vn vn w (w.setCell ⟨rb,4,none⟩ (.slice none 0 0))/\Below B w (w.setCell ⟨rb,4,none⟩ (.slice none 0 0))):=⟨(du.of_below (ae _ _)).set 4 _,(ae _ _).setCell (p:=⟨rb,4,none⟩) h.lo _⟩;clear h hEND htn hl' hcv;go_enter Tryz.func167,Tryz.ntmps167;go_wp2
  go_end0
  exact⟨rfl,⟨vn,ys,HE.out,HG.out.1⟩,HG.out.2⟩
 |cons c t =>
  have h0:(0:Int)<(st.tx.length:Int):=by rw[htn];simp
  have HLAY:=aa (yM w B rb st vn vo vd (.slice At st.tx.length ct) ys fr o (m9 st.tx) (.slice none 0 0) (.slice none 0 0) ho hfr hys h ⟨aQ _ _ _ _,aQ _ _ _ _⟩ (.inl rfl));have hET:ed st o={ st with ns:=st.ns++[cy (m9 st.tx) o.node],tx:=[] }:=by unfold ed;rw[am (by rw[htn];simp)]
  rw[hET];have hcv':(convert 22 9 (.slice At st.tx.length ct)).run Tryz.prog w=.ok (.string (ba st.tx)) w:=hcv;clear h htn hl' hcv hET;go_enter Tryz.func167,Tryz.ntmps167
  go_wp2_with fail
  refine HLAY.out.mono ?_;rintro e w1⟨rfl,⟨vn',hr,hg⟩,hb⟩;have k4:=hr.cell.2.2.2.2;have kf:=hr.frozen;have HEND:Hid (eH (w1.setCell ⟨rb,4,none⟩ (.slice none 0 0)) B rb { st with ns:=st.ns++[cy (m9 st.tx) o.node],tx:=[] } vn' vo vd (.slice none 0 0) (ys++[⟨cy (m9 st.tx) o.node,.slice none 0 0,.slice none 0 0⟩])):=hr.set4 (v:=.slice none 0 0) (t:=[]) (aQ _ _ _ _);have HG:Hid (du rb vn vn' w (w1.setCell ⟨rb,4,none⟩ (.slice none 0 0))/\Below B w (w1.setCell ⟨rb,4,none⟩ (.slice none 0 0))):=⟨hg.set 4 _,hb.setCell (p:=⟨rb,4,none⟩) hr.lo _⟩;clear hr hg hb hcv' HLAY;go_wp2
  go_end0
  exact⟨rfl,⟨_,_,HEND.out,HG.out.1⟩,HG.out.2⟩
def iw(st:Rd)(o:Po)(x:Nd):Rd:={ ed st o with ns:=(ed st o).ns++[cy x o.node] }
theorem eH.nlen{w:World}{B rb:Nat}{st:Rd}{vn vo vd vt:Value}{ys:List Ny}(h:eH w B rb st vn vo vd vt ys):ys.length=st.ns.length:=by rw[<-h.ns,bN]
theorem mv(st:Rd)(o:Po):(ed st o).ns.length<=st.ns.length+1:=by
 unfold ed
 split<;>simp
theorem oT(w:World)(B rb:Nat)(st:Rd)(vn vo vd vt:Value)(ys:List Ny)(fr:List Po)(o:Po)(x:Nd)(vD vA:Value)(ho:st.op=fr++[o])(hfr:fr.length<=1000000)(hns:st.ns.length<=900000)(htx:st.tx.length<=1000000)(h:eH w B rb st vn vo vd vt ys)(hx:qL w B ⟨x,vD,vA⟩)(hdi:vD.ownBlock=none∨vD.ownBlock≠vd.ownBlock) :
 Calls Tryz.prog 128 #[.pointer (some ⟨rb,0,none⟩),.agg #[.int .i64 x.k,.int .i64 x.n,.string x.p,.string x.l,.string x.u,.string x.t,vD,vA]] w fun e w'=>e=.returned (.int .i64 ((ed st o).ns.length:Int)) /\
  (∃vn' ys',eH w' B rb (iw st o x) vn' vo vd (.slice none 0 0) ys'/\du rb vn vn' w w')/\Below B w w':=by
 have H:=aa h;have HX:=aa hx;have hrl:=au h.box;have hBs:B<=w.heap.size:=ag h.lo (be hrl);obtain⟨Ad,cd,rfl,_,_⟩ : ∃A c,vD=.slice A x.ds.length c/\x.ds.length<=c/\c<=9223372036854775807:=aP hx.1;obtain⟨Aa,ca,rfl,_,_⟩ : ∃A c,vA=.slice A x.ats.length c/\x.ats.length<=c/\c<=9223372036854775807:=aP hx.2;obtain⟨xb,hxb⟩ : ∃xb,w.heap.size=xb:=⟨_,rfl⟩;obtain⟨w1,hw1⟩ : ∃w1,w.alloc (Obj.cells #[.int .i64 x.k,.int .i64 x.n,.string x.p,.string x.l,.string x.u,.string x.t,.slice Ad x.ds.length cd,.slice Aa x.ats.length ca] 42)=w1:=⟨_,rfl⟩;have hb1:Below w.heap.size w w1:=by rw[<-hw1];exact(ae _ _).alloc (af _) _
 have hbx1:w1.heap[xb]? = some (.cells #[.int .i64 x.k,.int .i64 x.n,.string x.p,.string x.l,.string x.u,.string x.t,.slice Ad x.ds.length cd,.slice Aa x.ats.length ca] 42 (0,0)):=by rw[<-hw1,<-hxb];exact ar w _
 have hyl:=h.nlen;have HET:=aa (nW w1 B rb st vn vo vd vt ys fr o ho hfr (by omega) htx (h.below hb1))
 have hnb:vn.ownBlock≠some xb:=fun e=>by have:=(h.rn.lt xb e).2;omega
 have hrx:xb≠rb:=by omega
 have HNB:=aa hnb;have HB1:=aa hb1;have HBX1:=aa hbx1;have HW1:=aa hw1;have HXB:=aa hxb;clear hb1 hbx1 hw1 hxb h hx hnb hyl;go_enter Tryz.func128,Tryz.ntmps128
 go_wp2_with fail
 rw[HW1.out,HXB.out];refine HET.out.mono ?_;rintro e w2⟨rfl,⟨vn',ys',hr2,hg2⟩,hb2⟩;have hbx2:=(hg2.els xb (au HBX1.out) hrx HNB.out).trans HBX1.out;have p0:w2.cell? ⟨xb,0,none⟩=some (.int .i64 x.k):=by rw[ai w2 xb 0 _ _ _ hbx2];rfl
 have p1:w2.cell? ⟨xb,1,none⟩=some (.int .i64 x.n):=by rw[ai w2 xb 1 _ _ _ hbx2];rfl
 have p2:w2.cell? ⟨xb,2,none⟩=some (.string x.p):=by rw[ai w2 xb 2 _ _ _ hbx2];rfl
 have p3:w2.cell? ⟨xb,3,none⟩=some (.string x.l):=by rw[ai w2 xb 3 _ _ _ hbx2];rfl
 have p4:w2.cell? ⟨xb,4,none⟩=some (.string x.u):=by rw[ai w2 xb 4 _ _ _ hbx2];rfl
 have p5:w2.cell? ⟨xb,5,none⟩=some (.string x.t):=by rw[ai w2 xb 5 _ _ _ hbx2];rfl
 have p6:w2.cell? ⟨xb,6,none⟩=some (.slice Ad x.ds.length cd):=by rw[ai w2 xb 6 _ _ _ hbx2];rfl
 have p7:w2.cell? ⟨xb,7,none⟩=some (.slice Aa x.ats.length ca):=by rw[ai w2 xb 7 _ _ _ hbx2];rfl
 have hyl2:=hr2.nlen
 have hx2:qL w2 B ⟨x,.slice Ad x.ds.length cd,.slice Aa x.ats.length ca⟩:=by
  have h1:qL w1 B ⟨x,.slice Ad x.ds.length cd,.slice Aa x.ats.length ca⟩:=⟨dh HX.out.1 HB1.out,dh HX.out.2 HB1.out⟩;have hn1:=(H.out.below HB1.out).rn;have hbr1:=(H.out.below HB1.out).box;refine⟨aR h1.1 (fun b hb ⟨cs,hc⟩=>hg2.els b (au hc) (br hc hbr1 (by decide)) (fun e => ?_)),aR h1.2 (fun b hb ⟨cs,hc⟩=>hg2.els b (au hc) (br hc hbr1 (by decide)) (fun e => ?_))⟩
  ·rcases i9 h1.1 hn1 (by decide)with h0|h0
   ·rw[hb]at h0;cases h0
   ·exact h0 (hb.trans e.symm)
  ·rcases i9 h1.2 hn1 (by decide)with h0|h0
   ·rw[hb]at h0;cases h0
   ·exact h0 (hb.trans e.symm)
 have hlen2:=mv st o;have HLAY:=aa (yM w2 B rb (ed st o) vn' vo vd (.slice none 0 0) ys' fr o x (.slice Ad x.ds.length cd) (.slice Aa x.ats.length ca) ho hfr (by omega) hr2 hx2 hdi)
 have HYL:=aa hyl2;have HG2:=aa hg2;have HB2:=aa hb2;clear hbx2 hr2 hg2 hb2 hx2 hyl2 hlen2
 go_wp2_with fail
 refine HLAY.out.mono ?_;rintro e w3⟨rfl,⟨vn2,hr3,hg3⟩,hb3⟩;have HR3:=aa hr3;have HG3:=aa hg3;clear hr3 hg3;go_wp2;go_ret;refine⟨by rw[<-HYL.out];rfl,⟨_,_,HR3.out,((du.of_below HB1.out).trans HG2.out).trans HG3.out⟩,((HB1.out.mono hBs).trans HB2.out).trans hb3⟩
theorem Wd.low{w w':World}{B:Nat}(h:Wd w)(hB : 8<=B)(hb:Below B w w'):Wd w' :=
 ⟨h.tabs.below (by omega) hb,h.max.below (by omega) hb,fun p hp=>(hb.cell (p:=⟨3,p.1,none⟩) (by show 3 < B;omega)).trans (h.fold p hp)⟩
structure iV(st:Rd):Prop where
 rest:st.rest.length<=100000
 ns:st.ns.length<=900000
 op:st.op.length<=900000
 ds:st.ds.length<=900000
 tx:st.tx.length<=1000000
def jn(t:List UInt8):Nd:=⟨3,0,⟨#[]⟩,⟨#[]⟩,⟨#[]⟩,ba t,[],[]⟩
theorem tN(w:World)(B rb:Nat)(st:Rd)(fr:List Po)(o:Po)(ho:st.op=fr++[o])(hf:iV st)(h:dS w B rb st)(hB : 8<=B)(hW:Wd w)(p r:List UInt8)(hc:cW [45,45,62] st.rest=some (p,r)) :
 Calls Tryz.prog 88 #[.pointer (some ⟨rb,0,none⟩)] w fun e w'=>e=.returned (.bool true)/\dS w' B rb (iw { st with rest:=r } o (jn p))/\Below B w w':=by
 obtain⟨vn,vo,vd,vt,ys,h⟩:=h;have hfr:fr.length<=1000000:=by have:=hf.op;rw[ho,aj]at this;simp at this;omega
 have hBs:B<=w.heap.size:=ag h.lo (be (au h.box));have HT:=aa (fV st.rest [45,45,62] p r rb w h.curAt hW.max (by have:=hf.rest;omega) hc)
 have HADD:Hid (∀w1,dK rb (ba r) w w1->_):=fun w1 hcur=>oT w1 B rb { st with rest:=r } vn vo vd vt ys fr o (jn p) (.slice none 0 0) (.slice none 0 0) ho hfr hf.ns hf.tx (h.cur hcur) ⟨aQ _ _ _ _,aQ _ _ _ _⟩ (.inl rfl);have HLO:=aa h.lo;clear h hc hW ho;go_enter Tryz.func88,Tryz.ntmps88
 go_wp2_with fail
 refine HT.out.mono ?_;rintro e w1⟨rfl,hc1⟩;have HC1:=aa hc1;clear hc1
 go_wp2_with fail
 refine(HADD.out w1 HC1.out).mono ?_;rintro e w2⟨rfl,⟨vn',ys',hr,hg⟩,hb⟩;have HR:=aa hr;have HB2:=aa ((HC1.out.below HLO.out hBs).trans hb);clear hr hg hb;go_wp2;go_ret;exact⟨rfl,⟨_,_,_,_,_,HR.out⟩,HB2.out⟩
theorem tP(w:World)(B rb:Nat)(st:Rd)(fr:List Po)(o:Po)(ho:st.op=fr++[o])(hf:iV st)(h:dS w B rb st)(hB : 8<=B)(hW:Wd w)(hc:cW [45,45,62] st.rest=none) :
 Calls Tryz.prog 88 #[.pointer (some ⟨rb,0,none⟩)] w fun e w'=>e=.returned (.bool false)/\Below B w w':=by
 obtain⟨vn,vo,vd,vt,ys,h⟩:=h;have hfr:fr.length<=1000000:=by have:=hf.op;rw[ho,aj]at this;simp at this;omega
 have hBs:B<=w.heap.size:=ag h.lo (be (au h.box));have HT:=aa (fW st.rest [45,45,62] rb w h.curAt hW.max (by have:=hf.rest;omega) hc)
 have HADD:Hid (∀w1,dK rb (ba st.rest) w w1->_):=fun w1 hcur=>oT w1 B rb { st with rest:=st.rest } vn vo vd vt ys fr o (jn []) (.slice none 0 0) (.slice none 0 0) ho hfr hf.ns hf.tx (h.cur hcur) ⟨aQ _ _ _ _,aQ _ _ _ _⟩ (.inl rfl);have HLO:=aa h.lo;clear h hc hW ho;go_enter Tryz.func88,Tryz.ntmps88
 go_wp2_with fail
 refine HT.out.mono ?_;rintro e w1⟨rfl,hc1⟩;have HC1:=aa hc1;clear hc1
 go_wp2_with fail
 refine(HADD.out w1 HC1.out).mono ?_;rintro e w2⟨rfl,⟨vn',ys',hr,hg⟩,hb⟩;have HB2:=aa ((HC1.out.below HLO.out hBs).trans hb);clear hr hg hb;go_wp2;go_ret;exact⟨rfl,HB2.out⟩
theorem oQ{w:World}{ops:Array Oper}{rest:List Oper}{o:Oper}{a:Act}{Q:Exit->Act->World->Prop}(hgd:o.guard=none)(s x:Operand)
 (ho:o.op=.call { callee:=.builtin .append,args:=#[s,x],argTypes:=#[22,9] }) (B:Nat) (l:List UInt8) (v:Value) (hs:a.eval s=v) (hown:w.ownsRow B 5 1 v l.length (ec l)) (hB:B<=w.heap.size)
 (S:ByteArray) (hx:a.eval x=.string S) (hn:l.length+S.size<=1000000000)
 (h:∀v' w',w'.ownsRow B 5 1 v' (l.length+S.size) (ec (l++S.data.toList))->w.grownBy w' v.ownBlock->wpList Tryz.prog ops Q rest (a.put o.dst v') w'):wpList Tryz.prog ops Q (o::rest) a w:=by
 refine wpList_plain hgd fun K hK => ?_;obtain⟨i0,hi,hz0,hz1,hz2⟩:=info_parts oM;obtain⟨v',w',hr,h2,h3,_⟩:=Lib.run_append_own_string (P:=Tryz.prog) w B 22 9 o.type 5 i0 Tryz.underlying22 Tryz.underlying9 hi hz0 hz1 hz2 v l.length (ec l) hown S (by unfold maxLen;omega) (by omega) hB
 have e:ec l++Lib.strCells S=ec (l++S.data.toList):=by rw[jx];rfl
 rw[e]at h2;unfold Oper.wp execOp;simp only[ho,resolve,invoke,builtin,Sem.run_bind,Sem.run_pure,Result.andThen_ok,List.map_toArray,List.map_cons,List.map_nil,hs,hx,hr];exact hK _ _ (h v' w' h2 h3)
theorem eH.texted{w w1:World}{B rb:Nat}{st:Rd}{vn vo vd vt v1:Value}{ys:List Ny}{t:List UInt8}(h:eH w B rb st vn vo vd vt ys)(hoth:∀b,b<w.heap.size->vt.ownBlock≠some b->w1.heap[b]? = w.heap[b]?)(hown:w1.ownsRow B 5 1 v1 t.length (ec t)):eH (w1.setCell ⟨rb,4,none⟩ v1) B rb { st with tx:=t } vn vo vd v1 ys:=by
 have hrb:w1.heap[rb]? = w.heap[rb]?:=hoth rb (au h.box) (fun e1=>by
  obtain⟨_,⟨e2,_⟩|⟨g,cap,cur,e2,_,hh,_⟩⟩:=h.rt
  ·rw[e2]at e1;simp[Value.ownBlock]at e1
  ·rw[e2]at e1
   simp only[Value.ownBlock,al]at e1;rw[e1,h.box]at hh;simp at hh)
 have keep:∀{e s n:Nat} {v:Value} {xs:List Value},e≠5->w.ownsRow B e s v n xs->w1.ownsRow B e s v n xs:=fun {e s n v xs} he ho=>aR ho (fun b hb ⟨cs,hc⟩=>hoth b (au hc) (fun e0=>by
  rcases i9 ho h.rt he with h0|h0
  ·rw[hb]at h0;cases h0
  ·exact h0 (hb.trans e0.symm)))
 have hset:∀(b:Nat) (e:TypeId) (cs:Array Value),e≠90->w1.heap[b]? = some (.cells cs e (0,0))->(w1.setCell ⟨rb,4,none⟩ v1).heap[b]? = w1.heap[b]?:=fun b e cs he hb=>ao _ _ _ _ (br hb (hrb.trans h.box) he);have keep2:∀{e s n:Nat} {v:Value} {xs:List Value},e≠5->e≠90->w.ownsRow B e s v n xs->(w1.setCell ⟨rb,4,none⟩ v1).ownsRow B e s v n xs:=fun {e s n v xs} he he2 ho=>aR (keep he ho) (fun b _ ⟨cs,hc⟩=>hset b _ cs he2 hc)
 exact⟨h.lo,by rw[aL (hrb.trans h.box)];rfl,h.ns,keep2 (by decide) (by decide) h.rn,keep2 (by decide) (by decide) h.ro,keep2 (by decide) (by decide) h.rd,aR hown (fun b _ ⟨cs,hc⟩=>hset b _ cs (by decide) hc),
  fun y hy=>⟨keep2 (by decide) (by decide) (h.ry y hy).1,keep2 (by decide) (by decide) (h.ry y hy).2⟩,h.di⟩
theorem eH.grown4{w w1:World}{B rb:Nat}{st:Rd}{vn vo vd vt:Value}{ys:List Ny}(h:eH w B rb st vn vo vd vt ys)(hg:w.grownBy w1 vt.ownBlock):w1.heap[rb]? = w.heap[rb]?:=hg.block rb (au h.box) (fun e=>by
 obtain⟨_,⟨e2,_⟩|⟨g,cap,cur,e2,_,hh,_⟩⟩:=h.rt
 ·rw[e2]at e;simp[Value.ownBlock]at e
 ·rw[e2]at e
  simp only[Value.ownBlock,al]at e;rw[<-e,h.box]at hh;simp at hh)
theorem Bg(w:World)(B rb:Nat)(st:Rd)(hf:iV st)(h:dS w B rb st)(hW:Wd w)(p r:List UInt8)(hc:cW [93,93,62] st.rest=some (p,r)) :
 Calls Tryz.prog 89 #[.pointer (some ⟨rb,0,none⟩)] w fun e w'=>e=.returned (.bool (!decide (st.op.length=1)))/\dS w' B rb { st with rest:=r,tx:=st.tx++p }/\Below B w w':=by
 obtain⟨vn,vo,vd,vt,ys,h⟩:=h;have hBs:B<=w.heap.size:=ag h.lo (be (au h.box));have hpl:=(dW hc).1;have hrl:=hf.rest;have htl:=hf.tx;have HT:=aa (fV st.rest [93,93,62] p r rb w h.curAt hW.max (by have:=hf.rest;omega) hc)
 have H:=aa h;obtain⟨At,ct,rfl,_,_⟩:=aP h.rt;have hps:(ba p).size=p.length:=cV p;clear h hc hW hf;go_enter Tryz.func89,Tryz.ntmps89
 go_wp2_with fail
 refine HT.out.mono ?_;rintro e w1⟨rfl,hc1⟩;have H1:=aa (H.out.cur hc1);have HB1:=aa (hc1.below H.out.lo hBs);have hBs1:B<=w1.heap.size:=ag hBs hc1.size;have k4:=H1.out.cell.2.2.2.2;have kf:=H1.out.frozen;have HRT:=aa H1.out.rt;clear hc1
 go_wp2_with (first
  |(at_builtin;refine oQ rfl (.tmp 16) (.tmp 17) rfl B st.tx (.slice At st.tx.length ct) rfl HRT.out hBs1 (ba p) rfl (by omega) ?_;intro v1 wa hown hgrow;have hka:=(H1.out.grown4 hgrow).trans H1.out.box;have kc:wa.cell? ⟨rb,4,none⟩=some (.slice At st.tx.length ct):=(by rw[ai wa rb 4 _ _ _ hka];rfl);have kfa:wa.frozen? ⟨rb,4,none⟩=false:=(by unfold World.frozen?;rw[hka];simp);have HOWN:=aa hown;have HGR:=aa hgrow;obtain⟨A1,c1,rfl,_,_⟩:=aP hown;clear hown hgrow hka)
  |fail)
 have hown':wa.ownsRow B 5 1 (.slice A1 (st.tx.length+(ba p).size) c1) (st.tx++p).length (ec (st.tx++p)):=by
  have:=HOWN.out;rw[bp]at this;rw[aj,<-hps];exact this
 have hbg:Below B w1 wa:=(ae B w1).grown HGR.out hBs1 (fun k hk=>(HRT.out.lt k hk).1);have HR:=aa (H1.out.texted (fun b hb hne=>HGR.out.block b hb (fun e=>hne e.symm)) hown');have HB2:=aa ((HB1.out.trans hbg).setCell (p:=⟨rb,4,none⟩) H.out.lo (.slice A1 (st.tx.length+(ba p).size) c1));clear hown' hbg k4 kf kc kfa
 go_wp2_with fail
 refine(eM _ B rb _ ⟨_,_,_,_,_,HR.out⟩).mono ?_;rintro e w3⟨rfl,hw⟩;rw[hw];clear hw;go_wp2;go_ret;exact⟨rfl,⟨_,_,_,_,_,HR.out⟩,HB2.out⟩
theorem Bi(w:World)(B rb:Nat)(st:Rd)(hf:iV st)(h:dS w B rb st)(hW:Wd w)(hc:cW [93,93,62] st.rest=none) :
 Calls Tryz.prog 89 #[.pointer (some ⟨rb,0,none⟩)] w fun e w'=>e=.returned (.bool false)/\Below B w w':=by
 obtain⟨vn,vo,vd,vt,ys,h⟩:=h;have hBs:B<=w.heap.size:=ag h.lo (be (au h.box));have htl:=hf.tx;have HT:=aa (fW st.rest [93,93,62] rb w h.curAt hW.max (by have:=hf.rest;omega) hc)
 have H:=aa h;obtain⟨At,ct,rfl,_,_⟩:=aP h.rt;clear h hc hW hf;go_enter Tryz.func89,Tryz.ntmps89
 go_wp2_with fail
 refine HT.out.mono ?_;rintro e w1⟨rfl,hc1⟩;have H1:=aa (H.out.cur hc1);have HB1:=aa (hc1.below H.out.lo hBs);have hBs1:B<=w1.heap.size:=ag hBs hc1.size;have k4:=H1.out.cell.2.2.2.2;have kf:=H1.out.frozen;have HRT:=aa H1.out.rt;clear hc1
 go_wp2_with (first
  |(at_builtin;refine oQ rfl (.tmp 16) (.tmp 17) rfl B st.tx (.slice At st.tx.length ct) rfl HRT.out hBs1 ⟨#[]⟩ rfl (by show _+0<=_;omega) ?_;intro v1 wa hown hgrow;have hka:=(H1.out.grown4 hgrow).trans H1.out.box;have kc:wa.cell? ⟨rb,4,none⟩=some (.slice At st.tx.length ct):=(by rw[ai wa rb 4 _ _ _ hka];rfl);have kfa:wa.frozen? ⟨rb,4,none⟩=false:=(by unfold World.frozen?;rw[hka];simp);have HOWN:=aa hown;have HGR:=aa hgrow;obtain⟨A1,c1,rfl,_,_⟩:=aP hown;clear hown hgrow hka)
  |fail)
 have hbg:Below B w1 wa:=(ae B w1).grown HGR.out hBs1 (fun k hk=>(HRT.out.lt k hk).1);have HB2:Hid (∀v,Below B w (wa.setCell ⟨rb,4,none⟩ v)):=fun v=>(HB1.out.trans hbg).setCell (p:=⟨rb,4,none⟩) H.out.lo v;clear hbg k4 kf kc kfa;go_wp2;go_ret;exact⟨rfl,HB2.out _⟩
end Go.Proofs.YteinegfbpfhflaaGreatDoor
