/-
  parse.reader: begin. Conditions: the reader lies as it is; something is open; nothing is too long.
  parse.reader: end. Conditions: the reader lies as it is; an element is open; nothing is too long.
  parse.reader: startTag. Conditions: the reader lies as it is; nothing is too long; upTo answers what it is to answer.
-/
import Derived.Test.YtlgcigmolfhamaaGreatDoorK23
import Derived.StillTailTactics
import Derived.Test.YtlgcigmolfhamaaGreatDoorK30
namespace Go.Proofs.YtlgcigmolfhamaaGreatDoor
open Go.RowKit
set_option linter.unusedVariables false
set_option maxRecDepth 100000
set_option maxHeartbeats 32000000
def xC(x:Nd)(u:ByteArray)(vD vA:Value):Array Value:=#[.int .i64 x.k,.int .i64 x.n,.string x.p,.string x.l,.string u,.string x.t,vD,vA]
def b1C(w0:World)(B rb xb:Nat)(st:Rd)(vn vo vd vt:Value)(ys:List Ny)(x:Nd)(U:ByteArray)(vD vA:Value)(i:Value)(wr:World):Prop :=
 ∃k:Nat,k<=x.ats.length/\i=.int .i64 k/\S7 wr B rb st vn vo vd vt ys/\wr.heap[xb]? = some (.cells (xC x U vD vA) 46 (0,0))/\a0X wr B ys vd vD vA x.ds ((x.ats.take k).map (a1I st.ds)++x.ats.drop k)/\Below B w0 wr/\w0.heap.size<=wr.heap.size
theorem a6u(w:World)(B rb:Nat)(st:Rd)(vn vo vd vt:Value)(ys:List Ny)(fr:List Po)(o:Po)(x:Nd)(vD vA:Value)(full:List UInt8)(ho:st.op=fr++[o])(hf:a1J st)(X0:x.ds.length<=100000)(X1:x.ats.length<=100000)(h:S7 w B rb st vn vo vd vt ys)(hx:a0X w B ys vd vD vA x.ds x.ats) :
 Calls Tryz.prog 161 #[.pointer (some ⟨rb,0,none⟩),.agg #[.int .i64 x.k,.int .i64 x.n,.string x.p,.string x.l,.string x.u,.string x.t,vD,vA],.string (ba full)] w fun e w'=>e=.returned (.tuple #[])/\O8 w' B rb (a1s st o x full)/\Below B w w':=by
 have H:=a8 h;have HX:=a8 hx;have HF:=a8 hf;have S4:fr.length<=1000000:=by have:=hf.op;rw[ho,e8]at this;simp at this;omega
 have X2:=hf.ds;obtain⟨Ad,cd,rfl,_,_⟩:=q9 hx.rD;obtain⟨Aa,ca,rfl,S5,S6⟩:=q9 hx.rA;obtain⟨An,cn,rfl,_,_⟩:=q9 h.rd;have S8:=i3 h.box;have L0:B<=w.heap.size:=d8 h.lo (A6 S8);obtain⟨xb,N0⟩ : ∃xb,w.heap.size=xb:=⟨_,rfl⟩;obtain⟨w1,M7⟩ : ∃w1,w.alloc (Obj.cells #[.int .i64 x.k,.int .i64 x.n,.string x.p,.string x.l,.string x.u,.string x.t,.slice Ad x.ds.length cd,.slice Aa x.ats.length ca] 46)=w1:=⟨_,rfl⟩;have L1:Below w.heap.size w w1:=by rw[<-M7];exact(b8 _ _).alloc (c9 _) _
 have J2:w1.heap[xb]? = some (.cells #[.int .i64 x.k,.int .i64 x.n,.string x.p,.string x.l,.string x.u,.string x.t,.slice Ad x.ds.length cd,.slice Aa x.ats.length ca] 46 (0,0)):=by rw[<-M7,<-N0];exact g9 w _
 have h1:=h.below L1;have P4:a0X w1 B ys (.slice An st.ds.length cn) (.slice Ad x.ds.length cd) (.slice Aa x.ats.length ca) x.ds x.ats:=⟨L3 hx.rD L1,L3 hx.rA L1,hx.dd,hx.yd,hx.ya⟩;have P5:vn.ownBlock≠some xb:=fun e=>by have:=(h.rn.lt xb e).2;omega
 have S9:xb≠rb:=by omega
 obtain⟨_,_,_,c3,_⟩:=h1.cell;have T0:=h1.frozen;have p6:w1.cell? ⟨xb,6,none⟩=some (.slice Ad x.ds.length cd):=by rw[d9 w1 xb 6 _ _ _ J2];rfl
 have H1:=a8 h1;have P6:=a8 P4;have T1:=a8 P5;have P7:=a8 L1;have J3:=a8 J2;have T2:=a8 M7;have N1:=a8 N0;have HO:=a8 ho;clear L1 J2 M7 N0 h hx P5 h1 P4 hf ho;go_enter Tryz.func161,Tryz.ntmps161
 go_upto_region 1 with fail
 rw[T2.out,N1.out]
 go_upto_region 2 with fail
 go_cut [] (fun wx => ∃vd',S7 wx B rb { st with ds:=st.ds++x.ds } vn vo vd' vt ys/\wx.heap[xb]? = some (.cells #[.int .i64 x.k,.int .i64 x.n,.string x.p,.string x.l,.string x.u,.string x.t,.slice Ad x.ds.length cd,.slice Aa x.ats.length ca] 46 (0,0))/\a0X wx B ys vd' (.slice Ad x.ds.length cd) (.slice Aa x.ats.length ca) x.ds x.ats/\Below B w1 wx)
 case first =>
  obtain⟨i0,T3,T4,T5,T6⟩:=info_parts a0W;have J4:=a8 H1.out.rd;have L2:B<=w1.heap.size:=d8 L0 P7.out.size;have T7:Hid (R1 w1.drew w1.heap.size (.slice Ad x.ds.length cd) x.ds.length (x.ds.flatMap C1)):=a1R P6.out.rD
  go_region_law? (refine U3 (P:=Tryz.prog) rfl (.tmp 19) (.tmp 21) 31 rfl B 34 i0 _ 2 _ Tryz.underlying31 T3 T4 T5 T6 rfl (by omega) (.slice An st.ds.length cn) st.ds.length (st.ds.flatMap C1) rfl J4.out.drew x.ds.length (.slice Ad x.ds.length cd) rfl (x.ds.flatMap C1) (b4g (k:=2) T7.out (by decide) (N2 (f:=C1) (c:=2) (fun _=>rfl) _)) (N2 (f:=C1) (c:=2) (fun _=>rfl) _) (b9b _) (by unfold maxLen;omega) (by omega) L2 ?_;intro v1 wa E3 D3 L4;have E7:=(D3.block rb (i3 H1.out.box) (fun e=>a3I J4.out H1.out.box (by decide) e.symm)).trans H1.out.box;have kc:wa.cell? ⟨rb,3,none⟩=some (.slice An st.ds.length cn):=(by rw[d9 wa rb 3 _ _ _ E7];rfl);have kf:wa.frozen? ⟨rb,3,none⟩=false:=(by unfold World.frozen?;rw[E7];simp);have L5:=a8 E3;have J5:=a8 D3;have J6:=a8 L4;obtain⟨A1,c1',rfl,_,_⟩:=q9 E3;clear E7 E3 D3 L4)
  all_goals
   have N3:Hid (S7 (wa.setCell ⟨rb,3,none⟩ (.slice A1 (st.ds.length+x.ds.length) c1')) B rb { st with ds:=st.ds++x.ds } vn vo (.slice A1 (st.ds.length+x.ds.length) c1') vt ys/\(wa.setCell ⟨rb,3,none⟩ (.slice A1 (st.ds.length+x.ds.length) c1')).heap[xb]? = some (.cells #[.int .i64 x.k,.int .i64 x.n,.string x.p,.string x.l,.string x.u,.string x.t,.slice Ad x.ds.length cd,.slice Aa x.ats.length ca] 46 (0,0))/\a0X (wa.setCell ⟨rb,3,none⟩ (.slice A1 (st.ds.length+x.ds.length) c1')) B ys (.slice A1 (st.ds.length+x.ds.length) c1') (.slice Ad x.ds.length cd) (.slice Aa x.ats.length ca) x.ds x.ats/\Below B w1 (wa.setCell ⟨rb,3,none⟩ (.slice A1 (st.ds.length+x.ds.length) c1'))):=by
    have D9:∀b,b<w1.heap.size->(Value.slice An st.ds.length cn).ownBlock≠some b->wa.heap[b]? = w1.heap[b]?:=fun b hb N4=>J5.out.block b hb (fun e=>N4 e.symm)
    have E0:wa.ownsRow B 34 2 (.slice A1 (st.ds.length+x.ds.length) c1') (st.ds++x.ds).length ((st.ds++x.ds).flatMap C1):=by
     rw[e8,D8];exact L5.out
    have E7:=(D9 rb (i3 H1.out.box) (a3I J4.out H1.out.box (by decide))).trans H1.out.box
    have hx:=P6.out;refine⟨H1.out.declared D9 E0 (fun y hy=>b0U (H1.out.ry y hy).1 J6.out (H1.out.di y hy)),?_,⟨R4 E7 (by decide) (J1 D9 J4.out (.inr hx.dd) hx.rD),R4 E7 (by decide) (J1 D9 J4.out (.inl (by decide)) hx.rA),b0U hx.rD J6.out hx.dd,hx.yd,hx.ya⟩,?_⟩
    ·rw[f7 _ _ _ _ (show xb≠rb from S9),D9 xb (i3 J3.out) (a2h J4.out J3.out (by decide))]
     exact J3.out
    ·exact((b8 B w1).drew.grown J5.out L2 (fun k hk=>(J4.out.lt k hk).1)).setCell (p:=⟨rb,3,none⟩) H1.out.lo _
   clear kc kf L5 J5 J6
   go_wp2_with fail
   go_meet
   exact⟨_,N3.out⟩
 case rest =>
  obtain⟨vd',hr,E8,E2,P8⟩:=hcut;have P9:=a8 hr;have J9:=a8 E2;have L6:=a8 P8;have L7:w.heap.size<wc.heap.size:=by rw[N1.out];exact i3 E8
  have R0:=a8 (a6t wc B rb { st with ds:=st.ds++x.ds } x.p ⟨_,_,_,_,_,hr⟩ (by show(st.ds++x.ds).length<=_;rw[e8];have:=HF.out.ds;omega))
  have p2:wc.cell? ⟨xb,2,none⟩=some (.string x.p):=by rw[d9 wc xb 2 _ _ _ E8];rfl
  have p4:wc.cell? ⟨xb,4,none⟩=some (.string x.u):=by rw[d9 wc xb 4 _ _ _ E8];rfl
  have pf:∀j,wc.frozen? ⟨xb,j,none⟩=false:=fun j=>by unfold World.frozen?;rw[E8];simp
  have G0:=a8 E8;clear hr E8 E2 P8 p6 T0 c3;obtain⟨U,hU⟩ : ∃U,a0l (st.ds++x.ds) x.p=U:=⟨_,rfl⟩;have HU:=a8 hU;rw[show a0l ({ st with ds:=st.ds++x.ds }:Rd).ds x.p=U from hU]at R0;clear hU
  go_upto_region 3 with fail
  go_wp2_with fail
  refine R0.out.mono ?_;rintro e w3⟨rfl,hw⟩;rw[hw];clear hw
  go_upto_region 4 with fail
  obtain⟨w4,N5⟩ : ∃w4,wc.setCell ⟨xb,4,none⟩ (.string U)=w4:=⟨_,rfl⟩
  have G1:Hid (b1C w B rb xb { st with ds:=st.ds++x.ds } vn vo vd' vt ys x U (.slice Ad x.ds.length cd) (.slice Aa x.ats.length ca) (.int .i64 0) w4):=by
   rw[<-N5];have R2:∀{e s n:Nat} {v:Value} {xs:List Value},e≠46->wc.ownsRow B e s v n xs->(wc.setCell ⟨xb,4,none⟩ (.string U)).ownsRow B e s v n xs:=fun {e s n v xs} he hh=>r6 hh (fun b _ ⟨cs,hc⟩=>f7 _ _ _ _ (B7 hc G0.out he));refine⟨0,o4 _,rfl,P9.out.setNode G0.out T1.out,by rw[o8 G0.out];rfl,⟨?_,?_,J9.out.dd,J9.out.yd,J9.out.ya⟩,(((P7.out.mono L0).trans L6.out)).setCell (p:=⟨xb,4,none⟩) (by have:=N1.out;show B<=xb;omega) _,by have:=L7;simp[World.setCell];omega⟩
   ·exact R2 (by decide) J9.out.rD
   ·simpa using R2 (by decide) J9.out.rA
  have q7:w4.cell? ⟨xb,7,none⟩=some (.slice Aa x.ats.length ca):=by
   obtain⟨k0,_,_,_,T8,_⟩:=G1.out;rw[d9 w4 xb 7 _ _ _ T8];rfl
  rw[N5];clear N5 p2 p4 pf P9 J9 L6 G0 L7
  go_wp2_with fail
  go_loopw [33] (b1C w B rb xb { st with ds:=st.ds++x.ds } vn vo vd' vt ys x U (.slice Ad x.ds.length cd) (.slice Aa x.ats.length ca)) (fun i _=>x.ats.length-(intOf i).toNat)
  case atStart=>exact G1.out
  case round =>
   obtain⟨k,hk,rfl,hr,E8,E2,hb,L8⟩:=hrel;have HR:=a8 hr;have E1:=a8 E8;have R3:=a8 E2;have HB:=a8 hb;clear hr E8 E2 hb;by_cases L9:k<x.ats.length
   ·have T9:(k:Int)<(x.ats.length:Int):=by omega
    obtain⟨L,hL⟩ : ∃L,(x.ats.take k).map (a1I (st.ds++x.ds))++x.ats.drop k=L:=⟨_,rfl⟩;have G4:=R3.out;rw[show(x.ats.take k).map (a1I ({ st with ds:=st.ds++x.ds }:Rd).ds)++x.ats.drop k=L from hL]at G4;have R5:L.length=x.ats.length:=by rw[<-hL,e8,C9,u0,B6];omega
    have N6:L[k]'(by omega)=x.ats[k]:=by
     simp only[<-hL];rw[List.getElem_append_right (by rw[C9,u0];omega)]
     simp only[C9,u0,List.getElem_drop]
     congr 1
     omega
    have G7:L.set k (a1I (st.ds++x.ds) x.ats[k])=(x.ats.take (k+1)).map (a1I (st.ds++x.ds))++x.ats.drop (k+1):=by
     rw[<-hL,List.set_append_right _ _ (by rw[C9,u0];omega)]
     rw[C9,u0,show k-min k x.ats.length=0 by omega]
     rw[B8 L9,List.set_cons_zero,l8 L9,List.map_append];simp
    have G5:=G4.rA;rw[R5]at G5
    obtain⟨ga,N7⟩ : ∃ga,Aa=some ⟨ga,0,none⟩:=by
     obtain⟨_,⟨h2,h3⟩|⟨g,cap,cur,e,_⟩⟩:=G5
     ·omega
     ·simp only[o5]at e
      exact⟨g,e.1⟩
    subst N7
    have D2:∀j (hj:j<4),wr.cell? ⟨ga,k*4+j,none⟩=some ((atC x.ats[k])[j]'hj):=fun j hj=>by
     obtain⟨_,⟨h2,_⟩|⟨g,cap,cur,e,hg,hh,X3,X4,X5,ht⟩⟩:=G5
     ·cases h2
     ·simp only[o5,f5,Addr.mk.injEq,and_true,true_and]at e
      obtain⟨rfl,rfl⟩:=e;rw[d9 wr ga _ cur _ _ hh,<-A9];have e2:cur.toList[k*4+j]? = (L.flatMap atC)[k*4+j]?:=by rw[<-ht,List.getElem?_take_of_lt (by omega)]
      rw[e2,Q6 (f:=atC) (c:=4) (fun _=>rfl) L k j (by omega) hj,N6]
      exact i5 hj
    obtain⟨N8,M0⟩ : B<=ga/\∃cs,wr.heap[ga]? = some (.cells cs 103 (0,0)):=by
     obtain⟨_,⟨h2,_⟩|⟨g,cap,cur,e,hg,hh,_⟩⟩:=G5
     ·cases h2
     ·simp only[o5,f5,Addr.mk.injEq,and_true,true_and]at e
      obtain⟨rfl,rfl⟩:=e;exact⟨hg,cur,hh⟩
    have a0:=D2 0 (by omega)
    have a1:=D2 1 (by omega)
    have a2:=D2 2 (by omega)
    have a3:=D2 3 (by omega)
    rw[Nat.add_zero]at a0;have V0:=a8 G5;have D1:=a8 G4;have R6:=a8 N6;have N9:=a8 R5;have G8:=a8 G7;have J7:=a8 M0
    have E4:Hid (∀w5,Below wr.heap.size wr w5->∀V,a1I (st.ds++x.ds) x.ats[k]={ x.ats[k]with u:=V }->b1C w B rb xb { st with ds:=st.ds++x.ds } vn vo vd' vt ys x U (.slice Ad x.ds.length cd) (.slice (some ⟨ga,0,none⟩) x.ats.length ca) (.int .i64 ((k+1:Nat):Int)) (w5.setCell ⟨ga,k*4+2,none⟩ (.string V))):=fun w5 D0 V hV=>by
     obtain⟨cs5,J8⟩:=J7.out;have M1:=(D0.block ga (i3 J8)).trans J8;have M2:=b1v (by rw[N9.out];exact L3 V0.out D0) (k:=k) (by rw[N9.out];exact L9) V
     rw[R6.out,<-hV,G8.out,N9.out]at M2;have hl':((x.ats.take (k+1)).map (a1I (st.ds++x.ds))++x.ats.drop (k+1)).length=x.ats.length:=by rw[e8,C9,u0,B6];omega
     have M3:(w5.setCell ⟨ga,k*4+2,none⟩ (.string V)).ownsRow B 103 4 (.slice (some ⟨ga,0,none⟩) x.ats.length ca) ((x.ats.take (k+1)).map (a1I (st.ds++x.ds))++x.ats.drop (k+1)).length (((x.ats.take (k+1)).map (a1I (st.ds++x.ds))++x.ats.drop (k+1)).flatMap atC):=by rw[hl'];exact M2
     refine⟨k+1,L9,rfl,(HR.out.below D0).setAttr M1 (fun y hy e => ?_),(f7 _ _ _ _ (B7 E1.out J8 (by decide))).trans ((D0.block xb (i3 E1.out)).trans E1.out),⟨r6 (L3 D1.out.rD D0) (fun b _ ⟨cs,hc⟩=>f7 _ _ _ _ (B7 hc M1 (by decide))),M3,D1.out.dd,D1.out.yd,D1.out.ya⟩,((HB.out.trans (D0.mono (d8 L0 L8)))).setCell (p:=⟨ga,k*4+2,none⟩) N8 _,by have:=D0.size;simp[World.setCell];omega⟩
     rcases D1.out.ya y hy with h0|h0
     ·rw[e]at h0;cases h0
     ·exact h0 (by rw[e];rfl)
    have E5:Hid (∀w5,Below wr.heap.size wr w5->a1I (st.ds++x.ds) x.ats[k]=x.ats[k]->b1C w B rb xb { st with ds:=st.ds++x.ds } vn vo vd' vt ys x U (.slice Ad x.ds.length cd) (.slice (some ⟨ga,0,none⟩) x.ats.length ca) (.int .i64 ((k+1:Nat):Int)) w5):=fun w5 D0 hV=>by
     have V1:L=(x.ats.take (k+1)).map (a1I (st.ds++x.ds))++x.ats.drop (k+1):=by
      rw[<-G8.out,hV,<-R6.out,List.set_getElem_self]
     refine⟨k+1,L9,rfl,HR.out.below D0,(D0.block xb (i3 E1.out)).trans E1.out,⟨L3 D1.out.rD D0,?_,D1.out.dd,D1.out.yd,D1.out.ya⟩,HB.out.trans (D0.mono (d8 L0 L8)),d8 L8 D0.size⟩;have:=L3 D1.out.rA D0;rw[V1]at this;exact this
    have R7:Hid (∀w5,Below wr.heap.size wr w5->Calls Tryz.prog 200 #[.pointer (some ⟨rb,0,none⟩),.string x.ats[k].p] w5 fun e w'=>e=.returned (.string (a0l (st.ds++x.ds) x.ats[k].p))/\w'=w5):=fun w5 D0=>a6t w5 B rb { st with ds:=st.ds++x.ds } x.ats[k].p ⟨_,_,_,_,_,HR.out.below D0⟩ (by show(st.ds++x.ds).length<=_;rw[e8];have:=HF.out.ds;omega)
    have q7:wr.cell? ⟨xb,7,none⟩=some (.slice (some ⟨ga,0,none⟩) x.ats.length ca):=by rw[d9 wr xb 7 _ _ _ E1.out];rfl
    have R8:xb<wr.heap.size:=i3 E1.out;have gl:ga<wr.heap.size:=by obtain⟨cs5,J8⟩:=J7.out;exact i3 J8
    have gfz:∀j,wr.frozen? ⟨ga,j,none⟩=false:=fun j=>by obtain⟨cs5,J8⟩:=J7.out;unfold World.frozen?;rw[J8];simp
    clear D2 hL N6 G7 G5 M0 G4 G1;generalize R9:x.ats[k]=a at *;obtain⟨P,Lo,Ur,Va⟩:=a;dsimp only[atC,List.getElem_cons_zero,List.getElem_cons_succ]at a0 a1 a2 a3;have X6:=a8 R9;clear R9;have M4:a1I (st.ds++x.ds) ⟨P,Lo,Ur,Va⟩=if P.data.toList=[]then⟨P,Lo,Ur,Va⟩else⟨P,Lo,a0l (st.ds++x.ds) P,Va⟩:=rfl;have M5:=a8 M4;clear M4;by_cases hP:P.data.toList=[]
    ·have G6:Hid (∀w5,Below wr.heap.size wr w5->_):=fun w5 D0=>E5.out w5 D0 (by rw[M5.out,g8 hP])
     have te:P.toList.isEmpty=true:=by rw[f9,hP];rfl
     clear hP E4 E5;go_wp2
     go_roundw
     case rel=>exact(show Value.int .i64 ((k+1:Nat):Int)=_ by go_num) ▸ G6.out _ ((b8 _ _).alloc (c9 _) _)
     case measure=>simp[intOf];omega
    ·have te:P.toList.isEmpty=false:=by
      rw[f9];cases hq:P.data.toList with
      |nil=>exact absurd hq hP
      |cons c t=>rfl
     obtain⟨V,hV⟩ : ∃V,a0l (st.ds++x.ds) P=V:=⟨_,rfl⟩;have G6:Hid (∀w5,Below wr.heap.size wr w5->_):=fun w5 D0=>E4.out w5 D0 V (by rw[M5.out,f6 hP,hV])
     have S0:Hid (∀w5,Below wr.heap.size wr w5->Calls Tryz.prog 200 #[.pointer (some ⟨rb,0,none⟩),.string P] w5 fun e w'=>e=.returned (.string V)/\w'=w5):=fun w5 D0=>by rw[<-hV];exact R7.out w5 D0
     clear hP E4 E5 hV R7
     go_upto_region 8 with fail
     obtain⟨w5,M8⟩ : ∃w5,wr.alloc (Obj.cells #[.string P,.string Lo,.string Ur,.string Va] 103)=w5:=⟨_,rfl⟩;have D0:Below wr.heap.size wr w5:=by rw[<-M8];exact(b8 _ _).alloc (c9 _) _
     have M6:w5.heap[wr.heap.size]? = some (.cells #[.string P,.string Lo,.string Ur,.string Va] 103 (0,0)):=by rw[<-M8];exact g9 wr _
     have b0:w5.cell? ⟨wr.heap.size,0,none⟩=some (.string P):=by rw[d9 w5 _ 0 _ _ _ M6];rfl
     have b7:w5.cell? ⟨xb,7,none⟩=some (.slice (some ⟨ga,0,none⟩) x.ats.length ca):=(D0.cell (p:=⟨xb,7,none⟩) R8).trans q7;have b2:w5.cell? ⟨ga,k*4+2,none⟩=some (.string Ur):=(D0.cell (p:=⟨ga,k*4+2,none⟩) gl).trans a2;have bf:w5.frozen? ⟨ga,k*4+2,none⟩=false:=(D0.frozen (p:=⟨ga,k*4+2,none⟩) gl).trans (gfz _);have V2:Hid (b1C w B rb xb { st with ds:=st.ds++x.ds } vn vo vd' vt ys x U (.slice Ad x.ds.length cd) (.slice (some ⟨ga,0,none⟩) x.ats.length ca) (.int .i64 ((k+1:Nat):Int)) (w5.drew.setCell ⟨ga,k*4+2,none⟩ (.string V))):=G6.out w5.drew D0.drew;have V3:=a8 (S0.out w5.drew D0.drew);rw[M8];clear M8 M6 q7 a0 a1 a2 a3 gfz S0 G6 D0;obtain⟨ab,M6⟩ : ∃ab,wr.heap.size=ab:=⟨_,rfl⟩;rw[M6]at b0 ⊢;clear M6 R8 gl L8;refine wp_region_still_tail 9 (by kernel_rfl) (by kernel_rfl) ?_
     simp only[List.take_succ_cons,List.take_zero,List.drop_succ_cons,List.drop_zero]
     repeat still_step
     still_call (V3.out)
     repeat still_step
     try refine wpStill_nil ?_
     change wpList _ _ _ _ _ w5.drew;go_wp2
     go_roundw
     case rel=>exact(show Value.int .i64 ((k+1:Nat):Int)=_ by go_num) ▸ V2.out
     case measure=>simp[intOf];omega
   ·have V4:k=x.ats.length:=by omega
    subst V4;have T9:¬(x.ats.length:Int)<(x.ats.length:Int):=by omega
    have E2:=R3.out;rw[I1,List.drop_length,A7]at E2;have S1:(elM (st.ds++x.ds) x)={ x with u:=U,ats:=x.ats.map (a1I (st.ds++x.ds)) }:=by unfold elM;rw[HU.out]
    have G5:=E2.rA;rw[C9]at G5;have e0:=d9 wr xb 0 _ _ _ E1.out;have e1:=d9 wr xb 1 _ _ _ E1.out;have e2:=d9 wr xb 2 _ _ _ E1.out;have e3:=d9 wr xb 3 _ _ _ E1.out;have e4:=d9 wr xb 4 _ _ _ E1.out;have e5:=d9 wr xb 5 _ _ _ E1.out;have e6:=d9 wr xb 6 _ _ _ E1.out;have e7:=d9 wr xb 7 _ _ _ E1.out;simp only[xC,List.getElem?_toArray,G3,C7]at e0 e1 e2 e3 e4 e5 e6 e7;have P0:=a8 (a54 wr B rb { st with ds:=st.ds++x.ds } vn vo vd' vt ys fr o { x with u:=U,ats:=x.ats.map (a1I (st.ds++x.ds)) } (.slice Ad x.ds.length cd) (.slice Aa x.ats.length ca) HO.out S4 HF.out.ns HF.out.tx HR.out ⟨E2.rD,E2.rA⟩ E2.dd)
    have P1:Hid (∀(w6:World) (vn':Value) (ys':List Ny) (v1:Value) (wa:World),S7 w6 B rb (a1o { st with ds:=st.ds++x.ds } o { x with u:=U,ats:=x.ats.map (a1I (st.ds++x.ds)) }) vn' vo vd' (.slice none 0 0) ys'->(∀b,b<w6.heap.size->vo.ownBlock≠some b->wa.heap[b]? = w6.heap[b]?)->wa.ownsRow B 116 3 v1 (st.op++[(⟨(Q1 { st with ds:=st.ds++x.ds } o).ns.length,full,st.ds.length⟩ : Po)]).length ((st.op++[(⟨(Q1 { st with ds:=st.ds++x.ds } o).ns.length,full,st.ds.length⟩ : Po)]).flatMap poC)->O8 (wa.setCell ⟨rb,2,none⟩ v1) B rb (a1s st o x full)):=fun w6 vn' ys' v1 wa h6 D9 E0=>by
     have:=h6.opened D9 E0;refine⟨vn',v1,vd',.slice none 0 0,ys',?_⟩;unfold a1s;rw[S1];exact this
    have V5:B<=wr.heap.size:=d8 L0 L8;clear E2 S1 G5 G1
    go_wp2_with fail
    refine P0.out.mono ?_;rintro e w6⟨rfl,⟨vn',ys',M9,V6⟩,P2⟩;obtain⟨_,_,k2,_,_⟩:=M9.cell;obtain⟨Ao,co,rfl,_,_⟩:=q9 M9.ro;have G9:=a8 M9;have V7:=a8 (HB.out.trans P2);have V8:B<=w6.heap.size:=d8 V5 P2.size;clear M9 V6 P2 e0 e1 e2 e3 e4 e5 e6 e7;have P3:st.op.length<=1000000:=by have:=HF.out.op;omega
    have S2:Hid (w6.ownsRow B 116 3 (.slice Ao st.op.length co) st.op.length (st.op.flatMap poC)):=G9.out.ro
    go_wp2_with (first
     |(at_builtin;refine c0L rfl (.tmp 58) (.tmp 63) rfl B (.slice Ao st.op.length co) st.op rfl (S2.out.alloc _) w6.heap.size ⟨(Q1 { st with ds:=st.ds++x.ds } o).ns.length,full,st.ds.length⟩ rfl (g9 w6 _) P3 (by simp;omega) ?_;intro v1 wa E0 E6;have E7:=(E6.block rb (by have:=i3 G9.out.box;simp;omega) (fun e=>a3I G9.out.ro G9.out.box (by decide) e.symm)).trans ((((b8 w6.heap.size w6).alloc (c9 _) _).block rb (i3 G9.out.box)).trans G9.out.box);have kc:wa.cell? ⟨rb,2,none⟩=some (.slice Ao st.op.length co):=(by rw[d9 wa rb 2 _ _ _ E7];rfl);have kf:wa.frozen? ⟨rb,2,none⟩=false:=(by unfold World.frozen?;rw[E7];simp);have V9:=a8 E0;have S3:=a8 E6;obtain⟨A1,c1',rfl,_,_⟩:=q9 E0;clear E7 E0 E6)
     |fail)
    go_end0
    refine⟨rfl,P1.out w6 _ _ (.slice A1 (st.op.length+1) c1') wa G9.out (fun b hb N4 => ?_) ?_,?_⟩
    ·rw[S3.out.block b (by simp;omega) (fun e=>N4 e.symm)]
     exact((b8 w6.heap.size w6).alloc (c9 _) _).block b hb
    ·have:=V9.out
     simp only[e8,j0]at this ⊢;exact this
    ·exact((V7.out.alloc V8 _).grown S3.out (by simp;omega) (fun q hq=>(S2.out.lt q hq).1)).setCell (p:=⟨rb,2,none⟩) G9.out.lo _
def a5z(st:Rd)(fr:List Po)(o:Po):Rd:={ Q1 st o with ds:=st.ds.take o.outer,op:=fr }
theorem b0t{w:World}{B e s n m cap:Nat}{A:Option Addr}{xs:List Value}(h:w.ownsRow B e s (.slice A n cap) n xs)(hm:m<=n):w.ownsRow B e s (.slice A m cap) m (xs.take (m*s)):=by
 obtain⟨h1,⟨h2,h3⟩|⟨g,cap',cur,h2,hg,hh,hn,hc,hs,ht⟩⟩:=h
 ·have D0:m=0:=by omega
  subst D0;simp only[o5]at h2;obtain⟨rfl,_,rfl⟩:=h2;refine⟨by simp,.inl ⟨rfl,rfl⟩⟩
 ·simp only[o5]at h2
  obtain⟨rfl,-,rfl⟩:=h2;have D1:m*s<=n*s:=Nat.mul_le_mul_right s hm;refine⟨by rw[u0,h1];omega,.inr ⟨g,cap,cur,rfl,hg,hh,by omega,hc,hs,?_⟩⟩
  rw[<-ht,List.take_take,Nat.min_eq_left D1]
theorem a43{α:Type}{f:α->List Value}{c:Nat}(hf:∀a,(f a).length=c):∀(l:List α) (m:Nat),(l.flatMap f).take (m*c)=(l.take m).flatMap f
 | [],m=>by simp
 |a::l,0=>by simp
 |a::l,m+1=>by
  rw[List.flatMap_cons,List.take_succ_cons,List.flatMap_cons,show(m+1)*c=(f a).length+m*c by rw[hf,Nat.succ_mul];omega,List.take_append]
  simp only[C0 (Nat.le_add_right _ _),Nat.add_sub_cancel_left];rw[a43 hf l m]
theorem b0e{t e:TypeId}{A:Option Addr}{n m cap:Nat}(ht:Tryz.prog.underlying t=some (.slice e)){s:Nat}(hs:∀w,(sizeOf e).run Tryz.prog w=.ok s w)(hm:m<=n)(hn:n<=cap)(w:World):(Instr.slice t (.slice A n cap) none (some (.int .i64 (m:Int))) none).run Tryz.prog w=.ok (.slice A m cap) w:=by
 have h1:(m:Int)<=(cap:Int):=by omega
 cases A with
 |none =>
  simp[Instr.slice,run_underlying ht,Instr.sliceBounds,Instr.sliceBound,asIntOf,hs];intro h;omega
 |some a =>
  simp[Instr.slice,run_underlying ht,Instr.sliceBounds,Instr.sliceBound,asIntOf,hs,Addr.add];intro h;omega
theorem b9O(w:World):(sizeOf 34).run Tryz.prog w=.ok 2 w:=by kernel_rfl
theorem b9N(w:World):(sizeOf 116).run Tryz.prog w=.ok 3 w:=by kernel_rfl
theorem b0s(w:World)(B rb:Nat)(st:Rd)(vn vo vd vt:Value)(ys:List Ny)(fr:List Po)(o:Po)(ho:st.op=fr++[o])(hf:a1J st)(E4:o.outer<=st.ds.length)(h:S7 w B rb st vn vo vd vt ys) :
 Calls Tryz.prog 159 #[.pointer (some ⟨rb,0,none⟩)] w fun e w'=>e=.returned (.tuple #[])/\O8 w' B rb (a5z st fr o)/\Below B w w':=by
 have E5:fr.length<=1000000:=by have:=hf.op;rw[ho,e8]at this;simp at this;omega
 have G6:B<=w.heap.size:=d8 h.lo (A6 (i3 h.box));have G7:=a8 (a5s w B rb st vn vo vd vt ys fr o ho E5 (by have:=h.nlen;have:=hf.ns;omega) (by have:=hf.tx;omega) h)
 have HO:=a8 ho;clear h hf ho;go_enter Tryz.func159,Tryz.ntmps159
 go_wp2_with fail
 refine G7.out.mono ?_;rintro e w1⟨rfl,⟨vn1,ys1,D2,G8⟩,E6⟩;have E7:=a8 D2;have E8:=a8 E6;obtain⟨_,_,c2,c3,_⟩:=D2.cell;have G9:=D2.frozen;obtain⟨Ad,cd,rfl,E0,J1⟩:=q9 D2.rd;obtain⟨Ao,co,rfl,D3,J2⟩:=q9 D2.ro;have J3:(Q1 st o).ds=st.ds:=rfl;have J4:(Q1 st o).op=st.op:=rfl;rw[J3]at c3 E0;rw[J4]at c2 D3;have J5:Hid (∀w',Below w1.heap.size w1 w'->Calls Tryz.prog 158 #[.pointer (some ⟨rb,0,none⟩)] w' fun e w''=>e=.returned (.agg #[.int .i64 o.node,.string (ba o.full),.int .i64 o.outer])/\Below w'.heap.size w' w''):=fun w' hb=>a0H w' B rb (Q1 st o) fr o HO.out E5 ⟨_,_,_,_,_,E7.out.below hb⟩;have L0:=b02 o;have J6:=b0e (A:=Ad) Tryz.underlying31 b9O E4 E0;have G0:=i3 D2.box;clear D2 G8 E6
 go_upto_region 1 with fail
 go_cut [] (fun wx => ∃vd',S7 wx B rb { Q1 st o with ds:=st.ds.take o.outer } vn1 (.slice Ao st.op.length co) vd' (.slice none 0 0) ys1/\Below B w1 wx)
 case first =>
  go_region_law (first|(go_simp;go_at_call 158;refine(J5.out _ (by first|exact(b8 _ _).drew|exact b8 _ _)).mono ?_;rintro e w2 ⟨rfl,D9⟩;have m3:w2.cell? ⟨rb,3,none⟩=some (.slice Ad st.ds.length cd):=((D9.cell (p:=⟨rb,3,none⟩) G0).trans c3);have mf:w2.frozen? ⟨rb,3,none⟩=false:=((D9.frozen (p:=⟨rb,3,none⟩) G0).trans (G9 3));have G1:=a8 D9;clear D9))
  all_goals
   have D1:Hid (S7 (w2.setCell ⟨rb,3,none⟩ (.slice Ad o.outer cd)) B rb { Q1 st o with ds:=st.ds.take o.outer } vn1 (.slice Ao st.op.length co) (.slice Ad o.outer cd) (.slice none 0 0) ys1/\Below B w1 (w2.setCell ⟨rb,3,none⟩ (.slice Ad o.outer cd))):=by
    have D9:Below w1.heap.size w1 w2:=(b8 _ _).drew.trans G1.out;have h2:=E7.out.below D9;have D0:=b0t h2.rd E4;rw[show(Q1 st o).ds=st.ds from rfl,a43 (f:=C1) (c:=2) (fun _=>rfl)]at D0;have hl:(st.ds.take o.outer).length=o.outer:=by rw[u0];omega
    rw[<-hl]at D0;have e:(Value.slice Ad o.outer cd).ownBlock=(Value.slice Ad st.ds.length cd).ownBlock:=by cases Ad<;>rfl
    have:=h2.declared (fun b hb _=>rfl) (v1:=.slice Ad o.outer cd) (ds:=st.ds.take o.outer) (by rw[hl]at D0 ⊢;exact D0) (fun y hy=>by rw[e];exact h2.di y hy)
    exact⟨this,(D9.mono (d8 G6 E8.out.size)).setCell (p:=⟨rb,3,none⟩) h2.lo _⟩
   clear m3 mf G1
   go_wp2_with fail
   go_meet
   exact⟨_,D1.out⟩
 case rest =>
  obtain⟨vd',hr,G4⟩:=hcut;have HR:=a8 hr;have J7:=a8 G4;obtain⟨_,_,k2,_,_⟩:=hr.cell;have kf:=hr.frozen;have E1:st.op.length=fr.length+1:=by rw[HO.out];simp
  rw[E1]at k2 D3;have E2:=b0e (A:=Ao) (m:=fr.length) (n:=fr.length+1) Tryz.underlying117 b9N (by omega) D3
  have J8:IntKind.i64.wrap (fr.length:Int)=fr.length:=by rw[IntKind.wrap_i64];omega
  have D1:Hid (S7 (wc.drew.setCell ⟨rb,2,none⟩ (.slice Ao fr.length co)) B rb (a5z st fr o) vn1 (.slice Ao fr.length co) vd' (.slice none 0 0) ys1/\Below B w (wc.drew.setCell ⟨rb,2,none⟩ (.slice Ao fr.length co))):=by
   have h2:=hr.below (b8 wc.heap.size wc).drew;have G5:=h2.ro;rw[show({ Q1 st o with ds:=st.ds.take o.outer }:Rd).op=st.op from rfl,HO.out]at G5;have J9:(fr++[o]).length=fr.length+1:=by simp
   have E3:wc.drew.ownsRow B 116 3 (.slice Ao (fr.length+1) co) (fr.length+1) ((fr++[o]).flatMap poC):=by
    have e:=G5;rw[J9]at e;exact e
   have D0:=b0t E3 (show fr.length<=fr.length+1 by omega)
   rw[a43 (f:=poC) (c:=3) a8W,List.take_left]at D0;exact⟨h2.opened (fun b hb _=>rfl) (op:=fr) D0,((E8.out.trans J7.out).drew).setCell (p:=⟨rb,2,none⟩) h2.lo _⟩
  clear hr G4 J6 c2 c3;obtain⟨n,hn⟩ : ∃n,fr.length=n:=⟨_,rfl⟩;rw[hn]at k2 E2 J8 D1;clear hn
  go_upto_region 2 with fail
  go_still_tail 14,(by kernel_rfl)
  change wpList _ _ _ _ _ wc.drew;go_wp2
  go_end0
  exact⟨rfl,⟨_,_,_,_,_,D1.out.1⟩,D1.out.2⟩
noncomputable def a2A(full:List UInt8)(o:Po):Nat->Rd->Nd->Option Rd
 |0,_,_=>none
 |n+1,st,x =>
  match m9 [62] (n8 st.rest)with
  |some r=>some (a1s { st with rest:=r } o x full)
  |none=>match m9 [47,62] (n8 st.rest)with
   |some r=>some (a5z (a1s { st with rest:=r } o x full) st.op ⟨(Q1 { st with ds:=st.ds++x.ds } o).ns.length,full,st.ds.length⟩)
   |none=>if(n8 st.rest).length<st.rest.length then
    match T5 (n8 st.rest) x with
    |some (r,x')=>a2A full o n { st with rest:=r } x'
    |none=>none
    else none
noncomputable def a1Q(st:Rd)(o:Po):Option Rd :=
 match M4 (G9 y8 st.rest)with
 |none=>none
 |some (p,l)=>a2A (G9 y8 st.rest) o ((J9 y8 st.rest).length+1) { st with rest:=J9 y8 st.rest } ⟨1,0,ba p,ba l,⟨#[]⟩,⟨#[]⟩,[],[]⟩
theorem RX.cur{w w':World}{B rb xb:Nat}{st:Rd}{vn vo vd vt:Value}{ys:List Ny}{x:Nd}{r:List UInt8}(h:RX w B rb xb st vn vo vd vt ys x)(hc:N7 rb (ba r) w w'):RX w' B rb xb { st with rest:=r } vn vo vd vt ys x:=by
 obtain⟨vD,vA,hb,hx⟩:=h.at';have D0:∀(b:Nat) (e:TypeId) (cs:Array Value),e≠119->w.heap[b]? = some (.cells cs e (0,0))->w'.heap[b]? = w.heap[b]?:=fun b e cs he hb=>hc.other b (i3 hb) (B7 hb h.rd.box he);exact⟨h.rd.cur hc,h.bx,h.nx,vD,vA,(D0 xb _ _ (by decide) hb).trans hb,r6 hx.rD (fun b _ ⟨cs,hb⟩=>D0 b _ cs (by decide) hb),r6 hx.rA (fun b _ ⟨cs,hb⟩=>D0 b _ cs (by decide) hb),hx.dd,hx.yd,hx.ya⟩
theorem a7j(x:Nd)(p l:List UInt8)(v:ByteArray):(V4 x p l v).ds.length+(V4 x p l v).ats.length=x.ds.length+x.ats.length+1:=by
 unfold V4
 split
 ·simp;omega
 ·split<;>simp<;>omega
theorem a3g{s r:List UInt8}{x x':Nd}(h:T5 s x=some (r,x')):r.length<=s.length/\x'.ds.length+x'.ats.length=x.ds.length+x.ats.length+1:=by
 unfold T5 at h;cases h1:M4 (G9 y8 s)with
 |none=>rw[h1]at h;cases h
 |some q =>
  obtain⟨p,l⟩:=q;rw[h1]at h;dsimp only at h;cases h2:V3 (J9 y8 s)with
  |none=>rw[h2]at h;cases h
  |some r2 =>
   rw[h2]at h;dsimp only at h;cases h3:V0 r2 with
   |none=>rw[h3]at h;cases h
   |some q2 =>
    obtain⟨q,r3⟩:=q2;rw[h3]at h;dsimp only at h;cases h4:X5 q with
    |none=>rw[h4]at h;cases h
    |some v =>
     rw[h4]at h;simp only[f5,Prod.mk.injEq]at h;obtain⟨rfl,rfl⟩:=h;have ha:=a0R y8 s;have he:=a0o h2;have hq:=a1d h3;exact⟨by omega,a7j _ _ _ _⟩
def a3Q(w:World)(rb:Nat):Nat:=match w.cell? ⟨rb,0,none⟩with
 |some (.string s)=>s.size
 |_=>0
theorem a5V{w:World}{B rb:Nat}{st:Rd}{vn vo vd vt:Value}{ys:List Ny}(h:S7 w B rb st vn vo vd vt ys):a3Q w rb=st.rest.length:=by
 unfold a3Q;rw[h.cell.1];exact I9 _
def b4e(rb:Nat)(v:Value)(w:World):Nat:=match v with
 | .bool true=>a3Q w rb+1
 |_=>0
def b7B(w0:World)(B rb xb:Nat)(st:Rd)(o:Po)(vn vo vd vt:Value)(ys:List Ny)(full:List UInt8)(T:Option Rd)(v:Value)(wr:World):Prop :=
 (∃(n:Nat) (r:List UInt8) (x:Nd),v=.bool true/\r.length<n/\a2A full o n { st with rest:=r } x=T/\RX wr B rb xb { st with rest:=r } vn vo vd vt ys x/\r.length+x.ds.length+x.ats.length<=100000/\Below B w0 wr)∨(v=.bool false/\T=none/\Below B w0 wr)
def a2X(T:Option Rd)(B rb:Nat)(e:Ending)(w':World):Prop:=match T with
 |some st'=>e=.returned (.bool true)/\O8 w' B rb st'
 |none=>e=.returned (.bool false)
end Go.Proofs.YtlgcigmolfhamaaGreatDoor
