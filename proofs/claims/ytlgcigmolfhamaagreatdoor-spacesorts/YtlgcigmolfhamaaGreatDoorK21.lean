/-
  parse.reader: lay. Conditions: the reader lies as it is; something is open; there are not too many nodes.
  parse.reader: endText, add. Conditions: the reader lies as it is; something is open; there are not too many nodes, the text is not too long.
  parse.reader: comment, data. Conditions: the reader lies as it is, something is open; nothing is too long; the tables lie as they are laid.
-/
import Derived.Test.YtlgcigmolfhamaaGreatDoorK20
import Derived.Deep.RegionLaw
import Derived.Test.YtlgcigmolfhamaaGreatDoorK10
namespace Go.Proofs.YtlgcigmolfhamaaGreatDoor
open Go.RowKit
set_option linter.unusedVariables false
set_option maxRecDepth 100000
set_option maxHeartbeats 16000000
structure L7(rb:Nat)(v v':Value)(w w':World):Prop where
 els:∀b,b<w.heap.size->b≠rb->v.ownBlock≠some b->w'.heap[b]? = w.heap[b]?
 new:∀b,v'.ownBlock=some b->v.ownBlock=some b∨w.heap.size<=b
 size:w.heap.size<=w'.heap.size
theorem L7.of_below{rb:Nat}{v:Value}{w w':World}(h:Below w.heap.size w w'):L7 rb v v w w':=⟨fun b hb _ _=>h.block b hb,fun b hb => .inl hb,h.size⟩
theorem L7.trans{rb:Nat}{v v' v'':Value}{w w1 w2:World}(h:L7 rb v v' w w1)(h':L7 rb v' v'' w1 w2):L7 rb v v'' w w2:=by
 refine⟨fun b hb hr hn=>(h'.els b (x9 hb h.size) hr (fun e => ?_)).trans (h.els b hb hr hn),fun b hb => ?_,d8 h.size h'.size⟩
 ·rcases h.new b e with e1|e1
  ·exact hn e1
  ·omega
 ·rcases h'.new b hb with e1|e1
  ·exact h.new b e1
  ·exact .inr (d8 h.size e1)
def G6(x:Nd)(n:Nat):Nd:={ x with n:=(n:Int) }
theorem S7.laid{w w1:World}{B rb:Nat}{st:Rd}{vn vo vd vt v1:Value}{ys:List Ny}{y:Ny}(h:S7 w B rb st vn vo vd vt ys)(D0:∀b,b<w.heap.size->vn.ownBlock≠some b->w1.heap[b]? = w.heap[b]?)(D2:w1.ownsRow B 46 8 v1 (ys.length+1) ((ys++[y]).flatMap nyC))(hy:a7w w B y)(D3:y.d.ownBlock=none∨y.d.ownBlock≠vd.ownBlock) :
 S7 (w1.setCell ⟨rb,1,none⟩ v1) B rb { st with ns:=st.ns++[y.x] } v1 vo vd vt (ys++[y]):=by
 have D1:∀(b:Nat) (e:TypeId) (cs:Array Value),e≠119->w1.heap[b]? = some (.cells cs e (0,0))->(w1.setCell ⟨rb,1,none⟩ v1).heap[b]? = w1.heap[b]?:=fun b e cs he hb=>f7 _ _ _ _ (fun e0=>by
  rw[e0]at hb
  rw[D0 rb (i3 h.box) (fun e1=>by
   obtain⟨_,⟨e2,_⟩|⟨g,cap,cur,e2,_,hh,_⟩⟩:=h.rn
   ·rw[e2]at e1;simp[Value.ownBlock]at e1
   ·rw[e2]at e1
    simp only[Value.ownBlock,f5]at e1;rw[e1,h.box]at hh;simp at hh),h.box]at hb
  simp only[f5,Obj.cells.injEq]at hb;exact he hb.2.1.symm)
 have keep:∀{e s n:Nat} {v:Value} {xs:List Value},e≠46->e≠119->w.ownsRow B e s v n xs->(w1.setCell ⟨rb,1,none⟩ v1).ownsRow B e s v n xs:=fun {e s n v xs} he D9 ho=>by
  have h1:w1.ownsRow B e s v n xs:=r6 ho (fun b hb ⟨cs,hc⟩=>D0 b (i3 hc) (fun e0=>by
   rcases a1V ho h.rn he with h0|h0
   ·rw[hb]at h0;cases h0
   ·exact h0 (hb.trans e0.symm)))
  exact r6 h1 (fun b hb ⟨cs,hc⟩=>D1 b e cs D9 hc)
 have E0:w1.heap[rb]? = w.heap[rb]?:=D0 rb (i3 h.box) (fun e1=>by
  obtain⟨_,⟨e2,_⟩|⟨g,cap,cur,e2,_,hh,_⟩⟩:=h.rn
  ·rw[e2]at e1;simp[Value.ownBlock]at e1
  ·rw[e2]at e1
   simp only[Value.ownBlock,f5]at e1;rw[e1,h.box]at hh;simp at hh)
 refine⟨h.lo,by rw[o8 (E0.trans h.box)];rfl,by rw[List.map_append,h.ns];rfl,?_,keep (by decide) (by decide) h.ro,keep (by decide) (by decide) h.rd,keep (by decide) (by decide) h.rt,fun z hz => ?_,fun z hz => ?_⟩
 ·rw[e8,j0]
  exact r6 D2 (fun b _ ⟨cs,hc⟩=>D1 b _ cs (by decide) hc)
 ·rcases D6.1 hz with hz|hz
  ·exact⟨keep (by decide) (by decide) (h.ry z hz).1,keep (by decide) (by decide) (h.ry z hz).2⟩
  ·rw[r8.1 hz]
   exact⟨keep (by decide) (by decide) hy.1,keep (by decide) (by decide) hy.2⟩
 ·rcases D6.1 hz with hz|hz
  ·exact h.di z hz
  ·rw[r8.1 hz];exact D3
theorem b2C(o:Po)(w:World):(Instr.field 116 (.agg #[.int .i64 o.node,.string (ba o.full),.int .i64 o.outer]) 0).run Tryz.prog w=.ok (.int .i64 o.node) w:=by kernel_rfl
theorem a6Y(o:Po)(w:World):(Instr.field 116 (.agg #[.int .i64 o.node,.string (ba o.full),.int .i64 o.outer]) 1).run Tryz.prog w=.ok (.string (ba o.full)) w:=by kernel_rfl
theorem b02(o:Po)(w:World):(Instr.field 116 (.agg #[.int .i64 o.node,.string (ba o.full),.int .i64 o.outer]) 2).run Tryz.prog w=.ok (.int .i64 o.outer) w:=by kernel_rfl
theorem b3n(w:World)(B rb:Nat)(st:Rd)(vn vo vd vt:Value)(ys:List Ny)(fr:List Po)(o:Po)(x:Nd)(vD vA:Value)(ho:st.op=fr++[o])(L6:fr.length<=1000000)(P3:ys.length<=1000000)(h:S7 w B rb st vn vo vd vt ys)(hx:a7w w B ⟨x,vD,vA⟩)(L8:vD.ownBlock=none∨vD.ownBlock≠vd.ownBlock) :
 Calls Tryz.prog 197 #[.pointer (some ⟨rb,0,none⟩),.agg #[.int .i64 x.k,.int .i64 x.n,.string x.p,.string x.l,.string x.u,.string x.t,vD,vA]] w fun e w'=>e=.returned (.int .i64 (ys.length:Int)) /\
  (∃vn',S7 w' B rb { st with ns:=st.ns++[G6 x o.node] } vn' vo vd vt (ys++[⟨G6 x o.node,vD,vA⟩])/\L7 rb vn vn' w w')/\Below B w w':=by
 have H:=a8 h;have HX:=a8 hx;obtain⟨Ad,cd,rfl,_,_⟩ : ∃A c,vD=.slice A x.ds.length c/\x.ds.length<=c/\c<=9223372036854775807:=q9 hx.1;obtain⟨Aa,ca,rfl,_,_⟩ : ∃A c,vA=.slice A x.ats.length c/\x.ats.length<=c/\c<=9223372036854775807:=q9 hx.2;obtain⟨An,cn,rfl,P4,L9⟩:=q9 h.rn;have M0:=i3 h.box;have M1:B<=w.heap.size:=d8 h.lo (A6 M0);clear h hx;obtain⟨xb,G8⟩ : ∃xb,w.heap.size=xb:=⟨_,rfl⟩;obtain⟨w1,G1⟩ : ∃w1,w.alloc (Obj.cells #[.int .i64 x.k,.int .i64 x.n,.string x.p,.string x.l,.string x.u,.string x.t,.slice Ad x.ds.length cd,.slice Aa x.ats.length ca] 46)=w1:=⟨_,rfl⟩;have G9:Below w.heap.size w w1:=by rw[<-G1];exact(b8 _ _).alloc (c9 _) _
 have E1:w1.heap[xb]? = some (.cells #[.int .i64 x.k,.int .i64 x.n,.string x.p,.string x.l,.string x.u,.string x.t,.slice Ad x.ds.length cd,.slice Aa x.ats.length ca] 46 (0,0)):=by rw[<-G1,<-G8];exact g9 w _
 have M2:=a8 (a0H w1 B rb st fr o ho L6 ⟨_,_,_,_,_,H.out.below G9⟩);have M3:=a8 G9;have E0:=a8 E1;have M4:=a8 G1;have G4:=a8 G8;clear G9 E1 G1 G8 ho;go_enter Tryz.func197,Tryz.ntmps197
 go_wp2_with fail
 rw[M4.out,G4.out];refine M2.out.mono ?_;rintro e w2⟨rfl,J1⟩;have D3:=(J1.block xb (i3 E0.out)).trans E0.out;have q1:w2.cell? ⟨xb,1,none⟩=some (.int .i64 x.n):=by rw[d9 w2 xb 1 _ _ _ D3];rfl
 have qf:∀j,w2.frozen? ⟨xb,j,none⟩=false:=fun j=>by unfold World.frozen?;rw[D3];simp
 have M5:=a8 J1;have E2:=a8 D3;clear J1 D3;have M6:=b2C o
 go_upto_region 2 with fail
 obtain⟨w3,G5⟩ : ∃w3,w2.setCell ⟨xb,1,none⟩ (.int .i64 o.node)=w3:=⟨_,rfl⟩;have J2:xb<w2.heap.size:=i3 E2.out;have D0:w3.heap[xb]? = some (.cells #[.int .i64 x.k,.int .i64 o.node,.string x.p,.string x.l,.string x.u,.string x.t,.slice Ad x.ds.length cd,.slice Aa x.ats.length ca] 46 (0,0)):=by rw[<-G5,o8 E2.out];rfl
 have J7:Below xb w w3:=by rw[<-G5];exact((M3.out.mono (by rw[G4.out];exact c9 _)).trans (M5.out.mono (A6 (i3 E0.out)))).setCell (p:=⟨xb,1,none⟩) (c9 _) _
 have J8:w.heap.size<w3.heap.size:=by rw[G4.out];exact i3 D0
 have E3:Below w.heap.size w w3:=by rw[G4.out];exact J7
 have h3:=H.out.below E3;have J9:a7w w3 B ⟨x,.slice Ad x.ds.length cd,.slice Aa x.ats.length ca⟩:=⟨L3 HX.out.1 E3,L3 HX.out.2 E3⟩;have M7:=h3.frozen;obtain⟨_,c1,_,_,_⟩:=h3.cell;have p0:w3.cell? ⟨xb,0,none⟩=some (.int .i64 x.k):=by rw[d9 w3 xb 0 _ _ _ D0];rfl
 have p1:w3.cell? ⟨xb,1,none⟩=some (.int .i64 o.node):=by rw[d9 w3 xb 1 _ _ _ D0];rfl
 have p2:w3.cell? ⟨xb,2,none⟩=some (.string x.p):=by rw[d9 w3 xb 2 _ _ _ D0];rfl
 have p3:w3.cell? ⟨xb,3,none⟩=some (.string x.l):=by rw[d9 w3 xb 3 _ _ _ D0];rfl
 have p4:w3.cell? ⟨xb,4,none⟩=some (.string x.u):=by rw[d9 w3 xb 4 _ _ _ D0];rfl
 have p5:w3.cell? ⟨xb,5,none⟩=some (.string x.t):=by rw[d9 w3 xb 5 _ _ _ D0];rfl
 have p6:w3.cell? ⟨xb,6,none⟩=some (.slice Ad x.ds.length cd):=by rw[d9 w3 xb 6 _ _ _ D0];rfl
 have p7:w3.cell? ⟨xb,7,none⟩=some (.slice Aa x.ats.length ca):=by rw[d9 w3 xb 7 _ _ _ D0];rfl
 rw[G5];have H3:=a8 h3;have M8:=a8 J9;have L0:=a8 E3;have M9:=a8 J8;clear D0 G5 J7 h3 J9 E3 J8 q1 qf J2 M6
 go_cut [] (fun wx => ∃vn',S7 wx B rb { st with ns:=st.ns++[G6 x o.node] } vn' vo vd vt (ys++[⟨G6 x o.node,.slice Ad x.ds.length cd,.slice Aa x.ats.length ca⟩])/\Below B w3 wx/\L7 rb (Value.slice An ys.length cn) vn' w3 wx)
 case first =>
  obtain⟨i0,N0,N1,N2,N3⟩:=info_parts a1W;obtain⟨yn,L1⟩ : ∃yn:Ny,yn=⟨G6 x o.node,.slice Ad x.ds.length cd,.slice Aa x.ats.length ca⟩:=⟨_,rfl⟩
  have L2:Hid ([yn].flatMap nyC=[.int .i64 x.k,.int .i64 o.node,.string x.p,.string x.l,.string x.u,.string x.t,.slice Ad x.ds.length cd,.slice Aa x.ats.length ca]):=by
   show _=_
   rw[L1];rfl
  have N4:Hid (∀W:World,∀j u,([yn].flatMap nyC)[j]? = some u->(W.alloc (Obj.cells #[.int .i64 x.k,.int .i64 o.node,.string x.p,.string x.l,.string x.u,.string x.t,.slice Ad x.ds.length cd,.slice Aa x.ats.length ca] 46)).cell? ((⟨W.heap.size,0,none⟩ : Addr).add j)=some u):=fun W j u hu=>by
   rw[L2.out]at hu;exact World.news_of_block (g9 W (Obj.cells #[.int .i64 x.k,.int .i64 o.node,.string x.p,.string x.l,.string x.u,.string x.t,.slice Ad x.ds.length cd,.slice Aa x.ats.length ca] 46)) j u hu
  have N5:Hid (∀u∈[yn].flatMap nyC,u.oneCell'=true):=fun u hu=>by
   rw[L2.out]at hu;simp only[q8,C5,or_false]at hu;rcases hu with rfl|rfl|rfl|rfl|rfl|rfl|rfl|rfl<;>rfl
  have J3:=a8 H3.out.rn
  have N6:Hid (∀b,(Value.slice An ys.length cn).ownBlock=some b->b≠rb):=fun b hb e=>by
   obtain⟨_,⟨e1,_⟩|⟨g,cap,cur,e1,_,hh,_⟩⟩:=J3.out
   ·rw[e1]at hb;simp[Value.ownBlock]at hb
   ·rw[e1]at hb
    simp only[Value.ownBlock,f5]at hb;rw[hb,e,H3.out.box]at hh;simp at hh
  have J4:Hid (∀(ob:Obj) (wa:World),(w3.drew.alloc ob).grownBy wa (Value.slice An ys.length cn).ownBlock->∀b,b<w3.heap.size->(Value.slice An ys.length cn).ownBlock≠some b->wa.heap[b]? = w3.heap[b]?):=fun ob wa hg b hb N7=>by
   rw[hg.block b (by simp;omega) (fun e=>N7 e.symm)]
   exact((b8 w3.heap.size w3).drew.alloc (c9 _) ob).block b hb
  have kA:∀ob,(w3.alloc ob).cell? ⟨rb,1,none⟩=some (.slice An ys.length cn):=fun ob=>(((b8 w3.heap.size w3).alloc (c9 _) ob).cell (p:=⟨rb,1,none⟩) (i3 H3.out.box)).trans c1;have J5:B<=w3.heap.size:=by have:=M9.out;omega
  go_region_law? (refine U3 (P:=Tryz.prog) rfl (.tmp 13) (.tmp 15) 28 rfl B 46 i0 _ 8 _ Tryz.underlying28 N0 N1 N2 N3 rfl (by omega) (.slice An ys.length cn) ys.length (ys.flatMap nyC) rfl (J3.out.drew.alloc _) 1 (.slice (some ⟨w3.drew.heap.size,0,none⟩) 1 1) rfl ([yn].flatMap nyC) (.inr ⟨_,1,rfl,N4.out w3.drew⟩) rfl N5.out (by unfold maxLen;omega) (by omega) (by simp;omega) ?_;intro v1 wa D2 D1 E4;have G7:=(J4.out _ wa D1 rb (i3 H3.out.box) (fun e=>N6.out rb e rfl)).trans H3.out.box;have kc:wa.cell? ⟨rb,1,none⟩=some (.slice An ys.length cn):=(by rw[d9 wa rb 1 _ _ _ G7];rfl);have kf:wa.frozen? ⟨rb,1,none⟩=false:=(by unfold World.frozen?;rw[G7];simp);have N8:=a8 G7;have E5:=a8 D2;have E6:=a8 D1;have E7:=a8 E4;obtain⟨A1,c1',rfl,_,_⟩:=q9 D2;clear G7 D2 D1 E4)
  all_goals
   have J6:Hid (S7 (wa.setCell ⟨rb,1,none⟩ (.slice A1 (ys.length+1) c1')) B rb { st with ns:=st.ns++[G6 x o.node] } (.slice A1 (ys.length+1) c1') vo vd vt (ys++[⟨G6 x o.node,.slice Ad x.ds.length cd,.slice Aa x.ats.length ca⟩])/\Below B w3 (wa.setCell ⟨rb,1,none⟩ (.slice A1 (ys.length+1) c1'))/\L7 rb (Value.slice An ys.length cn) (.slice A1 (ys.length+1) c1') w3 (wa.setCell ⟨rb,1,none⟩ (.slice A1 (ys.length+1) c1'))):=by
    have D9:=E6.out;have E8:=E5.out;rw[<-D8,L1]at E8;refine⟨H3.out.laid (J4.out _ wa D9) E8 M8.out L8,?_,fun b hb N9 P0 => ?_,fun b hb => ?_,?_⟩
    ·exact((((b8 B w3).drew.alloc J5 _).grown D9 (by simp;omega) (fun k hk=>(J3.out.lt k hk).1))).setCell (p:=⟨rb,1,none⟩) H3.out.lo _
    ·rw[f7 _ _ _ _ N9]
     exact J4.out _ wa D9 b hb P0
    ·rcases E7.out with h1|h1
     ·exact .inl (h1 ▸ hb)
     ·rw[h1]at hb
      simp only[f5]at hb;exact .inr (by rw[<-hb];simp)
    ·have:=D9.size
     simp[World.setCell]at this ⊢;omega
   clear kc kf N8 E5 E6 E7
   go_wp2_with fail
   go_meet
   exact⟨_,J6.out⟩
 case rest =>
  obtain⟨vn',hr,L4,L5⟩:=hcut;obtain⟨_,k1,_,_,_⟩:=hr.cell;obtain⟨A2,c2',rfl,_,_⟩:=q9 hr.rn;have G0:(ys++[(⟨G6 x o.node,.slice Ad x.ds.length cd,.slice Aa x.ats.length ca⟩ : Ny)]).length=ys.length+1:=by simp
  rw[G0]at k1;have HR:=a8 hr;have P1:=a8 L4;have P2:=a8 L5;have P5:((ys.length+1:Nat):Int)-1=(ys.length:Int):=by omega
  clear hr L4 L5 G0 p0 p1 p2 p3 p4 p5 p6 p7 M7 c1;go_wp2;go_ret;exact⟨rfl,⟨_,HR.out,(L7.of_below L0.out).trans P2.out⟩,(L0.out.mono M1).trans P1.out⟩
def a4O(t:List UInt8):Nd:=⟨2,0,⟨#[]⟩,⟨#[]⟩,⟨#[]⟩,ba t,[],[]⟩
def Q1(st:Rd)(o:Po):Rd:={ st with ns:=st.ns++(if st.tx=[]then[]else[G6 (a4O st.tx) o.node]),tx:=[] }
theorem S7.set4{w:World}{B rb:Nat}{st:Rd}{vn vo vd vt:Value}{ys:List Ny}(h:S7 w B rb st vn vo vd vt ys){v:Value}{t:List UInt8}(hv:(w.setCell ⟨rb,4,none⟩ v).ownsRow B 5 1 v t.length (P6 t)):S7 (w.setCell ⟨rb,4,none⟩ v) B rb { st with tx:=t } vn vo vd v ys:=by
 have D0:∀(b:Nat) (e:TypeId) (cs:Array Value),e≠119->w.heap[b]? = some (.cells cs e (0,0))->(w.setCell ⟨rb,4,none⟩ v).heap[b]? = w.heap[b]?:=fun b e cs he hb=>f7 _ _ _ _ (B7 hb h.box he);exact⟨h.lo,by rw[o8 h.box];rfl,h.ns,r6 h.rn (fun b _ ⟨cs,hc⟩=>D0 b _ cs (by decide) hc),r6 h.ro (fun b _ ⟨cs,hc⟩=>D0 b _ cs (by decide) hc),r6 h.rd (fun b _ ⟨cs,hc⟩=>D0 b _ cs (by decide) hc),hv,fun y hy=>⟨r6 (h.ry y hy).1 (fun b _ ⟨cs,hc⟩=>D0 b _ cs (by decide) hc),r6 (h.ry y hy).2 (fun b _ ⟨cs,hc⟩=>D0 b _ cs (by decide) hc)⟩,h.di⟩
theorem L7.set{rb:Nat}{v v':Value}{w w':World}(h:L7 rb v v' w w')(j:Nat)(u:Value):L7 rb v v' w (w'.setCell ⟨rb,j,none⟩ u):=⟨fun b hb hr hn=>(f7 _ _ _ _ hr).trans (h.els b hb hr hn),h.new,by simp[World.setCell];exact h.size⟩
theorem a5s(w:World)(B rb:Nat)(st:Rd)(vn vo vd vt:Value)(ys:List Ny)(fr:List Po)(o:Po)(ho:st.op=fr++[o])(E3:fr.length<=1000000)(E4:ys.length<=1000000)(E5:st.tx.length<=1000000)(h:S7 w B rb st vn vo vd vt ys) :
 Calls Tryz.prog 196 #[.pointer (some ⟨rb,0,none⟩)] w fun e w'=>e=.returned (.tuple #[])/\(∃vn' ys',S7 w' B rb (Q1 st o) vn' vo vd (.slice none 0 0) ys'/\L7 rb vn vn' w w')/\Below B w w':=by
 have H:=a8 h;have E6:=i3 h.box;have E7:B<=w.heap.size:=d8 h.lo (A6 E6);obtain⟨_,_,_,_,c4⟩:=h.cell;obtain⟨At,ct,rfl,_,_⟩:=q9 h.rt;have E8:=h.frozen;have D1:=(a6x h.rt);obtain⟨A',cap',e',_,_,hl',_⟩:=D1;simp only[o5]at e';obtain⟨rfl,-,rfl⟩:=e';have D9:=I4 (w:=w) ct hl';have G0:=E5;cases D0:st.tx with
 |nil =>
  have hz:st.tx.length=0:=by rw[D0];rfl
  rw[hz]at c4
  have D2:S7 (w.setCell ⟨rb,4,none⟩ (.slice none 0 0)) B rb (Q1 st o) vn vo vd (.slice none 0 0) ys:=by
   have:=h.set4 (v:=.slice none 0 0) (t:=[]) (r5 _ _ _ _);have e:Q1 st o={ st with tx:=[] }:=by unfold Q1;rw[g8 D0,A7]
   rw[e];exact this
  have HE:=a8 D2;have HG:Hid (L7 rb vn vn w (w.setCell ⟨rb,4,none⟩ (.slice none 0 0))/\Below B w (w.setCell ⟨rb,4,none⟩ (.slice none 0 0))):=⟨(L7.of_below (b8 _ _)).set 4 _,(b8 _ _).setCell (p:=⟨rb,4,none⟩) h.lo _⟩;clear h D2 D0 hl' D9;go_enter Tryz.func196,Tryz.ntmps196;go_wp2
  go_end0
  exact⟨rfl,⟨vn,ys,HE.out,HG.out.1⟩,HG.out.2⟩
 |cons c t =>
  have h0:(0:Int)<(st.tx.length:Int):=by rw[D0];simp
  have D3:=a8 (b3n w B rb st vn vo vd (.slice At st.tx.length ct) ys fr o (a4O st.tx) (.slice none 0 0) (.slice none 0 0) ho E3 E4 h ⟨r5 _ _ _ _,r5 _ _ _ _⟩ (.inl rfl));have E2:Q1 st o={ st with ns:=st.ns++[G6 (a4O st.tx) o.node],tx:=[] }:=by unfold Q1;rw[f6 (by rw[D0];simp)]
  rw[E2];have E0:(convert 22 9 (.slice At st.tx.length ct)).run Tryz.prog w=.ok (.string (ba st.tx)) w:=D9;clear h D0 hl' D9 E2;go_enter Tryz.func196,Tryz.ntmps196
  go_wp2_with fail
  refine D3.out.mono ?_;rintro e w1⟨rfl,⟨vn',hr,hg⟩,hb⟩;have k4:=hr.cell.2.2.2.2;have kf:=hr.frozen;have E1:Hid (S7 (w1.setCell ⟨rb,4,none⟩ (.slice none 0 0)) B rb { st with ns:=st.ns++[G6 (a4O st.tx) o.node],tx:=[] } vn' vo vd (.slice none 0 0) (ys++[⟨G6 (a4O st.tx) o.node,.slice none 0 0,.slice none 0 0⟩])):=hr.set4 (v:=.slice none 0 0) (t:=[]) (r5 _ _ _ _);have HG:Hid (L7 rb vn vn' w (w1.setCell ⟨rb,4,none⟩ (.slice none 0 0))/\Below B w (w1.setCell ⟨rb,4,none⟩ (.slice none 0 0))):=⟨hg.set 4 _,hb.setCell (p:=⟨rb,4,none⟩) hr.lo _⟩;clear hr hg hb E0 D3;go_wp2
  go_end0
  exact⟨rfl,⟨_,_,E1.out,HG.out.1⟩,HG.out.2⟩
def a1o(st:Rd)(o:Po)(x:Nd):Rd:={ Q1 st o with ns:=(Q1 st o).ns++[G6 x o.node] }
theorem S7.nlen{w:World}{B rb:Nat}{st:Rd}{vn vo vd vt:Value}{ys:List Ny}(h:S7 w B rb st vn vo vd vt ys):ys.length=st.ns.length:=by rw[<-h.ns,C9]
theorem a4q(st:Rd)(o:Po):(Q1 st o).ns.length<=st.ns.length+1:=by
 unfold Q1
 split<;>simp
theorem a54(w:World)(B rb:Nat)(st:Rd)(vn vo vd vt:Value)(ys:List Ny)(fr:List Po)(o:Po)(x:Nd)(vD vA:Value)(ho:st.op=fr++[o])(E8:fr.length<=1000000)(L6:st.ns.length<=900000)(G8:st.tx.length<=1000000)(h:S7 w B rb st vn vo vd vt ys)(hx:a7w w B ⟨x,vD,vA⟩)(G9:vD.ownBlock=none∨vD.ownBlock≠vd.ownBlock) :
 Calls Tryz.prog 156 #[.pointer (some ⟨rb,0,none⟩),.agg #[.int .i64 x.k,.int .i64 x.n,.string x.p,.string x.l,.string x.u,.string x.t,vD,vA]] w fun e w'=>e=.returned (.int .i64 ((Q1 st o).ns.length:Int)) /\
  (∃vn' ys',S7 w' B rb (a1o st o x) vn' vo vd (.slice none 0 0) ys'/\L7 rb vn vn' w w')/\Below B w w':=by
 have H:=a8 h;have HX:=a8 hx;have J1:=i3 h.box;have J2:B<=w.heap.size:=d8 h.lo (A6 J1);obtain⟨Ad,cd,rfl,_,_⟩ : ∃A c,vD=.slice A x.ds.length c/\x.ds.length<=c/\c<=9223372036854775807:=q9 hx.1;obtain⟨Aa,ca,rfl,_,_⟩ : ∃A c,vA=.slice A x.ats.length c/\x.ats.length<=c/\c<=9223372036854775807:=q9 hx.2;obtain⟨xb,E4⟩ : ∃xb,w.heap.size=xb:=⟨_,rfl⟩;obtain⟨w1,E3⟩ : ∃w1,w.alloc (Obj.cells #[.int .i64 x.k,.int .i64 x.n,.string x.p,.string x.l,.string x.u,.string x.t,.slice Ad x.ds.length cd,.slice Aa x.ats.length ca] 46)=w1:=⟨_,rfl⟩;have E5:Below w.heap.size w w1:=by rw[<-E3];exact(b8 _ _).alloc (c9 _) _
 have D2:w1.heap[xb]? = some (.cells #[.int .i64 x.k,.int .i64 x.n,.string x.p,.string x.l,.string x.u,.string x.t,.slice Ad x.ds.length cd,.slice Aa x.ats.length ca] 46 (0,0)):=by rw[<-E3,<-E4];exact g9 w _
 have J3:=h.nlen;have J4:=a8 (a5s w1 B rb st vn vo vd vt ys fr o ho E8 (by omega) G8 (h.below E5))
 have G0:vn.ownBlock≠some xb:=fun e=>by have:=(h.rn.lt xb e).2;omega
 have J5:xb≠rb:=by omega
 have J6:=a8 G0;have D1:=a8 E5;have D3:=a8 D2;have J7:=a8 E3;have J8:=a8 E4;clear E5 D2 E3 E4 h hx G0 J3;go_enter Tryz.func156,Tryz.ntmps156
 go_wp2_with fail
 rw[J7.out,J8.out];refine J4.out.mono ?_;rintro e w2⟨rfl,⟨vn',ys',E6,D9⟩,G1⟩;have D0:=(D9.els xb (i3 D3.out) J5 J6.out).trans D3.out;have p0:w2.cell? ⟨xb,0,none⟩=some (.int .i64 x.k):=by rw[d9 w2 xb 0 _ _ _ D0];rfl
 have p1:w2.cell? ⟨xb,1,none⟩=some (.int .i64 x.n):=by rw[d9 w2 xb 1 _ _ _ D0];rfl
 have p2:w2.cell? ⟨xb,2,none⟩=some (.string x.p):=by rw[d9 w2 xb 2 _ _ _ D0];rfl
 have p3:w2.cell? ⟨xb,3,none⟩=some (.string x.l):=by rw[d9 w2 xb 3 _ _ _ D0];rfl
 have p4:w2.cell? ⟨xb,4,none⟩=some (.string x.u):=by rw[d9 w2 xb 4 _ _ _ D0];rfl
 have p5:w2.cell? ⟨xb,5,none⟩=some (.string x.t):=by rw[d9 w2 xb 5 _ _ _ D0];rfl
 have p6:w2.cell? ⟨xb,6,none⟩=some (.slice Ad x.ds.length cd):=by rw[d9 w2 xb 6 _ _ _ D0];rfl
 have p7:w2.cell? ⟨xb,7,none⟩=some (.slice Aa x.ats.length ca):=by rw[d9 w2 xb 7 _ _ _ D0];rfl
 have E0:=E6.nlen
 have G4:a7w w2 B ⟨x,.slice Ad x.ds.length cd,.slice Aa x.ats.length ca⟩:=by
  have h1:a7w w1 B ⟨x,.slice Ad x.ds.length cd,.slice Aa x.ats.length ca⟩:=⟨L3 HX.out.1 D1.out,L3 HX.out.2 D1.out⟩;have G5:=(H.out.below D1.out).rn;have E1:=(H.out.below D1.out).box;refine⟨r6 h1.1 (fun b hb ⟨cs,hc⟩=>D9.els b (i3 hc) (B7 hc E1 (by decide)) (fun e => ?_)),r6 h1.2 (fun b hb ⟨cs,hc⟩=>D9.els b (i3 hc) (B7 hc E1 (by decide)) (fun e => ?_))⟩
  ·rcases a1V h1.1 G5 (by decide)with h0|h0
   ·rw[hb]at h0;cases h0
   ·exact h0 (hb.trans e.symm)
  ·rcases a1V h1.2 G5 (by decide)with h0|h0
   ·rw[hb]at h0;cases h0
   ·exact h0 (hb.trans e.symm)
 have E2:=a4q st o;have E7:=a8 (b3n w2 B rb (Q1 st o) vn' vo vd (.slice none 0 0) ys' fr o x (.slice Ad x.ds.length cd) (.slice Aa x.ats.length ca) ho E8 (by omega) E6 G4 G9)
 have J9:=a8 E0;have L0:=a8 D9;have L1:=a8 G1;clear D0 E6 D9 G1 G4 E0 E2
 go_wp2_with fail
 refine E7.out.mono ?_;rintro e w3⟨rfl,⟨vn2,G6,G7⟩,L2⟩;have L4:=a8 G6;have L5:=a8 G7;clear G6 G7;go_wp2;go_ret;refine⟨by rw[<-J9.out];rfl,⟨_,_,L4.out,((L7.of_below D1.out).trans L0.out).trans L5.out⟩,((D1.out.mono J2).trans L1.out).trans L2⟩
theorem Wd.low{w w':World}{B:Nat}(h:Wd w)(hB : 8<=B)(hb:Below B w w'):Wd w' :=
 ⟨h.tabs.below (by omega) hb,h.max.below (by omega) hb,fun p hp=>(hb.cell (p:=⟨3,p.1,none⟩) (by show 3 < B;omega)).trans (h.fold p hp)⟩
structure a1J(st:Rd):Prop where
 rest:st.rest.length<=100000
 ns:st.ns.length<=900000
 op:st.op.length<=900000
 ds:st.ds.length<=900000
 tx:st.tx.length<=1000000
def a15(t:List UInt8):Nd:=⟨3,0,⟨#[]⟩,⟨#[]⟩,⟨#[]⟩,ba t,[],[]⟩
theorem a9A(w:World)(B rb:Nat)(st:Rd)(fr:List Po)(o:Po)(ho:st.op=fr++[o])(hf:a1J st)(h:O8 w B rb st)(hB : 8<=B)(hW:Wd w)(p r:List UInt8)(hc:K5 [45,45,62] st.rest=some (p,r)) :
 Calls Tryz.prog 116 #[.pointer (some ⟨rb,0,none⟩)] w fun e w'=>e=.returned (.bool true)/\O8 w' B rb (a1o { st with rest:=r } o (a15 p))/\Below B w w':=by
 obtain⟨vn,vo,vd,vt,ys,h⟩:=h;have D9:fr.length<=1000000:=by have:=hf.op;rw[ho,e8]at this;simp at this;omega
 have E0:B<=w.heap.size:=d8 h.lo (A6 (i3 h.box));have HT:=a8 (a0e st.rest [45,45,62] p r rb w h.curAt hW.max (by have:=hf.rest;omega) hc)
 have D0:Hid (∀w1,N7 rb (ba r) w w1->_):=fun w1 D1=>a54 w1 B rb { st with rest:=r } vn vo vd vt ys fr o (a15 p) (.slice none 0 0) (.slice none 0 0) ho D9 hf.ns hf.tx (h.cur D1) ⟨r5 _ _ _ _,r5 _ _ _ _⟩ (.inl rfl);have E1:=a8 h.lo;clear h hc hW ho;go_enter Tryz.func116,Tryz.ntmps116
 go_wp2_with fail
 refine HT.out.mono ?_;rintro e w1⟨rfl,D2⟩;have D3:=a8 D2;clear D2
 go_wp2_with fail
 refine(D0.out w1 D3.out).mono ?_;rintro e w2⟨rfl,⟨vn',ys',hr,hg⟩,hb⟩;have HR:=a8 hr;have E2:=a8 ((D3.out.below E1.out E0).trans hb);clear hr hg hb;go_wp2;go_ret;exact⟨rfl,⟨_,_,_,_,_,HR.out⟩,E2.out⟩
theorem a9B(w:World)(B rb:Nat)(st:Rd)(fr:List Po)(o:Po)(ho:st.op=fr++[o])(hf:a1J st)(h:O8 w B rb st)(hB : 8<=B)(hW:Wd w)(hc:K5 [45,45,62] st.rest=none) :
 Calls Tryz.prog 116 #[.pointer (some ⟨rb,0,none⟩)] w fun e w'=>e=.returned (.bool false)/\Below B w w':=by
 obtain⟨vn,vo,vd,vt,ys,h⟩:=h;have D9:fr.length<=1000000:=by have:=hf.op;rw[ho,e8]at this;simp at this;omega
 have E0:B<=w.heap.size:=d8 h.lo (A6 (i3 h.box));have HT:=a8 (a0f st.rest [45,45,62] rb w h.curAt hW.max (by have:=hf.rest;omega) hc)
 have D0:Hid (∀w1,N7 rb (ba st.rest) w w1->_):=fun w1 D1=>a54 w1 B rb { st with rest:=st.rest } vn vo vd vt ys fr o (a15 []) (.slice none 0 0) (.slice none 0 0) ho D9 hf.ns hf.tx (h.cur D1) ⟨r5 _ _ _ _,r5 _ _ _ _⟩ (.inl rfl);have E1:=a8 h.lo;clear h hc hW ho;go_enter Tryz.func116,Tryz.ntmps116
 go_wp2_with fail
 refine HT.out.mono ?_;rintro e w1⟨rfl,D2⟩;have D3:=a8 D2;clear D2
 go_wp2_with fail
 refine(D0.out w1 D3.out).mono ?_;rintro e w2⟨rfl,⟨vn',ys',hr,hg⟩,hb⟩;have E2:=a8 ((D3.out.below E1.out E0).trans hb);clear hr hg hb;go_wp2;go_ret;exact⟨rfl,E2.out⟩
theorem a52{w:World}{ops:Array Oper}{rest:List Oper}{o:Oper}{a:Act}{Q:Exit->Act->World->Prop}(D1:o.guard=none)(s x:Operand)
 (ho:o.op=.call { callee:=.builtin .append,args:=#[s,x],argTypes:=#[22,9] }) (B:Nat) (l:List UInt8) (v:Value) (hs:a.eval s=v) (D0:w.ownsRow B 5 1 v l.length (P6 l)) (hB:B<=w.heap.size)
 (S:ByteArray) (hx:a.eval x=.string S) (hn:l.length+S.size<=1000000000)
 (h:∀v' w',w'.ownsRow B 5 1 v' (l.length+S.size) (P6 (l++S.data.toList))->w.grownBy w' v.ownBlock->wpList Tryz.prog ops Q rest (a.put o.dst v') w'):wpList Tryz.prog ops Q (o::rest) a w:=by
 refine wpList_plain D1 fun K hK => ?_;obtain⟨i0,hi,D2,D3,D9⟩:=info_parts a4B;obtain⟨v',w',hr,h2,h3,_⟩:=Lib.run_append_own_string (P:=Tryz.prog) w B 22 9 o.type 5 i0 Tryz.underlying22 Tryz.underlying9 hi D2 D3 D9 v l.length (P6 l) D0 S (by unfold maxLen;omega) (by omega) hB
 have e:P6 l++Lib.strCells S=P6 (l++S.data.toList):=by rw[a2c];rfl
 rw[e]at h2;unfold Oper.wp execOp;simp only[ho,resolve,invoke,builtin,Sem.run_bind,Sem.run_pure,Result.andThen_ok,List.map_toArray,List.map_cons,List.map_nil,hs,hx,hr];exact hK _ _ (h v' w' h2 h3)
theorem S7.texted{w w1:World}{B rb:Nat}{st:Rd}{vn vo vd vt v1:Value}{ys:List Ny}{t:List UInt8}(h:S7 w B rb st vn vo vd vt ys)(D0:∀b,b<w.heap.size->vt.ownBlock≠some b->w1.heap[b]? = w.heap[b]?)(D2:w1.ownsRow B 5 1 v1 t.length (P6 t)):S7 (w1.setCell ⟨rb,4,none⟩ v1) B rb { st with tx:=t } vn vo vd v1 ys:=by
 have D3:w1.heap[rb]? = w.heap[rb]?:=D0 rb (i3 h.box) (fun e1=>by
  obtain⟨_,⟨e2,_⟩|⟨g,cap,cur,e2,_,hh,_⟩⟩:=h.rt
  ·rw[e2]at e1;simp[Value.ownBlock]at e1
  ·rw[e2]at e1
   simp only[Value.ownBlock,f5]at e1;rw[e1,h.box]at hh;simp at hh)
 have keep:∀{e s n:Nat} {v:Value} {xs:List Value},e≠5->w.ownsRow B e s v n xs->w1.ownsRow B e s v n xs:=fun {e s n v xs} he ho=>r6 ho (fun b hb ⟨cs,hc⟩=>D0 b (i3 hc) (fun e0=>by
  rcases a1V ho h.rt he with h0|h0
  ·rw[hb]at h0;cases h0
  ·exact h0 (hb.trans e0.symm)))
 have D1:∀(b:Nat) (e:TypeId) (cs:Array Value),e≠119->w1.heap[b]? = some (.cells cs e (0,0))->(w1.setCell ⟨rb,4,none⟩ v1).heap[b]? = w1.heap[b]?:=fun b e cs he hb=>f7 _ _ _ _ (B7 hb (D3.trans h.box) he);have keep2:∀{e s n:Nat} {v:Value} {xs:List Value},e≠5->e≠119->w.ownsRow B e s v n xs->(w1.setCell ⟨rb,4,none⟩ v1).ownsRow B e s v n xs:=fun {e s n v xs} he D9 ho=>r6 (keep he ho) (fun b _ ⟨cs,hc⟩=>D1 b _ cs D9 hc)
 exact⟨h.lo,by rw[o8 (D3.trans h.box)];rfl,h.ns,keep2 (by decide) (by decide) h.rn,keep2 (by decide) (by decide) h.ro,keep2 (by decide) (by decide) h.rd,r6 D2 (fun b _ ⟨cs,hc⟩=>D1 b _ cs (by decide) hc),
  fun y hy=>⟨keep2 (by decide) (by decide) (h.ry y hy).1,keep2 (by decide) (by decide) (h.ry y hy).2⟩,h.di⟩
theorem S7.grown4{w w1:World}{B rb:Nat}{st:Rd}{vn vo vd vt:Value}{ys:List Ny}(h:S7 w B rb st vn vo vd vt ys)(hg:w.grownBy w1 vt.ownBlock):w1.heap[rb]? = w.heap[rb]?:=hg.block rb (i3 h.box) (fun e=>by
 obtain⟨_,⟨e2,_⟩|⟨g,cap,cur,e2,_,hh,_⟩⟩:=h.rt
 ·rw[e2]at e;simp[Value.ownBlock]at e
 ·rw[e2]at e
  simp only[Value.ownBlock,f5]at e;rw[<-e,h.box]at hh;simp at hh)
theorem b5f(w:World)(B rb:Nat)(st:Rd)(hf:a1J st)(h:O8 w B rb st)(hW:Wd w)(p r:List UInt8)(hc:K5 [93,93,62] st.rest=some (p,r)) :
 Calls Tryz.prog 117 #[.pointer (some ⟨rb,0,none⟩)] w fun e w'=>e=.returned (.bool (!decide (st.op.length=1)))/\O8 w' B rb { st with rest:=r,tx:=st.tx++p }/\Below B w w':=by
 obtain⟨vn,vo,vd,vt,ys,h⟩:=h;have E2:B<=w.heap.size:=d8 h.lo (A6 (i3 h.box));have G1:=(P4 hc).1;have G4:=hf.rest;have G5:=hf.tx;have HT:=a8 (a0e st.rest [93,93,62] p r rb w h.curAt hW.max (by have:=hf.rest;omega) hc)
 have H:=a8 h;obtain⟨At,ct,rfl,_,_⟩:=q9 h.rt;have E6:(ba p).size=p.length:=I9 p;clear h hc hW hf;go_enter Tryz.func117,Tryz.ntmps117
 go_wp2_with fail
 refine HT.out.mono ?_;rintro e w1⟨rfl,D9⟩;have H1:=a8 (H.out.cur D9);have E7:=a8 (D9.below H.out.lo E2);have D3:B<=w1.heap.size:=d8 E2 D9.size;have k4:=H1.out.cell.2.2.2.2;have kf:=H1.out.frozen;have E3:=a8 H1.out.rt;clear D9
 go_wp2_with (first
  |(at_builtin;refine a52 rfl (.tmp 16) (.tmp 17) rfl B st.tx (.slice At st.tx.length ct) rfl E3.out D3 (ba p) rfl (by omega) ?_;intro v1 wa D2 D0;have E0:=(H1.out.grown4 D0).trans H1.out.box;have kc:wa.cell? ⟨rb,4,none⟩=some (.slice At st.tx.length ct):=(by rw[d9 wa rb 4 _ _ _ E0];rfl);have kfa:wa.frozen? ⟨rb,4,none⟩=false:=(by unfold World.frozen?;rw[E0];simp);have E1:=a8 D2;have E4:=a8 D0;obtain⟨A1,c1,rfl,_,_⟩:=q9 D2;clear D2 D0 E0)
  |fail)
 have D1:wa.ownsRow B 5 1 (.slice A1 (st.tx.length+(ba p).size) c1) (st.tx++p).length (P6 (st.tx++p)):=by
  have:=E1.out;rw[B5]at this;rw[e8,<-E6];exact this
 have E5:Below B w1 wa:=(b8 B w1).grown E4.out D3 (fun k hk=>(E3.out.lt k hk).1);have HR:=a8 (H1.out.texted (fun b hb E8=>E4.out.block b hb (fun e=>E8 e.symm)) D1);have G0:=a8 ((E7.out.trans E5).setCell (p:=⟨rb,4,none⟩) H.out.lo (.slice A1 (st.tx.length+(ba p).size) c1));clear D1 E5 k4 kf kc kfa
 go_wp2_with fail
 refine(U1 _ B rb _ ⟨_,_,_,_,_,HR.out⟩).mono ?_;rintro e w3⟨rfl,hw⟩;rw[hw];clear hw;go_wp2;go_ret;exact⟨rfl,⟨_,_,_,_,_,HR.out⟩,G0.out⟩
theorem b5g(w:World)(B rb:Nat)(st:Rd)(hf:a1J st)(h:O8 w B rb st)(hW:Wd w)(hc:K5 [93,93,62] st.rest=none) :
 Calls Tryz.prog 117 #[.pointer (some ⟨rb,0,none⟩)] w fun e w'=>e=.returned (.bool false)/\Below B w w':=by
 obtain⟨vn,vo,vd,vt,ys,h⟩:=h;have E0:B<=w.heap.size:=d8 h.lo (A6 (i3 h.box));have E7:=hf.tx;have HT:=a8 (a0f st.rest [93,93,62] rb w h.curAt hW.max (by have:=hf.rest;omega) hc)
 have H:=a8 h;obtain⟨At,ct,rfl,_,_⟩:=q9 h.rt;clear h hc hW hf;go_enter Tryz.func117,Tryz.ntmps117
 go_wp2_with fail
 refine HT.out.mono ?_;rintro e w1⟨rfl,D3⟩;have H1:=a8 (H.out.cur D3);have E3:=a8 (D3.below H.out.lo E0);have D2:B<=w1.heap.size:=d8 E0 D3.size;have k4:=H1.out.cell.2.2.2.2;have kf:=H1.out.frozen;have E1:=a8 H1.out.rt;clear D3
 go_wp2_with (first
  |(at_builtin;refine a52 rfl (.tmp 16) (.tmp 17) rfl B st.tx (.slice At st.tx.length ct) rfl E1.out D2 ⟨#[]⟩ rfl (by show _+0<=_;omega) ?_;intro v1 wa D1 D0;have D9:=(H1.out.grown4 D0).trans H1.out.box;have kc:wa.cell? ⟨rb,4,none⟩=some (.slice At st.tx.length ct):=(by rw[d9 wa rb 4 _ _ _ D9];rfl);have kfa:wa.frozen? ⟨rb,4,none⟩=false:=(by unfold World.frozen?;rw[D9];simp);have E4:=a8 D1;have E5:=a8 D0;obtain⟨A1,c1,rfl,_,_⟩:=q9 D1;clear D1 D0 D9)
  |fail)
 have E2:Below B w1 wa:=(b8 B w1).grown E5.out D2 (fun k hk=>(E1.out.lt k hk).1);have E6:Hid (∀v,Below B w (wa.setCell ⟨rb,4,none⟩ v)):=fun v=>(E3.out.trans E2).setCell (p:=⟨rb,4,none⟩) H.out.lo v;clear E2 k4 kf kc kfa;go_wp2;go_ret;exact⟨rfl,E6.out _⟩
end Go.Proofs.YtlgcigmolfhamaaGreatDoor
