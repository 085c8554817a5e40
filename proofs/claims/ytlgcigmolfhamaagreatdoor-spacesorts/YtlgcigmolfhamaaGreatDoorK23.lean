/-
  parse.reader: meant. Conditions: the reader lies as it is; there are not too many declarations.
  parse.reader: the declarations above have grown, something more is open. Conditions: none.
  What begin stands on: an element's box and rows beside the reader's. Conditions: none.
  Texts without the blanks at their ends, the program's and the document's. Conditions: the text is not too long.
  Lines, references, and texts with their references' characters, on lists of bytes. Conditions: none.
-/
import Derived.Test.YtlgcigmolfhamaaGreatDoorK19
import Derived.Test.YtlgcigmolfhamaaGreatDoorK22
import Derived.Test.YtlgcigmolfhamaaGreatDoorK21
import Derived.StillTailTactics
import Derived.Test.YtlgcigmolfhamaaGreatDoorK08
import Derived.Test.YtlgcigmolfhamaaGreatDoorK09
import Derived.Test.YtlgcigmolfhamaaGreatDoorK00
namespace Go.Proofs.YtlgcigmolfhamaaGreatDoor
set_option linter.unusedVariables false
set_option maxRecDepth 100000
set_option maxHeartbeats 8000000
section
open Go.RowKit
noncomputable def a0l(ds:List Dc)(p:ByteArray):ByteArray:=if p.data.toList=[120,109,108]then⟨a3T.toArray⟩else(a0b ds.reverse p.data.toList).getD ⟨#[]⟩
def c05(w:World)(ds:List Dc)(p:List UInt8)(i:Value)(wr:World):Prop:=∃k:Nat,k<=ds.length/\i=.int .i64 ((k:Int)-1)/\(∀j (hj:j<ds.length),k<=j->ds[j].p.data.toList≠p)/\wr=w
theorem b9T{ds:List Dc}{k:Nat}(hk:k<ds.length):∃h:ds.length-1-k<ds.reverse.length,ds.reverse[ds.length-1-k]'h=ds[k]:=by
 refine⟨by rw[List.length_reverse];omega,?_⟩
 rw[List.getElem_reverse]
 congr 1
 omega
theorem b8T{ds:List Dc}{p:List UInt8}{k:Nat}(hk:k<ds.length)(h:ds[k].p.data.toList=p)(D0:∀j (hj:j<ds.length),k+1<=j->ds[j].p.data.toList≠p):a0b ds.reverse p=some ds[k].u:=by
 obtain⟨h1,h2⟩:=b9T hk
 have:=b3u (ds:=ds.reverse) (s:=p) h1 (by rw[h2];exact h) (fun j hj D1=>by
  rw[List.getElem_reverse];exact D0 _ _ (by omega))
 rw[this,h2]
theorem b40{ds:List Dc}{p:List UInt8}(D0:∀j (hj:j<ds.length),ds[j].p.data.toList≠p):a0b ds.reverse p=none:=a42 (fun j hj=>by
 rw[List.getElem_reverse];exact D0 _ _)
theorem a6t(w:World)(B rb:Nat)(st:Rd)(p:ByteArray)(h:O8 w B rb st)(hd:st.ds.length<=1000000):Calls Tryz.prog 200 #[.pointer (some ⟨rb,0,none⟩),.string p] w fun e w'=>e=.returned (.string (a0l st.ds p))/\w'=w:=by
 obtain⟨vn,vo,vd,vt,ys,h⟩:=h;obtain⟨_,_,_,c3,_⟩:=h.cell
 have D0:∀k (hk:k<st.ds.length),∃g cap,vd=.slice (some ⟨g,0,none⟩) st.ds.length cap/\w.cell? ⟨g,k*2,none⟩=some (.string st.ds[k].p)/\w.cell? ⟨g,k*2+1,none⟩=some (.string st.ds[k].u):=fun k hk=>by
  obtain⟨h1,⟨_,h2⟩|⟨g,cap,cur,e,hg,hh,hn,hc,hs,ht⟩⟩:=h.rd
  ·omega
  ·refine⟨g,cap,e,?_⟩
   have E0:∀j,j<2->w.cell? ⟨g,k*2+j,none⟩=(C1 st.ds[k])[j]?:=fun j hj=>by
    rw[d9 w g _ cur _ _ hh,<-A9];have e2:cur.toList[k*2+j]? = (st.ds.flatMap C1)[k*2+j]?:=by rw[<-ht,List.getElem?_take_of_lt (by omega)]
    rw[e2,Q6 (f:=C1) (c:=2) (fun _=>rfl) st.ds k j hk hj]
   exact⟨E0 0 (by omega),E0 1 (by omega)⟩
 have HC:=a8 D0;obtain⟨A,cap,rfl,_,_⟩:=q9 h.rd;clear h D0;obtain⟨ds,E1⟩ : ∃ds,st.ds=ds:=⟨_,rfl⟩;rw[E1]at c3 HC hd ⊢;clear E1;unfold a0l;by_cases hx:p.data.toList=[120,109,108]
 ·rw[g8 hx]
  have t1:(p.toList == [120,109,108])=true:=by rw[f9,hx];rfl
  have E2:(⟨a3T.toArray⟩ : ByteArray)=⟨#[104,116,116,112,58,47,47,119,119,119,46,119,51,46,111,114,103,47,88,77,76,47,49,57,57,56,47,110,97,109,101,115,112,97,99,101]⟩:=rfl;have E4:=a8 E2;clear hx E2;go_enter Tryz.func200,Tryz.ntmps200;go_wp2;go_ret;exact⟨by rw[E4.out];rfl,rfl⟩
 ·rw[f6 hx]
  have t1:(p.toList == [120,109,108])=false:=by
   rw[f9,e9];exact hx
  clear hx;obtain⟨R,hR⟩ : ∃R,(a0b ds.reverse p.data.toList).getD ⟨#[]⟩=R:=⟨_,rfl⟩;rw[hR];have HR:=a8 hR;clear hR;obtain⟨n,hn⟩ : ∃n,ds.length=n:=⟨_,rfl⟩;have HN:=a8 hn;rw[hn]at c3 hd;clear hn;go_enter Tryz.func200,Tryz.ntmps200;go_wp2
  go_loopw [5] (c05 w ds p.data.toList) (fun i _=>(intOf i+1).toNat)
  case atStart=>exact⟨n,by rw[HN.out];exact c9 _,rfl,fun j hj h=>by rw[HN.out]at hj;omega,rfl⟩
  case round =>
   obtain⟨k,hk,rfl,E3,rfl⟩:=hrel;rw[HN.out]at hk;have D2:=a8 E3;clear E3;cases k with
   |zero =>
    have HF:Hid (a0b ds.reverse p.data.toList=none):=b40 (fun j hj=>D2.out j hj (o4 _));have D3:Hid (R=⟨#[]⟩):=by show _=_;rw[<-HR.out,HF.out];rfl
    go_wp2;go_ret;exact⟨by rw[D3.out];rfl,rfl⟩
   |succ k =>
    have D9:k<ds.length:=by rw[HN.out];omega
    have E5:((k+1:Nat):Int)-1=(k:Int):=by omega
    rw[E5];obtain⟨g,cap',eg,q0,q1⟩:=HC.out k D9;rw[HN.out]at eg;simp only[o5]at eg;obtain⟨rfl,-,rfl⟩:=eg;have D1:Hid (ds[k].p.data.toList=p.data.toList->a0b ds.reverse p.data.toList=some ds[k].u):=fun h=>b8T D9 h D2.out;have G0:(0:Int)<=(k:Int):=by omega
    have G1:(k:Int)<(n:Int):=by omega
    have G4:=a8 D9;generalize hx:ds[k]=x at *;obtain⟨P,U⟩:=x;dsimp only at q0 q1 D1;by_cases heq:P.data.toList=p.data.toList
    ·have t2:(P.toList==p.toList)=true:=by rw[x8,f9,f9,heq]
     have D3:Hid (R=U):=by show _=_;rw[<-HR.out,D1.out heq];rfl
     clear heq hx D1;go_wp2;go_ret;exact⟨by rw[D3.out];rfl,rfl⟩
    ·have t2:(P.toList==p.toList)=false:=by rw[e9,f9,f9];exact heq
     have E6:=a8 hx;have E7:=a8 heq;clear heq hx D1;go_wp2
     go_roundw
     case rel =>
      refine⟨k,by omega,by go_num,fun j hj E8 => ?_,rfl⟩
      rcases E9 E8 with h|h
      ·exact D2.out j hj h
      ·subst h
       exact fun h=>E7.out ((congrArg (fun d:Dc=>d.p.data.toList) E6.out).symm.trans h)
     case measure=>simp[intOf]
end
section
open Go.RowKit
theorem a3I{w:World}{B e s n rb:Nat}{v:Value}{xs:List Value}{cs:Array Value}(h:w.ownsRow B e s v n xs)(hb:w.heap[rb]? = some (.cells cs 119 (0,0)))(he:e≠119):v.ownBlock≠some rb:=fun e1=>by
 obtain⟨_,⟨e2,_⟩|⟨g,cap,cur,e2,_,hh,_⟩⟩:=h
 ·rw[e2]at e1;simp[Value.ownBlock]at e1
 ·rw[e2]at e1
  simp only[Value.ownBlock,f5]at e1;rw[e1,hb]at hh;simp only[f5,Obj.cells.injEq]at hh;exact he hh.2.1.symm
theorem J1{w w1:World}{B e s n B' e' s' n':Nat}{v v':Value}{xs xs':List Value}(D0:∀b,b<w.heap.size->v'.ownBlock≠some b->w1.heap[b]? = w.heap[b]?)(h':w.ownsRow B' e' s' v' n' xs')(he:e≠e'∨v.ownBlock=none∨v.ownBlock≠v'.ownBlock)(ho:w.ownsRow B e s v n xs):w1.ownsRow B e s v n xs:=r6 ho (fun b hb ⟨cs,hc⟩=>D0 b (i3 hc) (fun e0=>by
 rcases he with he|he
 ·rcases a1V ho h' he with h0|h0
  ·rw[hb]at h0;cases h0
  ·exact h0 (hb.trans e0.symm)
 ·rcases he with h0|h0
  ·rw[hb]at h0;cases h0
  ·exact h0 (hb.trans e0.symm)))
theorem R4{w1:World}{rb j:Nat}{cs0:Array Value}{v1:Value}(hb:w1.heap[rb]? = some (.cells cs0 119 (0,0))){B e s n:Nat}{v:Value}{xs:List Value}(he:e≠119)(ho:w1.ownsRow B e s v n xs):(w1.setCell ⟨rb,j,none⟩ v1).ownsRow B e s v n xs:=r6 ho (fun b _ ⟨cs,hc⟩=>f7 _ _ _ _ (B7 hc hb he))
theorem S7.declared{w w1:World}{B rb:Nat}{st:Rd}{vn vo vd vt v1:Value}{ys:List Ny}{ds:List Dc}(h:S7 w B rb st vn vo vd vt ys)(D0:∀b,b<w.heap.size->vd.ownBlock≠some b->w1.heap[b]? = w.heap[b]?)(D2:w1.ownsRow B 34 2 v1 ds.length (ds.flatMap C1))(D3:∀y∈ys,y.d.ownBlock=none∨y.d.ownBlock≠v1.ownBlock):S7 (w1.setCell ⟨rb,3,none⟩ v1) B rb { st with ds:=ds } vn vo v1 vt ys:=by
 have D9:w1.heap[rb]? = w.heap[rb]?:=D0 rb (i3 h.box) (a3I h.rd h.box (by decide))
 have D1:=D9.trans h.box
 exact⟨h.lo,by rw[o8 D1];rfl,h.ns,R4 D1 (by decide) (J1 D0 h.rd (.inl (by decide)) h.rn),R4 D1 (by decide) (J1 D0 h.rd (.inl (by decide)) h.ro),R4 D1 (by decide) D2,R4 D1 (by decide) (J1 D0 h.rd (.inl (by decide)) h.rt),
  fun y hy=>⟨R4 D1 (by decide) (J1 D0 h.rd (.inr (h.di y hy)) (h.ry y hy).1),R4 D1 (by decide) (J1 D0 h.rd (.inl (by decide)) (h.ry y hy).2)⟩,D3⟩
theorem S7.opened{w w1:World}{B rb:Nat}{st:Rd}{vn vo vd vt v1:Value}{ys:List Ny}{op:List Po}(h:S7 w B rb st vn vo vd vt ys)(D0:∀b,b<w.heap.size->vo.ownBlock≠some b->w1.heap[b]? = w.heap[b]?)(D2:w1.ownsRow B 116 3 v1 op.length (op.flatMap poC)):S7 (w1.setCell ⟨rb,2,none⟩ v1) B rb { st with op:=op } vn v1 vd vt ys:=by
 have D3:w1.heap[rb]? = w.heap[rb]?:=D0 rb (i3 h.box) (a3I h.ro h.box (by decide))
 have D1:=D3.trans h.box
 exact⟨h.lo,by rw[o8 D1];rfl,h.ns,R4 D1 (by decide) (J1 D0 h.ro (.inl (by decide)) h.rn),R4 D1 (by decide) D2,R4 D1 (by decide) (J1 D0 h.ro (.inl (by decide)) h.rd),R4 D1 (by decide) (J1 D0 h.ro (.inl (by decide)) h.rt),
  fun y hy=>⟨R4 D1 (by decide) (J1 D0 h.ro (.inl (by decide)) (h.ry y hy).1),R4 D1 (by decide) (J1 D0 h.ro (.inl (by decide)) (h.ry y hy).2)⟩,h.di⟩
theorem b6h:(Tryz.prog.info? 116).map (fun i=>(i.zero,i.size,i.bytes))=some (some (.agg #[.int .i64 0,.string ⟨#[]⟩,.int .i64 0]),3,32):=by kernel_rfl
theorem c0L{w:World}{ops:Array Oper}{rest:List Oper}{o:Oper}{a:Act}{Q:Exit->Act->World->Prop}(D2:o.guard=none)(s x:Operand)(ho:o.op=.call { callee:=.builtin .append,args:=#[s,x],argTypes:=#[117,117] })
 (B:Nat) (v:Value) (l:List Po) (hs:a.eval s=v) (D1:w.ownsRow B 116 3 v l.length (l.flatMap poC)) (g:Nat) (p:Po) (hx:a.eval x=.slice (some ⟨g,0,none⟩) 1 1) (D0:w.heap[g]? = some (.cells #[.int .i64 p.node,.string (ba p.full),.int .i64 p.outer] 116 (0,0))) (hn:l.length<=1000000) (hB:B<=w.heap.size)
 (h:∀v' w',w'.ownsRow B 116 3 v' (l++[p]).length ((l++[p]).flatMap poC)->w.grownBy w' v.ownBlock->wpList Tryz.prog ops Q rest (a.put o.dst v') w'):wpList Tryz.prog ops Q (o::rest) a w:=by
 refine wpList_plain D2 fun _ hK => ?_;obtain⟨i0,D3,D9,E0,E1⟩:=info_parts b6h
 obtain⟨v',w',hr,h2,h3,_,h5⟩:=run_append_own_at (P:=Tryz.prog) w B 117 o.type 116 i0 _ 3 _ Tryz.underlying117 D3 D9 E0 E1 rfl (by omega) v l.length _ D1 ⟨g,0,none⟩ 1 1 (poC p) (by simp[a8W]) (World.news_of_block D0) (fun u hu=>by
  unfold poC at hu;simp only[q8,C5,or_false]at hu;rcases hu with rfl|rfl|rfl<;>rfl) (by unfold maxLen;omega) (by omega) hB
 unfold Oper.wp execOp;simp only[ho,resolve,invoke,builtin,Sem.run_bind,Sem.run_pure,Result.andThen_ok,List.map_toArray,List.map_cons,List.map_nil,hs,hx,hr];refine hK _ _ (h v' w' ?_ h3);rw[e8,j0,D8];have e:[p].flatMap poC=poC p:=by simp
 rw[e];exact h2
end
section
open Go.RowKit
theorem S7.setNode{w:World}{B rb:Nat}{st:Rd}{vn vo vd vt:Value}{ys:List Ny}(h:S7 w B rb st vn vo vd vt ys){z j:Nat}{cs:Array Value}{u:Value}(hz:w.heap[z]? = some (.cells cs 46 (0,0)))(hn:vn.ownBlock≠some z):S7 (w.setCell ⟨z,j,none⟩ u) B rb st vn vo vd vt ys :=
 h.keep (f7 _ _ _ _ (fun e=>by have e':rb=z:=e;rw[<-e',h.box]at hz;simp at hz)) (fun b e cs' hb hc=>f7 _ _ _ _ (fun e0=>by
  have e1:b=z:=e0;subst e1;rw[hz]at hc;simp only[f5,Obj.cells.injEq]at hc;obtain⟨_,he,_⟩:=hc;rcases hb with⟨h1,_⟩|⟨_,h2⟩|⟨_,h2⟩|⟨_,h2⟩|⟨y,_,⟨_,h2⟩|⟨_,h2⟩⟩
  ·exact hn h1
  all_goals (rw[h2]at he;exact absurd he (by decide))))
theorem S7.setAttr{w:World}{B rb:Nat}{st:Rd}{vn vo vd vt:Value}{ys:List Ny}(h:S7 w B rb st vn vo vd vt ys){z j:Nat}{cs:Array Value}{u:Value}(hz:w.heap[z]? = some (.cells cs 103 (0,0)))(hn:∀y∈ys,y.a.ownBlock≠some z):S7 (w.setCell ⟨z,j,none⟩ u) B rb st vn vo vd vt ys :=
 h.keep (f7 _ _ _ _ (fun e=>by have e':rb=z:=e;rw[<-e',h.box]at hz;simp at hz)) (fun b e cs' hb hc=>f7 _ _ _ _ (fun e0=>by
  have e1:b=z:=e0;subst e1;rw[hz]at hc;simp only[f5,Obj.cells.injEq]at hc;obtain⟨_,he,_⟩:=hc;rcases hb with⟨_,h2⟩|⟨_,h2⟩|⟨_,h2⟩|⟨_,h2⟩|⟨y,hy,⟨_,h2⟩|⟨h1,_⟩⟩
  ·rw[h2]at he;exact absurd he (by decide)
  ·rw[h2]at he;exact absurd he (by decide)
  ·rw[h2]at he;exact absurd he (by decide)
  ·rw[h2]at he;exact absurd he (by decide)
  ·rw[h2]at he;exact absurd he (by decide)
  ·exact hn y hy h1))
noncomputable def a1I(ds:List Dc)(a:At):At:=if a.p.data.toList=[]then a else { a with u:=a0l ds a.p }
noncomputable def elM(ds:List Dc)(x:Nd):Nd:={ x with u:=a0l ds x.p,ats:=x.ats.map (a1I ds) }
noncomputable def a1s(st:Rd)(o:Po)(x:Nd)(full:List UInt8):Rd :=
 { a1o { st with ds:=st.ds++x.ds } o (elM (st.ds++x.ds) x)with op:=st.op++[⟨(Q1 { st with ds:=st.ds++x.ds } o).ns.length,full,st.ds.length⟩] }
structure a0X(w:World)(B:Nat)(ys:List Ny)(vd vD vA:Value)(ds:List Dc)(as':List At):Prop where
 rD:w.ownsRow B 34 2 vD ds.length (ds.flatMap C1)
 rA:w.ownsRow B 103 4 vA as'.length (as'.flatMap atC)
 dd:vD.ownBlock=none∨vD.ownBlock≠vd.ownBlock
 yd:∀y∈ys,y.d.ownBlock=none∨y.d.ownBlock≠vD.ownBlock
 ya:∀y∈ys,y.a.ownBlock=none∨y.a.ownBlock≠vA.ownBlock
theorem a1R{w:World}{B e s n:Nat}{v:Value}{xs:List Value}(h:w.ownsRow B e s v n xs):R1 w w.heap.size v n xs:=by
 obtain⟨hl,⟨rfl,rfl⟩|⟨g,cap,cur,rfl,hg,hh,hn,hc,hs,ht⟩⟩:=h
 ·refine⟨none,0,rfl,c9 _,by omega,fun D0=>absurd (j8 (by simpa using hl)) D0⟩
 ·refine⟨some ⟨g,0,none⟩,cap,rfl,hn,by unfold maxLen at hc;exact hc,fun _=>⟨g,0,rfl,i3 hh,fun j hj => ?_⟩⟩
  rw[F5,d9 w g j cur e (0,0) hh];have:cur.toList[j]? = xs[j]?:=by rw[<-ht,List.getElem?_take_of_lt (by rw[hl]at hj;exact hj)]
  rw[A9]at this;rw[this,i5 hj]
theorem b9b(l:List Dc):∀u∈l.flatMap C1,u.oneCell'=true:=fun u hu=>by
 obtain⟨a,_,h⟩:=List.mem_flatMap.1 hu;unfold C1 at h;simp only[q8,C5,or_false]at h;rcases h with rfl|rfl<;>rfl
theorem a2h{w:World}{B e s n z:Nat}{v:Value}{xs:List Value}{cs:Array Value}{t:TypeId}(h:w.ownsRow B e s v n xs)(hb:w.heap[z]? = some (.cells cs t (0,0)))(he:e≠t):v.ownBlock≠some z:=fun e1=>by
 obtain⟨_,⟨e2,_⟩|⟨g,cap,cur,e2,_,hh,_⟩⟩:=h
 ·rw[e2]at e1;simp[Value.ownBlock]at e1
 ·rw[e2]at e1
  simp only[Value.ownBlock,f5]at e1;rw[e1,hb]at hh;simp only[f5,Obj.cells.injEq]at hh;exact he hh.2.1.symm
theorem b0U{w:World}{B e s n:Nat}{v v0 v1:Value}{xs:List Value}(h:w.ownsRow B e s v n xs)(D0:v1.ownBlock=v0.ownBlock∨v1.ownBlock=some w.heap.size)(D1:v.ownBlock=none∨v.ownBlock≠v0.ownBlock):v.ownBlock=none∨v.ownBlock≠v1.ownBlock:=by
 rcases D1 with h0|h0
 ·exact .inl h0
 ·rcases D0 with h1|h1
  ·rw[h1];exact .inr h0
  ·cases hv:v.ownBlock with
   |none=>exact .inl rfl
   |some b =>
    refine .inr (fun e => ?_);rw[h1]at e;simp only[f5]at e;have:=(h.lt b hv).2;omega
theorem b1v{w:World}{B ga ca k:Nat}{l:List At}(h:w.ownsRow B 103 4 (.slice (some ⟨ga,0,none⟩) l.length ca) l.length (l.flatMap atC))(hk:k<l.length)(V:ByteArray) :
 (w.setCell ⟨ga,k*4+2,none⟩ (.string V)).ownsRow B 103 4 (.slice (some ⟨ga,0,none⟩) l.length ca) l.length ((l.set k { l[k]with u:=V }).flatMap atC):=by
 obtain⟨h1,⟨h2,_⟩|⟨g,cap,cur,e,hg,hh,hn,hc,hs,ht⟩⟩:=h
 ·cases h2
 ·simp only[o5,f5,Addr.mk.injEq,and_true,true_and]at e
  obtain⟨rfl,rfl⟩:=e;refine⟨by rw[N2 (f:=atC) (c:=4) (fun _=>rfl),List.length_set],.inr ⟨ga,ca,_,rfl,hg,o8 hh,hn,hc,by simpa using hs,?_⟩⟩
  apply List.ext_getElem?
  intro j;rw[List.getElem?_take];by_cases hj:j<l.length*4
  ·rw[g8 hj,A9,Array.getElem?_setIfInBounds]
   have hi:j/4<l.length:=by omega
   have hr:j%4<4:=Nat.mod_lt _ (by omega)
   have E0:j=j/4*4+j%4:=by omega
   have D0:=Q6 (f:=atC) (c:=4) (fun _=>rfl) (l.set k { l[k]with u:=V }) (j/4) (j%4) (by rw[List.length_set];exact hi) hr
   have D1:=Q6 (f:=atC) (c:=4) (fun _=>rfl) l (j/4) (j%4) hi hr;rw[<-E0]at D0 D1;have D2:cur[j]? = (l.flatMap atC)[j]?:=by rw[<-ht,List.getElem?_take_of_lt hj,A9]
   rw[D0];by_cases D3:k*4+2=j
   ·have e1:j/4=k:=by omega
    have e2:j%4=2:=by omega
    rw[g8 D3,g8 (by omega)]
    simp only[e1,e2,List.getElem_set_self]
    rfl
   ·rw[f6 D3,D2,D1]
    by_cases D9:j/4=k
    ·have E1:j%4≠2:=by omega
     simp only[D9,List.getElem_set_self]
     match j%4,hr,E1 with
     |0,_,_=>rfl
     |1,_,_=>rfl
     |2,_,h=>exact absurd rfl h
     |3,_,_=>rfl
    ·rw[List.getElem_set_ne (fun e=>D9 e.symm)]
  ·rw[f6 hj,List.getElem?_eq_none (by rw[N2 (f:=atC) (c:=4) (fun _=>rfl),List.length_set];omega)]
end
section
open Go.RowKit
def a2z(S:ByteArray):ByteArray:=⟨(a1O S.data.toList).toArray⟩
theorem a2d(S:ByteArray):(a2z S).data.toList=a1O S.data.toList:=by simp[a2z]
theorem b2Z(S:ByteArray):(a2z S).size<=S.size:=by
 obtain⟨a,b,e,_⟩:=a3E S.data.toList;have h:=congrArg List.length e;rw[j9,j9,a2d];simp at h ⊢;omega
def T1(w:World)(n:Nat)(i:Value)(wr:World):Prop:=∃k:Nat,k<=n/\i=.int .i64 k/\Below w.heap.size w wr
def T2(w:World)(m n:Nat)(i:Value)(wr:World):Prop:=∃k:Nat,m<=k/\k<=n/\i=.int .i64 k/\Below w.heap.size w wr
theorem b1P(S:ByteArray)(D1:S.size<=100000)(D0:∀i (h:i<S.data.toList.length),X0 S.data.toList[i]=true)(w:World):Calls Tryz.prog 163 #[.string S] w fun e w'=>e=.returned (.string (a2z S))/\Below w.heap.size w w':=by
 obtain⟨N,hN⟩ : ∃N,S.size=N:=⟨_,rfl⟩;have D3:S.data.toList.length=N:=by rw[<-j9];exact hN
 have HX:Hid (ByteArray.empty=a2z S):=G0 (by
  rw[a2d,a7B (t:=[]) (a:=S.data.toList) (b:=[]) (by simp) (by rw[o9];intro x hx;obtain⟨i,hi,rfl⟩:=List.getElem_of_mem hx;exact D0 i hi) rfl (fun c h=>by cases h) (fun c h=>by cases h)]
  rfl)
 have HI:Hid (∀i,i<N->∃c:UInt8,a7b (c.toNat:Int)=true/\∀w,(Instr.index 9 (.string S) (.int .i64 (i:Int))).run Tryz.prog w=.ok (.int .u8 (c.toNat:Int)) w):=fun i hi =>
  ⟨S.data.toList[i]'(by omega),by rw[a0r];exact D0 i _,G7 S (by omega)⟩
 rw[hN]at D1;clear D0 D3;go_enter Tryz.func163,Tryz.ntmps163;go_wp2
 go_loopw [3] (T1 w N) (fun i _=>N-(intOf i).toNat)
 case atStart=>exact⟨0,o4 _,rfl,b8 _ _⟩
 case round =>
  obtain⟨k,hk,rfl,hb⟩:=hrel;by_cases D2:k<N
  ·obtain⟨c,hc,E0⟩:=HI.out k D2
   have E1:(k:Int)<(N:Int):=by omega
   generalize (c.toNat:Int)=z at *
   go_wp2_with fail
   refine(a0E _ _).mono ?_;rintro e w'⟨rfl,hw⟩;rw[hw,hc];go_wp2
   go_roundw
   case rel=>exact⟨k+1,D2,by go_num,hb⟩
   case measure=>simp[intOf];omega
  ·obtain rfl:k=N:=by omega
   clear HI;go_wp2;refine wp_loop_rounds 1 ?_;rw[rounds_succ]
   go_wp2_with fail
   refine(M8 _ (by rw[HX.out];have:=b2Z S;omega) _).mono ?_
   rintro e w5⟨rfl,D9⟩;go_wp2;go_ret;exact⟨by rw[HX.out];rfl,hb.trans (D9.mono hb.size)⟩
theorem b4c(S:ByteArray)(D3:S.size<=100000)(a t b:List UInt8)(hS:S.data.toList=a++(t++b))(ha:a.all X0=true)(hb:b.all X0=true)(h1:∀c,t.head? = some c->X0 c=false)(h2:∀c,t.getLast? = some c->X0 c=false)(ht:t≠[])(w:World):Calls Tryz.prog 163 #[.string S] w fun e w'=>e=.returned (.string (a2z S))/\Below w.heap.size w w':=by
 obtain⟨N,hN⟩ : ∃N,S.size=N:=⟨_,rfl⟩;have E2:S.data.toList.length=N:=by rw[<-j9];exact hN
 obtain⟨I,hI⟩ : ∃I,a.length=I:=⟨_,rfl⟩;obtain⟨J,hJ⟩ : ∃J,a.length+t.length=J:=⟨_,rfl⟩;have D9:0<t.length:=D7.2 ht;have D2:I+t.length+b.length=N:=by rw[<-E2,hS,<-hI];simp;omega
 have HX:Hid (S.extract I J=a2z S):=G0 (by
  rw[J5,a2d,a7B hS ha hb h1 h2,hS,<-hI,<-hJ,<-List.append_assoc,<-e8,List.take_left,List.drop_left])
 have at_:∀i (h:i<N),S.data.toList[i]'(by omega)=(a++(t++b))[i]'(by rw[<-hS];omega):=fun i h=>by simp[hS]
 have HA:Hid (∀i,i<I->∃c:UInt8,a7b (c.toNat:Int)=true/\∀w,(Instr.index 9 (.string S) (.int .i64 (i:Int))).run Tryz.prog w=.ok (.int .u8 (c.toNat:Int)) w):=fun i hi =>
  ⟨S.data.toList[i]'(by omega),by
   rw[a0r,at_ i (by omega),List.getElem_append_left (by omega)]
   exact o9.1 ha _ (o0 _),G7 S (by omega)⟩
 have HF:Hid (∃c:UInt8,a7b (c.toNat:Int)=false/\∀w,(Instr.index 9 (.string S) (.int .i64 (I:Int))).run Tryz.prog w=.ok (.int .u8 (c.toNat:Int)) w) :=
  ⟨S.data.toList[I]'(by omega),by
   rw[a0r,at_ I (by omega),List.getElem_append_right (by omega)]
   have e:I-a.length=0:=by omega
   simp only[e];rw[List.getElem_append_left D9];exact h1 _ (by rw[List.head?_eq_getElem?,i5 D9]),G7 S (by omega)⟩
 have HB:Hid (∀i,J<=i->i<N->∃c:UInt8,a7b (c.toNat:Int)=true/\∀w,(Instr.index 9 (.string S) (.int .i64 (i:Int))).run Tryz.prog w=.ok (.int .u8 (c.toNat:Int)) w):=fun i hj hi =>
  ⟨S.data.toList[i]'(by omega),by
   rw[a0r,at_ i (by omega),List.getElem_append_right (by omega),List.getElem_append_right (by omega)]
   exact o9.1 hb _ (o0 _),G7 S (by omega)⟩
 have HL:Hid (∃c:UInt8,a7b (c.toNat:Int)=false/\∀w,(Instr.index 9 (.string S) (.int .i64 ((J-1:Nat):Int))).run Tryz.prog w=.ok (.int .u8 (c.toNat:Int)) w) :=
  ⟨S.data.toList[J-1]'(by omega),by
   rw[a0r,at_ (J-1) (by omega),List.getElem_append_right (by omega),List.getElem_append_left (by omega)]
   have e:J-1-a.length=t.length-1:=by omega
   simp only[e];exact h2 _ (by rw[List.getLast?_eq_getElem?,i5 (by omega)]),G7 S (by omega)⟩
 have E8:I<J:=by omega
 have E5:J<=N:=by omega
 rw[hN]at D3;clear hS ha hb h1 h2 ht hI hJ D9 D2 at_ E2;go_enter Tryz.func163,Tryz.ntmps163;go_wp2
 go_loopw [3] (T1 w I) (fun i _=>I-(intOf i).toNat)
 case atStart=>exact⟨0,o4 _,rfl,b8 _ _⟩
 case round =>
  obtain⟨k,hk,rfl,hb⟩:=hrel;have E6:(k:Int)<(N:Int):=by omega
  by_cases E0:k<I
  ·obtain⟨c,hc,D0⟩:=HA.out k E0
   generalize (c.toNat:Int)=z at *
   go_wp2_with fail
   refine(a0E _ _).mono ?_;rintro e w'⟨rfl,hw⟩;rw[hw,hc];go_wp2
   go_roundw
   case rel=>exact⟨k+1,E0,by go_num,hb⟩
   case measure=>simp[intOf];omega
  ·obtain rfl:k=I:=by omega
   obtain⟨c,hc,D0⟩:=HF.out;generalize (c.toNat:Int)=z at *;clear HF HA
   go_wp2_with fail
   refine(a0E _ _).mono ?_;rintro e w'⟨rfl,hw⟩;rw[hw,hc];go_wp2;clear D0 hc hw E6
   go_loopw [4] (T2 w J N) (fun i _=>(intOf i).toNat)
   case atStart=>exact⟨N,E5,c9 _,rfl,hb⟩
   case round =>
    clear hb;obtain⟨j,G1,G4,rfl,hb⟩:=hrel;have G5:(k:Int)<(j:Int):=by omega
    obtain⟨i,E3⟩ : ∃i,i+1=j:=⟨j-1,by omega⟩
    have G6:((j:Int)-1)=(i:Int):=by omega
    have D1:=a8 E3;clear E3;by_cases E0:J<j
    ·obtain⟨c,hc,D0⟩:=HB.out i (by have:=D1.out;omega) (by have:=D1.out;omega)
     generalize (c.toNat:Int)=z at *
     go_wp2_with fail
     refine(a0E _ _).mono ?_;rintro e w'⟨rfl,hw⟩;rw[hw,hc];go_wp2
     go_roundw
     case rel=>exact⟨i,by have:=D1.out;omega,by have:=D1.out;omega,by go_num,hb⟩
     case measure=>have:=D1.out;simp[intOf];omega
    ·obtain rfl:j=J:=by omega
     obtain⟨c,hc,D0⟩:=HL.out;have E4:j-1=i:=by have:=D1.out;omega
     rw[E4]at D0;clear E4;have E1:∀w,(Instr.index 9 (.string S) (.int .i64 (i:Int))).run Tryz.prog w=.ok (.int .u8 (c.toNat:Int)) w:=D0;generalize (c.toNat:Int)=z at *;clear D0
     go_wp2_with fail
     refine(a0E _ _).mono ?_;rintro e w'⟨rfl,hw⟩;rw[hw,hc];clear E1 hc HB HL;have g1:(k:Int)<=(j:Int):=by omega
     have g2:(j:Int)<=(N:Int):=by omega
     go_wp2_with fail
     refine(M8 _ (by rw[HX.out];have:=b2Z S;omega) _).mono ?_
     rintro e w5⟨rfl,E7⟩;go_wp2;go_ret;exact⟨by rw[HX.out];rfl,hb.trans (E7.mono hb.size)⟩
theorem b5K(S:ByteArray)(D0:S.size<=100000)(w:World):Calls Tryz.prog 163 #[.string S] w fun e w'=>e=.returned (.string (a2z S))/\Below w.heap.size w w':=by
 obtain⟨a,b,e,ha,hb,h1,h2⟩:=a3E S.data.toList;by_cases ht:a1O S.data.toList=[]
 ·refine b1P S D0 (fun i hi => ?_) w
  rw[ht,l7]at e;have D1:(S.data.toList).all X0=true:=by rw[e,List.all_append,ha,hb];rfl
  exact o9.1 D1 _ (o0 _)
 ·exact b4c S D0 a _ b e ha hb h1 h2 ht w
end
def C4:List UInt8->List UInt8
 | [] => []
 |c::r=>if c=13 then(if r.head? = some 10 then C4 r else 10::C4 r)else c::C4 r
theorem Y5(c:UInt8)(r:List UInt8):C4 (c::r)=if c=13 then(if r.head? = some 10 then C4 r else 10::C4 r)else c::C4 r:=rfl
theorem b0O:∀(s:List UInt8),(13:UInt8)∉C4 s
 | []=>by simp[C4]
 |c::r=>by
  rw[C4];have ih:=b0O r
  split
  ·split
   ·exact ih
   ·simp[ih]
  ·next h=>simp[ih,Ne.symm h]
theorem a2I:∀(s:List UInt8),(C4 s).length<=s.length
 | []=>by simp[C4]
 |c::r=>by
  rw[C4];have ih:=a2I r
  split
  ·split
   ·simp;omega
   ·simp;omega
  ·simp;omega
def a9w(c:UInt8):Option Nat:=if 48<=c.toNat/\c.toNat<=57 then some (c.toNat-48)else if 97<=c.toNat/\c.toNat<=102 then some (c.toNat-87)else if 65<=c.toNat/\c.toNat<=70 then some (c.toNat-55)else none
def dig(base:Nat)(c:UInt8):Option Nat:=match a9w c with|none=>none|some d=>if d<base then some d else none
def a6A(base:Nat):Nat->List UInt8->Option Nat
 |n,[]=>some n
 |n,c::r=>match dig base c with|none=>none|some d=>a6A base (n*base+d) r
theorem a4T(base n:Nat)(c:UInt8)(r:List UInt8):a6A base n (c::r)=match dig base c with|none=>none|some d=>a6A base (n*base+d) r:=rfl
def a5x(base:Nat):Nat->List UInt8->Option Nat
 |n,[]=>some n
 |n,c::r=>match dig base c with|none=>none|some d=>a5x base (if n<2097152 then n*base+d else n) r
theorem a0A(base n:Nat)(c:UInt8)(r:List UInt8):a5x base n (c::r)=match dig base c with|none=>none|some d=>a5x base (if n<2097152 then n*base+d else n) r:=rfl
def b6x(n k:Nat):Prop:=n=k∨(2097152<=n/\2097152<=k)
theorem b4A{base n k d:Nat}(hb:1<=base)(h:b6x n k):b6x (n*base+d) (if k<2097152 then k*base+d else k):=by
 have h2:n<=n*base:=Nat.le_mul_of_pos_right n hb;rcases h with rfl|⟨h1,h3⟩
 ·split
  ·exact .inl rfl
  ·exact .inr ⟨by omega,by omega⟩
 ·rw[f6 (by omega)]
  exact .inr ⟨by omega,h3⟩
theorem b26{base:Nat}(hb:1<=base):∀{s:List UInt8} {n k:Nat},b6x n k->(a6A base n s=none/\a5x base k s=none)∨∃m j,a6A base n s=some m/\a5x base k s=some j/\b6x m j
 | [],n,k,h => .inr ⟨n,k,rfl,rfl,h⟩
 |c::r,n,k,h=>by
  rw[a4T,a0A];cases dig base c with
  |none=>exact .inl ⟨rfl,rfl⟩
  |some d=>exact b26 hb (b4A hb h)
theorem b6w{m j:Nat}(h:b6x m j):P9 (m:Int)=P9 (j:Int)/\(P9 (m:Int)=true->m=j):=by
 rcases h with rfl|⟨h1,h2⟩
 ·exact⟨rfl,fun _=>rfl⟩
 ·have e1:P9 (m:Int)=false:=by simp only[P9,F4];omega
  have e2:P9 (j:Int)=false:=by simp only[P9,F4];omega
  exact⟨by rw[e1,e2],fun h=>by rw[e1]at h;cases h⟩
def a3w(base:Nat)(s:List UInt8):Option (List UInt8):=if s=[]then none else match a6A base 0 s with|none=>none|some n=>if P9 (n:Int)=true then some (C3 (n:Int))else none
theorem b1m(base:Nat)(hb:1<=base)(s:List UInt8):a3w base s=if s=[]then none else match a5x base 0 s with|none=>none|some n=>if P9 (n:Int)=true then some (C3 (n:Int))else none:=by
 rw[a3w]
 split
 ·rfl
 ·rcases b26 hb (s:=s) (n:=0) (k:=0) (.inl rfl)with⟨h1,h2⟩|⟨m,j,h1,h2,h3⟩
  ·rw[h1,h2]
  ·rw[h1,h2]
   dsimp only;obtain⟨e,e'⟩:=b6w h3;cases hx:P9 (m:Int)with
   |false=>rw[<-e,hx,f6 (by simp),f6 (by simp)]
   |true=>rw[<-e,hx,g8 rfl,g8 rfl,e' hx]
def X1(s:List UInt8):Option (List UInt8) :=
 if s=[108,116]then some [60]else if s=[103,116]then some [62]else if s=[97,109,112]then some [38]else if s=[97,112,111,115]then some [39]else if s=[113,117,111,116]then some [34]
 else if s.head? = some 35 then(if s.tail.head? = some 120 then a3w 16 s.tail.tail else a3w 10 s.tail)else none
theorem b0n(s:List UInt8)(h:s.head?≠some 120):X1 (35::s)=a3w 10 s:=by
 unfold X1;rw[f6 (by simp),f6 (by simp),f6 (by simp),f6 (by simp),f6 (by simp),g8 (by simp),f6 (by simpa using h)]
 rfl
theorem b0o(s:List UInt8):X1 (35::120::s)=a3w 16 s:=by
 unfold X1;rw[f6 (by simp),f6 (by simp),f6 (by simp),f6 (by simp),f6 (by simp),g8 (by simp),g8 (by simp)]
 rfl
def a0C(b:Bool)(c:UInt8):UInt8:=if b=true/\(c=9∨c=10∨c=13)then 32 else c
def a0w(b:Bool):Option (List UInt8)->List UInt8->Option (List UInt8)
 |none,[]=>some []
 |some _,[]=>none
 |none,c::r=>if c=60 then none else if c=38 then a0w b (some []) r else(a0w b none r).map (a0C b c :: ·)
 |some p,c::r=>if c=59 then(match X1 p with|none=>none|some y=>(a0w b none r).map (y++·))else a0w b (some (p++[c])) r
def M9(b:Bool)(s:List UInt8):Option (List UInt8):=a0w b none s
theorem a8c{b:Bool}:∀{x p:List UInt8},(59:UInt8)∉x->∀r,a0w b (some p) (x++59::r)=match X1 (p++x)with|none=>none|some y=>(M9 b r).map (y++·)
 | [],p,_,r=>by rw[l7,A7,a0w,g8 rfl];rfl
 |c::x,p,h,r=>by
  simp only[q8,not_or]at h;rw[i9,a0w,f6 (Ne.symm h.1),a8c h.2];rw[List.append_assoc];rfl
theorem b04{b:Bool}:∀{x p:List UInt8},(59:UInt8)∉x->a0w b (some p) x=none
 | [],p,_=>rfl
 |c::x,p,h=>by
  simp only[q8,not_or]at h;rw[a0w,f6 (Ne.symm h.1),b04 h.2]
theorem b3x(b:Bool):M9 b []=some []:=rfl
theorem c0u(b:Bool)(r:List UInt8):M9 b (60::r)=none:=by rw[M9,a0w,g8 rfl]
theorem b3w{b:Bool}{x:List UInt8}(h:(59:UInt8)∉x)(r:List UInt8):M9 b (38::(x++59::r))=match X1 x with|none=>none|some y=>(M9 b r).map (y++·):=by
 rw[M9,a0w,f6 (by decide),g8 rfl,a8c h,l7]
theorem b03{b:Bool}{x:List UInt8}(h:(59:UInt8)∉x):M9 b (38::x)=none:=by
 rw[M9,a0w,f6 (by decide),g8 rfl,b04 h]
theorem a8b{b:Bool}{c:UInt8}(h1:c≠60)(h2:c≠38)(r:List UInt8):M9 b (c::r)=(M9 b r).map (a0C b c :: ·):=by
 rw[M9,a0w,f6 h1,f6 h2];rfl
theorem a3C{r:Int}(h:P9 r=true):R7 r=true:=by
 simp only[P9,R7,t8]at *;omega
def a2w(s:List UInt8):Prop:=∃a b,s=a++93::93::62::b
open Classical in
noncomputable def J7(s:List UInt8):Option (List UInt8):=if txt s/\¬a2w s then M9 false s else none
open Classical in
noncomputable def X5(s:List UInt8):Option (List UInt8):=if txt s then M9 true s else none
end Go.Proofs.YtlgcigmolfhamaaGreatDoor
