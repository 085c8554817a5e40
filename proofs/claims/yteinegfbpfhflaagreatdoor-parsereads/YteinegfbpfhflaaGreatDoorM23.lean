/-
  parse.reader: meant. Conditions: the reader lies as it is; there are not too many declarations.
  parse.reader: the declarations above have grown, something more is open. Conditions: none.
  What begin stands on: an element's box and rows beside the reader's. Conditions: none.
  Texts without the blanks at their ends, the program's and the document's. Conditions: the text is not too long.
  Lines, references, and texts with their references' characters, on lists of bytes. Conditions: none.
-/
import Derived.Test.YteinegfbpfhflaaGreatDoorM19
import Derived.Test.YteinegfbpfhflaaGreatDoorM22
import Derived.Test.YteinegfbpfhflaaGreatDoorM21
import Derived.StillTailTactics
import Derived.Test.YteinegfbpfhflaaGreatDoorM08
import Derived.Test.YteinegfbpfhflaaGreatDoorM09
import Derived.Test.YteinegfbpfhflaaGreatDoorM00
namespace Go.Proofs.YteinegfbpfhflaaGreatDoor
set_option linter.unusedVariables false
set_option maxRecDepth 100000
set_option maxHeartbeats 8000000
section
open Go.RowKit
noncomputable def f8(ds:List Dc)(p:ByteArray):ByteArray:=if p.data.toList=[120,109,108]then⟨mV.toArray⟩else(fU ds.reverse p.data.toList).getD ⟨#[]⟩
def It(w:World)(ds:List Dc)(p:List UInt8)(i:Value)(wr:World):Prop:=∃k:Nat,k<=ds.length/\i=.int .i64 ((k:Int)-1)/\(∀j (hj:j<ds.length),k<=j->ds[j].p.data.toList≠p)/\wr=w
theorem Gq{ds:List Dc}{k:Nat}(hk:k<ds.length):∃h:ds.length-1-k<ds.reverse.length,ds.reverse[ds.length-1-k]'h=ds[k]:=by
 refine⟨by rw[List.length_reverse];omega,?_⟩
 rw[List.getElem_reverse]
 congr 1
 omega
theorem Fl{ds:List Dc}{p:List UInt8}{k:Nat}(hk:k<ds.length)(h:ds[k].p.data.toList=p)(hno:∀j (hj:j<ds.length),k+1<=j->ds[j].p.data.toList≠p):fU ds.reverse p=some ds[k].u:=by
 obtain⟨h1,h2⟩:=Gq hk
 have:=yU (ds:=ds.reverse) (s:=p) h1 (by rw[h2];exact h) (fun j hj hjk=>by
  rw[List.getElem_reverse];exact hno _ _ (by omega))
 rw[this,h2]
theorem AP{ds:List Dc}{p:List UInt8}(hno:∀j (hj:j<ds.length),ds[j].p.data.toList≠p):fU ds.reverse p=none:=np (fun j hj=>by
 rw[List.getElem_reverse];exact hno _ _)
theorem pA(w:World)(B rb:Nat)(st:Rd)(p:ByteArray)(h:dS w B rb st)(hd:st.ds.length<=1000000):Calls Tryz.prog 171 #[.pointer (some ⟨rb,0,none⟩),.string p] w fun e w'=>e=.returned (.string (f8 st.ds p))/\w'=w:=by
 obtain⟨vn,vo,vd,vt,ys,h⟩:=h;obtain⟨_,_,_,c3,_⟩:=h.cell
 have hcells:∀k (hk:k<st.ds.length),∃g cap,vd=.slice (some ⟨g,0,none⟩) st.ds.length cap/\w.cell? ⟨g,k*2,none⟩=some (.string st.ds[k].p)/\w.cell? ⟨g,k*2+1,none⟩=some (.string st.ds[k].u):=fun k hk=>by
  obtain⟨h1,⟨_,h2⟩|⟨g,cap,cur,e,hg,hh,hn,hc,hs,ht⟩⟩:=h.rd
  ·omega
  ·refine⟨g,cap,e,?_⟩
   have hat:∀j,j<2->w.cell? ⟨g,k*2+j,none⟩=(jP st.ds[k])[j]?:=fun j hj=>by
    rw[ai w g _ cur _ _ hh,<-bi];have e2:cur.toList[k*2+j]? = (st.ds.flatMap jP)[k*2+j]?:=by rw[<-ht,List.getElem?_take_of_lt (by omega)]
    rw[e2,ei (f:=jP) (c:=2) (fun _=>rfl) st.ds k j hk hj]
   exact⟨hat 0 (by omega),hat 1 (by omega)⟩
 have HC:=aa hcells;obtain⟨A,cap,rfl,_,_⟩:=aP h.rd;clear h hcells;obtain⟨ds,hds⟩ : ∃ds,st.ds=ds:=⟨_,rfl⟩;rw[hds]at c3 HC hd ⊢;clear hds;unfold f8;by_cases hx:p.data.toList=[120,109,108]
 ·rw[av hx]
  have t1:(p.toList == [120,109,108])=true:=by rw[aq,hx];rfl
  have hxu:(⟨mV.toArray⟩ : ByteArray)=⟨#[104,116,116,112,58,47,47,119,119,119,46,119,51,46,111,114,103,47,88,77,76,47,49,57,57,56,47,110,97,109,101,115,112,97,99,101]⟩:=rfl;have HXU:=aa hxu;clear hx hxu;go_enter Tryz.func171,Tryz.ntmps171;go_wp2;go_ret;exact⟨by rw[HXU.out];rfl,rfl⟩
 ·rw[am hx]
  have t1:(p.toList == [120,109,108])=false:=by
   rw[aq,ak];exact hx
  clear hx;obtain⟨R,hR⟩ : ∃R,(fU ds.reverse p.data.toList).getD ⟨#[]⟩=R:=⟨_,rfl⟩;rw[hR];have HR:=aa hR;clear hR;obtain⟨n,hn⟩ : ∃n,ds.length=n:=⟨_,rfl⟩;have HN:=aa hn;rw[hn]at c3 hd;clear hn;go_enter Tryz.func171,Tryz.ntmps171;go_wp2
  go_loopw [5] (It w ds p.data.toList) (fun i _=>(intOf i+1).toNat)
  case atStart=>exact⟨n,by rw[HN.out];exact af _,rfl,fun j hj h=>by rw[HN.out]at hj;omega,rfl⟩
  case round =>
   obtain⟨k,hk,rfl,hno,rfl⟩:=hrel;rw[HN.out]at hk;have HNO:=aa hno;clear hno;cases k with
   |zero =>
    have HF:Hid (fU ds.reverse p.data.toList=none):=AP (fun j hj=>HNO.out j hj (aM _));have HRE:Hid (R=⟨#[]⟩):=by show _=_;rw[<-HR.out,HF.out];rfl
    go_wp2;go_ret;exact⟨by rw[HRE.out];rfl,rfl⟩
   |succ k =>
    have hkl:k<ds.length:=by rw[HN.out];omega
    have hki:((k+1:Nat):Int)-1=(k:Int):=by omega
    rw[hki];obtain⟨g,cap',eg,q0,q1⟩:=HC.out k hkl;rw[HN.out]at eg;simp only[aK]at eg;obtain⟨rfl,-,rfl⟩:=eg;have HAT:Hid (ds[k].p.data.toList=p.data.toList->fU ds.reverse p.data.toList=some ds[k].u):=fun h=>Fl hkl h HNO.out;have hk0:(0:Int)<=(k:Int):=by omega
    have hkz:(k:Int)<(n:Int):=by omega
    have HKL:=aa hkl;generalize hx:ds[k]=x at *;obtain⟨P,U⟩:=x;dsimp only at q0 q1 HAT;by_cases heq:P.data.toList=p.data.toList
    ·have t2:(P.toList==p.toList)=true:=by rw[bc,aq,aq,heq]
     have HRE:Hid (R=U):=by show _=_;rw[<-HR.out,HAT.out heq];rfl
     clear heq hx HAT;go_wp2;go_ret;exact⟨by rw[HRE.out];rfl,rfl⟩
    ·have t2:(P.toList==p.toList)=false:=by rw[ak,aq,aq];exact heq
     have HXX:=aa hx;have HNE:=aa heq;clear heq hx HAT;go_wp2
     go_roundw
     case rel =>
      refine⟨k,by omega,by go_num,fun j hj hjk => ?_,rfl⟩
      rcases bU hjk with h|h
      ·exact HNO.out j hj h
      ·subst h
       exact fun h=>HNE.out ((congrArg (fun d:Dc=>d.p.data.toList) HXX.out).symm.trans h)
     case measure=>simp[intOf]
end
section
open Go.RowKit
theorem lw{w:World}{B e s n rb:Nat}{v:Value}{xs:List Value}{cs:Array Value}(h:w.ownsRow B e s v n xs)(hb:w.heap[rb]? = some (.cells cs 90 (0,0)))(he:e≠90):v.ownBlock≠some rb:=fun e1=>by
 obtain⟨_,⟨e2,_⟩|⟨g,cap,cur,e2,_,hh,_⟩⟩:=h
 ·rw[e2]at e1;simp[Value.ownBlock]at e1
 ·rw[e2]at e1
  simp only[Value.ownBlock,al]at e1;rw[e1,hb]at hh;simp only[al,Obj.cells.injEq]at hh;exact he hh.2.1.symm
theorem cO{w w1:World}{B e s n B' e' s' n':Nat}{v v':Value}{xs xs':List Value}(hoth:∀b,b<w.heap.size->v'.ownBlock≠some b->w1.heap[b]? = w.heap[b]?)(h':w.ownsRow B' e' s' v' n' xs')(he:e≠e'∨v.ownBlock=none∨v.ownBlock≠v'.ownBlock)(ho:w.ownsRow B e s v n xs):w1.ownsRow B e s v n xs:=aR ho (fun b hb ⟨cs,hc⟩=>hoth b (au hc) (fun e0=>by
 rcases he with he|he
 ·rcases i9 ho h' he with h0|h0
  ·rw[hb]at h0;cases h0
  ·exact h0 (hb.trans e0.symm)
 ·rcases he with h0|h0
  ·rw[hb]at h0;cases h0
  ·exact h0 (hb.trans e0.symm)))
theorem ev{w1:World}{rb j:Nat}{cs0:Array Value}{v1:Value}(hb:w1.heap[rb]? = some (.cells cs0 90 (0,0))){B e s n:Nat}{v:Value}{xs:List Value}(he:e≠90)(ho:w1.ownsRow B e s v n xs):(w1.setCell ⟨rb,j,none⟩ v1).ownsRow B e s v n xs:=aR ho (fun b _ ⟨cs,hc⟩=>ao _ _ _ _ (br hc hb he))
theorem eH.declared{w w1:World}{B rb:Nat}{st:Rd}{vn vo vd vt v1:Value}{ys:List Ny}{ds:List Dc}(h:eH w B rb st vn vo vd vt ys)(hoth:∀b,b<w.heap.size->vd.ownBlock≠some b->w1.heap[b]? = w.heap[b]?)(hown:w1.ownsRow B 48 2 v1 ds.length (ds.flatMap jP))(hdi:∀y∈ys,y.d.ownBlock=none∨y.d.ownBlock≠v1.ownBlock):eH (w1.setCell ⟨rb,3,none⟩ v1) B rb { st with ds:=ds } vn vo v1 vt ys:=by
 have hrb:w1.heap[rb]? = w.heap[rb]?:=hoth rb (au h.box) (lw h.rd h.box (by decide))
 have hb1:=hrb.trans h.box
 exact⟨h.lo,by rw[aL hb1];rfl,h.ns,ev hb1 (by decide) (cO hoth h.rd (.inl (by decide)) h.rn),ev hb1 (by decide) (cO hoth h.rd (.inl (by decide)) h.ro),ev hb1 (by decide) hown,ev hb1 (by decide) (cO hoth h.rd (.inl (by decide)) h.rt),
  fun y hy=>⟨ev hb1 (by decide) (cO hoth h.rd (.inr (h.di y hy)) (h.ry y hy).1),ev hb1 (by decide) (cO hoth h.rd (.inl (by decide)) (h.ry y hy).2)⟩,hdi⟩
theorem eH.opened{w w1:World}{B rb:Nat}{st:Rd}{vn vo vd vt v1:Value}{ys:List Ny}{op:List Po}(h:eH w B rb st vn vo vd vt ys)(hoth:∀b,b<w.heap.size->vo.ownBlock≠some b->w1.heap[b]? = w.heap[b]?)(hown:w1.ownsRow B 87 3 v1 op.length (op.flatMap wK)):eH (w1.setCell ⟨rb,2,none⟩ v1) B rb { st with op:=op } vn v1 vd vt ys:=by
 have hrb:w1.heap[rb]? = w.heap[rb]?:=hoth rb (au h.box) (lw h.ro h.box (by decide))
 have hb1:=hrb.trans h.box
 exact⟨h.lo,by rw[aL hb1];rfl,h.ns,ev hb1 (by decide) (cO hoth h.ro (.inl (by decide)) h.rn),ev hb1 (by decide) hown,ev hb1 (by decide) (cO hoth h.ro (.inl (by decide)) h.rd),ev hb1 (by decide) (cO hoth h.ro (.inl (by decide)) h.rt),
  fun y hy=>⟨ev hb1 (by decide) (cO hoth h.ro (.inl (by decide)) (h.ry y hy).1),ev hb1 (by decide) (cO hoth h.ro (.inl (by decide)) (h.ry y hy).2)⟩,h.di⟩
theorem CD:(Tryz.prog.info? 87).map (fun i=>(i.zero,i.size,i.bytes))=some (some (.agg #[.int .i64 0,.string ⟨#[]⟩,.int .i64 0]),3,32):=by kernel_rfl
theorem Hf{w:World}{ops:Array Oper}{rest:List Oper}{o:Oper}{a:Act}{Q:Exit->Act->World->Prop}(hgd:o.guard=none)(s x:Operand)(ho:o.op=.call { callee:=.builtin .append,args:=#[s,x],argTypes:=#[88,88] })
 (B:Nat) (v:Value) (l:List Po) (hs:a.eval s=v) (hown:w.ownsRow B 87 3 v l.length (l.flatMap wK)) (g:Nat) (p:Po) (hx:a.eval x=.slice (some ⟨g,0,none⟩) 1 1) (hcell:w.heap[g]? = some (.cells #[.int .i64 p.node,.string (ba p.full),.int .i64 p.outer] 87 (0,0))) (hn:l.length<=1000000) (hB:B<=w.heap.size)
 (h:∀v' w',w'.ownsRow B 87 3 v' (l++[p]).length ((l++[p]).flatMap wK)->w.grownBy w' v.ownBlock->wpList Tryz.prog ops Q rest (a.put o.dst v') w'):wpList Tryz.prog ops Q (o::rest) a w:=by
 refine wpList_plain hgd fun _ hK => ?_;obtain⟨i0,hi0,hz0,hz1,hz2⟩:=info_parts CD
 obtain⟨v',w',hr,h2,h3,_,h5⟩:=run_append_own_at (P:=Tryz.prog) w B 88 o.type 87 i0 _ 3 _ Tryz.underlying88 hi0 hz0 hz1 hz2 rfl (by omega) v l.length _ hown ⟨g,0,none⟩ 1 1 (wK p) (by simp[sQ]) (World.news_of_block hcell) (fun u hu=>by
  unfold wK at hu;simp only[aU,bE,or_false]at hu;rcases hu with rfl|rfl|rfl<;>rfl) (by unfold maxLen;omega) (by omega) hB
 unfold Oper.wp execOp;simp only[ho,resolve,invoke,builtin,Sem.run_bind,Sem.run_pure,Result.andThen_ok,List.map_toArray,List.map_cons,List.map_nil,hs,hx,hr];refine hK _ _ (h v' w' ?_ h3);rw[aj,aB,ch];have e:[p].flatMap wK=wK p:=by simp
 rw[e];exact h2
end
section
open Go.RowKit
theorem eH.setNode{w:World}{B rb:Nat}{st:Rd}{vn vo vd vt:Value}{ys:List Ny}(h:eH w B rb st vn vo vd vt ys){z j:Nat}{cs:Array Value}{u:Value}(hz:w.heap[z]? = some (.cells cs 42 (0,0)))(hn:vn.ownBlock≠some z):eH (w.setCell ⟨z,j,none⟩ u) B rb st vn vo vd vt ys :=
 h.keep (ao _ _ _ _ (fun e=>by have e':rb=z:=e;rw[<-e',h.box]at hz;simp at hz)) (fun b e cs' hb hc=>ao _ _ _ _ (fun e0=>by
  have e1:b=z:=e0;subst e1;rw[hz]at hc;simp only[al,Obj.cells.injEq]at hc;obtain⟨_,he,_⟩:=hc;rcases hb with⟨h1,_⟩|⟨_,h2⟩|⟨_,h2⟩|⟨_,h2⟩|⟨y,_,⟨_,h2⟩|⟨_,h2⟩⟩
  ·exact hn h1
  all_goals (rw[h2]at he;exact absurd he (by decide))))
theorem eH.setAttr{w:World}{B rb:Nat}{st:Rd}{vn vo vd vt:Value}{ys:List Ny}(h:eH w B rb st vn vo vd vt ys){z j:Nat}{cs:Array Value}{u:Value}(hz:w.heap[z]? = some (.cells cs 73 (0,0)))(hn:∀y∈ys,y.a.ownBlock≠some z):eH (w.setCell ⟨z,j,none⟩ u) B rb st vn vo vd vt ys :=
 h.keep (ao _ _ _ _ (fun e=>by have e':rb=z:=e;rw[<-e',h.box]at hz;simp at hz)) (fun b e cs' hb hc=>ao _ _ _ _ (fun e0=>by
  have e1:b=z:=e0;subst e1;rw[hz]at hc;simp only[al,Obj.cells.injEq]at hc;obtain⟨_,he,_⟩:=hc;rcases hb with⟨_,h2⟩|⟨_,h2⟩|⟨_,h2⟩|⟨_,h2⟩|⟨y,hy,⟨_,h2⟩|⟨h1,_⟩⟩
  ·rw[h2]at he;exact absurd he (by decide)
  ·rw[h2]at he;exact absurd he (by decide)
  ·rw[h2]at he;exact absurd he (by decide)
  ·rw[h2]at he;exact absurd he (by decide)
  ·rw[h2]at he;exact absurd he (by decide)
  ·exact hn y hy h1))
noncomputable def iU(ds:List Dc)(a:At):At:=if a.p.data.toList=[]then a else { a with u:=f8 ds a.p }
noncomputable def Ef(ds:List Dc)(x:Nd):Nd:={ x with u:=f8 ds x.p,ats:=x.ats.map (iU ds) }
noncomputable def jp(st:Rd)(o:Po)(x:Nd)(full:List UInt8):Rd :=
 { iw { st with ds:=st.ds++x.ds } o (Ef (st.ds++x.ds) x)with op:=st.op++[⟨(ed { st with ds:=st.ds++x.ds } o).ns.length,full,st.ds.length⟩] }
structure gR(w:World)(B:Nat)(ys:List Ny)(vd vD vA:Value)(ds:List Dc)(as':List At):Prop where
 rD:w.ownsRow B 48 2 vD ds.length (ds.flatMap jP)
 rA:w.ownsRow B 73 4 vA as'.length (as'.flatMap jt)
 dd:vD.ownBlock=none∨vD.ownBlock≠vd.ownBlock
 yd:∀y∈ys,y.d.ownBlock=none∨y.d.ownBlock≠vD.ownBlock
 ya:∀y∈ys,y.a.ownBlock=none∨y.a.ownBlock≠vA.ownBlock
theorem i5{w:World}{B e s n:Nat}{v:Value}{xs:List Value}(h:w.ownsRow B e s v n xs):em w w.heap.size v n xs:=by
 obtain⟨hl,⟨rfl,rfl⟩|⟨g,cap,cur,rfl,hg,hh,hn,hc,hs,ht⟩⟩:=h
 ·refine⟨none,0,rfl,af _,by omega,fun hne=>absurd (aD (by simpa using hl)) hne⟩
 ·refine⟨some ⟨g,0,none⟩,cap,rfl,hn,by unfold maxLen at hc;exact hc,fun _=>⟨g,0,rfl,au hh,fun j hj => ?_⟩⟩
  rw[ci,ai w g j cur e (0,0) hh];have:cur.toList[j]? = xs[j]?:=by rw[<-ht,List.getElem?_take_of_lt (by rw[hl]at hj;exact hj)]
  rw[bi]at this;rw[this,aw hj]
theorem FC(l:List Dc):∀u∈l.flatMap jP,u.oneCell'=true:=fun u hu=>by
 obtain⟨a,_,h⟩:=List.mem_flatMap.1 hu;unfold jP at h;simp only[aU,bE,or_false]at h;rcases h with rfl|rfl<;>rfl
theorem jD{w:World}{B e s n z:Nat}{v:Value}{xs:List Value}{cs:Array Value}{t:TypeId}(h:w.ownsRow B e s v n xs)(hb:w.heap[z]? = some (.cells cs t (0,0)))(he:e≠t):v.ownBlock≠some z:=fun e1=>by
 obtain⟨_,⟨e2,_⟩|⟨g,cap,cur,e2,_,hh,_⟩⟩:=h
 ·rw[e2]at e1;simp[Value.ownBlock]at e1
 ·rw[e2]at e1
  simp only[Value.ownBlock,al]at e1;rw[e1,hb]at hh;simp only[al,Obj.cells.injEq]at hh;exact he hh.2.1.symm
theorem vw{w:World}{B e s n:Nat}{v v0 v1:Value}{xs:List Value}(h:w.ownsRow B e s v n xs)(hat:v1.ownBlock=v0.ownBlock∨v1.ownBlock=some w.heap.size)(hne:v.ownBlock=none∨v.ownBlock≠v0.ownBlock):v.ownBlock=none∨v.ownBlock≠v1.ownBlock:=by
 rcases hne with h0|h0
 ·exact .inl h0
 ·rcases hat with h1|h1
  ·rw[h1];exact .inr h0
  ·cases hv:v.ownBlock with
   |none=>exact .inl rfl
   |some b =>
    refine .inr (fun e => ?_);rw[h1]at e;simp only[al]at e;have:=(h.lt b hv).2;omega
theorem wt{w:World}{B ga ca k:Nat}{l:List At}(h:w.ownsRow B 73 4 (.slice (some ⟨ga,0,none⟩) l.length ca) l.length (l.flatMap jt))(hk:k<l.length)(V:ByteArray) :
 (w.setCell ⟨ga,k*4+2,none⟩ (.string V)).ownsRow B 73 4 (.slice (some ⟨ga,0,none⟩) l.length ca) l.length ((l.set k { l[k]with u:=V }).flatMap jt):=by
 obtain⟨h1,⟨h2,_⟩|⟨g,cap,cur,e,hg,hh,hn,hc,hs,ht⟩⟩:=h
 ·cases h2
 ·simp only[aK,al,Addr.mk.injEq,and_true,true_and]at e
  obtain⟨rfl,rfl⟩:=e;refine⟨by rw[dF (f:=jt) (c:=4) (fun _=>rfl),List.length_set],.inr ⟨ga,ca,_,rfl,hg,aL hh,hn,hc,by simpa using hs,?_⟩⟩
  apply List.ext_getElem?
  intro j;rw[List.getElem?_take];by_cases hj:j<l.length*4
  ·rw[av hj,bi,Array.getElem?_setIfInBounds]
   have hi:j/4<l.length:=by omega
   have hr:j%4<4:=Nat.mod_lt _ (by omega)
   have hjj:j=j/4*4+j%4:=by omega
   have hset:=ei (f:=jt) (c:=4) (fun _=>rfl) (l.set k { l[k]with u:=V }) (j/4) (j%4) (by rw[List.length_set];exact hi) hr
   have hold:=ei (f:=jt) (c:=4) (fun _=>rfl) l (j/4) (j%4) hi hr;rw[<-hjj]at hset hold;have hcur:cur[j]? = (l.flatMap jt)[j]?:=by rw[<-ht,List.getElem?_take_of_lt hj,bi]
   rw[hset];by_cases hje:k*4+2=j
   ·have e1:j/4=k:=by omega
    have e2:j%4=2:=by omega
    rw[av hje,av (by omega)]
    simp only[e1,e2,List.getElem_set_self]
    rfl
   ·rw[am hje,hcur,hold]
    by_cases hjk:j/4=k
    ·have hr2:j%4≠2:=by omega
     simp only[hjk,List.getElem_set_self]
     match j%4,hr,hr2 with
     |0,_,_=>rfl
     |1,_,_=>rfl
     |2,_,h=>exact absurd rfl h
     |3,_,_=>rfl
    ·rw[List.getElem_set_ne (fun e=>hjk e.symm)]
  ·rw[am hj,List.getElem?_eq_none (by rw[dF (f:=jt) (c:=4) (fun _=>rfl),List.length_set];omega)]
end
section
open Go.RowKit
def jV(S:ByteArray):ByteArray:=⟨(jz S.data.toList).toArray⟩
theorem jy(S:ByteArray):(jV S).data.toList=jz S.data.toList:=by simp[jV]
theorem yo(S:ByteArray):(jV S).size<=S.size:=by
 obtain⟨a,b,e,_⟩:=ln S.data.toList;have h:=congrArg List.length e;rw[aF,aF,jy];simp at h ⊢;omega
def T1(w:World)(n:Nat)(i:Value)(wr:World):Prop:=∃k:Nat,k<=n/\i=.int .i64 k/\Below w.heap.size w wr
def T2(w:World)(m n:Nat)(i:Value)(wr:World):Prop:=∃k:Nat,m<=k/\k<=n/\i=.int .i64 k/\Below w.heap.size w wr
theorem wR(S:ByteArray)(hlen:S.size<=100000)(hall:∀i (h:i<S.data.toList.length),fq S.data.toList[i]=true)(w:World):Calls Tryz.prog 135 #[.string S] w fun e w'=>e=.returned (.string (jV S))/\Below w.heap.size w w':=by
 obtain⟨N,hN⟩ : ∃N,S.size=N:=⟨_,rfl⟩;have hNl:S.data.toList.length=N:=by rw[<-aF];exact hN
 have HX:Hid (ByteArray.empty=jV S):=cp (by
  rw[jy,qQ (t:=[]) (a:=S.data.toList) (b:=[]) (by simp) (by rw[bK];intro x hx;obtain⟨i,hi,rfl⟩:=List.getElem_of_mem hx;exact hall i hi) rfl (fun c h=>by cases h) (fun c h=>by cases h)]
  rfl)
 have HI:Hid (∀i,i<N->∃c:UInt8,qk (c.toNat:Int)=true/\∀w,(Instr.index 9 (.string S) (.int .i64 (i:Int))).run Tryz.prog w=.ok (.int .u8 (c.toNat:Int)) w):=fun i hi =>
  ⟨S.data.toList[i]'(by omega),by rw[gj];exact hall i _,cz S (by omega)⟩
 rw[hN]at hlen;clear hall hNl;go_enter Tryz.func135,Tryz.ntmps135;go_wp2
 go_loopw [3] (T1 w N) (fun i _=>N-(intOf i).toNat)
 case atStart=>exact⟨0,aM _,rfl,ae _ _⟩
 case round =>
  obtain⟨k,hk,rfl,hb⟩:=hrel;by_cases hlt:k<N
  ·obtain⟨c,hc,hix⟩:=HI.out k hlt
   have hkz:(k:Int)<(N:Int):=by omega
   generalize (c.toNat:Int)=z at *
   go_wp2_with fail
   refine(gB _ _).mono ?_;rintro e w'⟨rfl,hw⟩;rw[hw,hc];go_wp2
   go_roundw
   case rel=>exact⟨k+1,hlt,by go_num,hb⟩
   case measure=>simp[intOf];omega
  ·obtain rfl:k=N:=by omega
   clear HI;go_wp2;refine wp_loop_rounds 1 ?_;rw[rounds_succ]
   go_wp2_with fail
   refine(dE _ (by rw[HX.out];have:=yo S;omega) _).mono ?_
   rintro e w5⟨rfl,hb5⟩;go_wp2;go_ret;exact⟨by rw[HX.out];rfl,hb.trans (hb5.mono hb.size)⟩
theorem zG(S:ByteArray)(hlen:S.size<=100000)(a t b:List UInt8)(hS:S.data.toList=a++(t++b))(ha:a.all fq=true)(hb:b.all fq=true)(h1:∀c,t.head? = some c->fq c=false)(h2:∀c,t.getLast? = some c->fq c=false)(ht:t≠[])(w:World):Calls Tryz.prog 135 #[.string S] w fun e w'=>e=.returned (.string (jV S))/\Below w.heap.size w w':=by
 obtain⟨N,hN⟩ : ∃N,S.size=N:=⟨_,rfl⟩;have hNl:S.data.toList.length=N:=by rw[<-aF];exact hN
 obtain⟨I,hI⟩ : ∃I,a.length=I:=⟨_,rfl⟩;obtain⟨J,hJ⟩ : ∃J,a.length+t.length=J:=⟨_,rfl⟩;have htl:0<t.length:=bO.2 ht;have hlen3:I+t.length+b.length=N:=by rw[<-hNl,hS,<-hI];simp;omega
 have HX:Hid (S.extract I J=jV S):=cp (by
  rw[cS,jy,qQ hS ha hb h1 h2,hS,<-hI,<-hJ,<-List.append_assoc,<-aj,List.take_left,List.drop_left])
 have at_:∀i (h:i<N),S.data.toList[i]'(by omega)=(a++(t++b))[i]'(by rw[<-hS];omega):=fun i h=>by simp[hS]
 have HA:Hid (∀i,i<I->∃c:UInt8,qk (c.toNat:Int)=true/\∀w,(Instr.index 9 (.string S) (.int .i64 (i:Int))).run Tryz.prog w=.ok (.int .u8 (c.toNat:Int)) w):=fun i hi =>
  ⟨S.data.toList[i]'(by omega),by
   rw[gj,at_ i (by omega),List.getElem_append_left (by omega)]
   exact bK.1 ha _ (aJ _),cz S (by omega)⟩
 have HF:Hid (∃c:UInt8,qk (c.toNat:Int)=false/\∀w,(Instr.index 9 (.string S) (.int .i64 (I:Int))).run Tryz.prog w=.ok (.int .u8 (c.toNat:Int)) w) :=
  ⟨S.data.toList[I]'(by omega),by
   rw[gj,at_ I (by omega),List.getElem_append_right (by omega)]
   have e:I-a.length=0:=by omega
   simp only[e];rw[List.getElem_append_left htl];exact h1 _ (by rw[List.head?_eq_getElem?,aw htl]),cz S (by omega)⟩
 have HB:Hid (∀i,J<=i->i<N->∃c:UInt8,qk (c.toNat:Int)=true/\∀w,(Instr.index 9 (.string S) (.int .i64 (i:Int))).run Tryz.prog w=.ok (.int .u8 (c.toNat:Int)) w):=fun i hj hi =>
  ⟨S.data.toList[i]'(by omega),by
   rw[gj,at_ i (by omega),List.getElem_append_right (by omega),List.getElem_append_right (by omega)]
   exact bK.1 hb _ (aJ _),cz S (by omega)⟩
 have HL:Hid (∃c:UInt8,qk (c.toNat:Int)=false/\∀w,(Instr.index 9 (.string S) (.int .i64 ((J-1:Nat):Int))).run Tryz.prog w=.ok (.int .u8 (c.toNat:Int)) w) :=
  ⟨S.data.toList[J-1]'(by omega),by
   rw[gj,at_ (J-1) (by omega),List.getElem_append_right (by omega),List.getElem_append_left (by omega)]
   have e:J-1-a.length=t.length-1:=by omega
   simp only[e];exact h2 _ (by rw[List.getLast?_eq_getElem?,aw (by omega)]),cz S (by omega)⟩
 have hIJ:I<J:=by omega
 have hJN:J<=N:=by omega
 rw[hN]at hlen;clear hS ha hb h1 h2 ht hI hJ htl hlen3 at_ hNl;go_enter Tryz.func135,Tryz.ntmps135;go_wp2
 go_loopw [3] (T1 w I) (fun i _=>I-(intOf i).toNat)
 case atStart=>exact⟨0,aM _,rfl,ae _ _⟩
 case round =>
  obtain⟨k,hk,rfl,hb⟩:=hrel;have hkz:(k:Int)<(N:Int):=by omega
  by_cases hlt:k<I
  ·obtain⟨c,hc,hix⟩:=HA.out k hlt
   generalize (c.toNat:Int)=z at *
   go_wp2_with fail
   refine(gB _ _).mono ?_;rintro e w'⟨rfl,hw⟩;rw[hw,hc];go_wp2
   go_roundw
   case rel=>exact⟨k+1,hlt,by go_num,hb⟩
   case measure=>simp[intOf];omega
  ·obtain rfl:k=I:=by omega
   obtain⟨c,hc,hix⟩:=HF.out;generalize (c.toNat:Int)=z at *;clear HF HA
   go_wp2_with fail
   refine(gB _ _).mono ?_;rintro e w'⟨rfl,hw⟩;rw[hw,hc];go_wp2;clear hix hc hw hkz
   go_loopw [4] (T2 w J N) (fun i _=>(intOf i).toNat)
   case atStart=>exact⟨N,hJN,af _,rfl,hb⟩
   case round =>
    clear hb;obtain⟨j,hj1,hj2,rfl,hb⟩:=hrel;have hkj:(k:Int)<(j:Int):=by omega
    obtain⟨i,hi0⟩ : ∃i,i+1=j:=⟨j-1,by omega⟩
    have hi1:((j:Int)-1)=(i:Int):=by omega
    have HI0:=aa hi0;clear hi0;by_cases hlt:J<j
    ·obtain⟨c,hc,hix⟩:=HB.out i (by have:=HI0.out;omega) (by have:=HI0.out;omega)
     generalize (c.toNat:Int)=z at *
     go_wp2_with fail
     refine(gB _ _).mono ?_;rintro e w'⟨rfl,hw⟩;rw[hw,hc];go_wp2
     go_roundw
     case rel=>exact⟨i,by have:=HI0.out;omega,by have:=HI0.out;omega,by go_num,hb⟩
     case measure=>have:=HI0.out;simp[intOf];omega
    ·obtain rfl:j=J:=by omega
     obtain⟨c,hc,hix⟩:=HL.out;have hji:j-1=i:=by have:=HI0.out;omega
     rw[hji]at hix;clear hji;have hix':∀w,(Instr.index 9 (.string S) (.int .i64 (i:Int))).run Tryz.prog w=.ok (.int .u8 (c.toNat:Int)) w:=hix;generalize (c.toNat:Int)=z at *;clear hix
     go_wp2_with fail
     refine(gB _ _).mono ?_;rintro e w'⟨rfl,hw⟩;rw[hw,hc];clear hix' hc HB HL;have g1:(k:Int)<=(j:Int):=by omega
     have g2:(j:Int)<=(N:Int):=by omega
     go_wp2_with fail
     refine(dE _ (by rw[HX.out];have:=yo S;omega) _).mono ?_
     rintro e w5⟨rfl,hb5⟩;go_wp2;go_ret;exact⟨by rw[HX.out];rfl,hb.trans (hb5.mono hb.size)⟩
theorem B8(S:ByteArray)(hlen:S.size<=100000)(w:World):Calls Tryz.prog 135 #[.string S] w fun e w'=>e=.returned (.string (jV S))/\Below w.heap.size w w':=by
 obtain⟨a,b,e,ha,hb,h1,h2⟩:=ln S.data.toList;by_cases ht:jz S.data.toList=[]
 ·refine wR S hlen (fun i hi => ?_) w
  rw[ht,aE]at e;have hab:(S.data.toList).all fq=true:=by rw[e,List.all_append,ha,hb];rfl
  exact bK.1 hab _ (aJ _)
 ·exact zG S hlen a _ b e ha hb h1 h2 ht w
end
def bJ:List UInt8->List UInt8
 | [] => []
 |c::r=>if c=13 then(if r.head? = some 10 then bJ r else 10::bJ r)else c::bJ r
theorem xD(c:UInt8)(r:List UInt8):bJ (c::r)=if c=13 then(if r.head? = some 10 then bJ r else 10::bJ r)else c::bJ r:=rfl
theorem vl:∀(s:List UInt8),(13:UInt8)∉bJ s
 | []=>by simp[bJ]
 |c::r=>by
  rw[bJ];have ih:=vl r
  split
  ·split
   ·exact ih
   ·simp[ih]
  ·next h=>simp[ih,Ne.symm h]
theorem kb:∀(s:List UInt8),(bJ s).length<=s.length
 | []=>by simp[bJ]
 |c::r=>by
  rw[bJ];have ih:=kb r
  split
  ·split
   ·simp;omega
   ·simp;omega
  ·simp;omega
def tJ(c:UInt8):Option Nat:=if 48<=c.toNat/\c.toNat<=57 then some (c.toNat-48)else if 97<=c.toNat/\c.toNat<=102 then some (c.toNat-87)else if 65<=c.toNat/\c.toNat<=70 then some (c.toNat-55)else none
def xV(base:Nat)(c:UInt8):Option Nat:=match tJ c with|none=>none|some d=>if d<base then some d else none
def pG(base:Nat):Nat->List UInt8->Option Nat
 |n,[]=>some n
 |n,c::r=>match xV base c with|none=>none|some d=>pG base (n*base+d) r
theorem ng(base n:Nat)(c:UInt8)(r:List UInt8):pG base n (c::r)=match xV base c with|none=>none|some d=>pG base (n*base+d) r:=rfl
def n8(base:Nat):Nat->List UInt8->Option Nat
 |n,[]=>some n
 |n,c::r=>match xV base c with|none=>none|some d=>n8 base (if n<2097152 then n*base+d else n) r
theorem gw(base n:Nat)(c:UInt8)(r:List UInt8):n8 base n (c::r)=match xV base c with|none=>none|some d=>n8 base (if n<2097152 then n*base+d else n) r:=rfl
def CP(n k:Nat):Prop:=n=k∨(2097152<=n/\2097152<=k)
theorem Ai{base n k d:Nat}(hb:1<=base)(h:CP n k):CP (n*base+d) (if k<2097152 then k*base+d else k):=by
 have h2:n<=n*base:=Nat.le_mul_of_pos_right n hb;rcases h with rfl|⟨h1,h3⟩
 ·split
  ·exact .inl rfl
  ·exact .inr ⟨by omega,by omega⟩
 ·rw[am (by omega)]
  exact .inr ⟨by omega,h3⟩
theorem yv{base:Nat}(hb:1<=base):∀{s:List UInt8} {n k:Nat},CP n k->(pG base n s=none/\n8 base k s=none)∨∃m j,pG base n s=some m/\n8 base k s=some j/\CP m j
 | [],n,k,h => .inr ⟨n,k,rfl,rfl,h⟩
 |c::r,n,k,h=>by
  rw[ng,gw];cases xV base c with
  |none=>exact .inl ⟨rfl,rfl⟩
  |some d=>exact yv hb (Ai hb h)
theorem CO{m j:Nat}(h:CP m j):ep (m:Int)=ep (j:Int)/\(ep (m:Int)=true->m=j):=by
 rcases h with rfl|⟨h1,h2⟩
 ·exact⟨rfl,fun _=>rfl⟩
 ·have e1:ep (m:Int)=false:=by simp only[ep,bT];omega
  have e2:ep (j:Int)=false:=by simp only[ep,bT];omega
  exact⟨by rw[e1,e2],fun h=>by rw[e1]at h;cases h⟩
def lg(base:Nat)(s:List UInt8):Option (List UInt8):=if s=[]then none else match pG base 0 s with|none=>none|some n=>if ep (n:Int)=true then some (bD (n:Int))else none
theorem wg(base:Nat)(hb:1<=base)(s:List UInt8):lg base s=if s=[]then none else match n8 base 0 s with|none=>none|some n=>if ep (n:Int)=true then some (bD (n:Int))else none:=by
 rw[lg]
 split
 ·rfl
 ·rcases yv hb (s:=s) (n:=0) (k:=0) (.inl rfl)with⟨h1,h2⟩|⟨m,j,h1,h2,h3⟩
  ·rw[h1,h2]
  ·rw[h1,h2]
   dsimp only;obtain⟨e,e'⟩:=CO h3;cases hx:ep (m:Int)with
   |false=>rw[<-e,hx,am (by simp),am (by simp)]
   |true=>rw[<-e,hx,av rfl,av rfl,e' hx]
def fw(s:List UInt8):Option (List UInt8) :=
 if s=[108,116]then some [60]else if s=[103,116]then some [62]else if s=[97,109,112]then some [38]else if s=[97,112,111,115]then some [39]else if s=[113,117,111,116]then some [34]
 else if s.head? = some 35 then(if s.tail.head? = some 120 then lg 16 s.tail.tail else lg 10 s.tail)else none
theorem uK(s:List UInt8)(h:s.head?≠some 120):fw (35::s)=lg 10 s:=by
 unfold fw;rw[am (by simp),am (by simp),am (by simp),am (by simp),am (by simp),av (by simp),am (by simpa using h)]
 rfl
theorem uL(s:List UInt8):fw (35::120::s)=lg 16 s:=by
 unfold fw;rw[am (by simp),am (by simp),am (by simp),am (by simp),am (by simp),av (by simp),av (by simp)]
 rfl
def gz(b:Bool)(c:UInt8):UInt8:=if b=true/\(c=9∨c=10∨c=13)then 32 else c
def gr(b:Bool):Option (List UInt8)->List UInt8->Option (List UInt8)
 |none,[]=>some []
 |some _,[]=>none
 |none,c::r=>if c=60 then none else if c=38 then gr b (some []) r else(gr b none r).map (gz b c :: ·)
 |some p,c::r=>if c=59 then(match fw p with|none=>none|some y=>(gr b none r).map (y++·))else gr b (some (p++[c])) r
def dI(b:Bool)(s:List UInt8):Option (List UInt8):=gr b none s
theorem rM{b:Bool}:∀{x p:List UInt8},(59:UInt8)∉x->∀r,gr b (some p) (x++59::r)=match fw (p++x)with|none=>none|some y=>(dI b r).map (y++·)
 | [],p,_,r=>by rw[aE,bo,gr,av rfl];rfl
 |c::x,p,h,r=>by
  simp only[aU,not_or]at h;rw[aA,gr,am (Ne.symm h.1),rM h.2];rw[List.append_assoc];rfl
theorem vH{b:Bool}:∀{x p:List UInt8},(59:UInt8)∉x->gr b (some p) x=none
 | [],p,_=>rfl
 |c::x,p,h=>by
  simp only[aU,not_or]at h;rw[gr,am (Ne.symm h.1),vH h.2]
theorem yX(b:Bool):dI b []=some []:=rfl
theorem GY(b:Bool)(r:List UInt8):dI b (60::r)=none:=by rw[dI,gr,av rfl]
theorem yW{b:Bool}{x:List UInt8}(h:(59:UInt8)∉x)(r:List UInt8):dI b (38::(x++59::r))=match fw x with|none=>none|some y=>(dI b r).map (y++·):=by
 rw[dI,gr,am (by decide),av rfl,rM h,aE]
theorem vG{b:Bool}{x:List UInt8}(h:(59:UInt8)∉x):dI b (38::x)=none:=by
 rw[dI,gr,am (by decide),av rfl,vH h]
theorem rL{b:Bool}{c:UInt8}(h1:c≠60)(h2:c≠38)(r:List UInt8):dI b (c::r)=(dI b r).map (gz b c :: ·):=by
 rw[dI,gr,am h1,am h2];rfl
theorem oW{r:Int}(h:ep r=true):eA r=true:=by
 simp only[ep,eA,bj]at *;omega
def jR(s:List UInt8):Prop:=∃a b,s=a++93::93::62::b
open Classical in
noncomputable def cT(s:List UInt8):Option (List UInt8):=if mZ s/\¬jR s then dI false s else none
open Classical in
noncomputable def fA(s:List UInt8):Option (List UInt8):=if mZ s then dI true s else none
end Go.Proofs.YteinegfbpfhflaaGreatDoor
