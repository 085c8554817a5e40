/-
  doc.formed: whether a list is formed. Conditions: the list lies as it is, the tables too; there are not too many nodes, the texts are not too long. doc.copies of nodes: a list of nodes in new memory. Conditions: the list lies as it is; there are not too many nodes, the texts are not too long. doc.Of: the document of a list, or why it is none. Conditions: the list lies as it is, the tables too; there are not too many nodes, the texts are not too long.
  Nodes with their lists' values: how a list of nodes lies as one row of cells, opened and shut. Conditions: none.
  A region whose order is drawn, whatever its operations do: what holds of the operations done so far, of what they yielded, and of the world, is carried from one to the next. Conditions: none.
  parse.reader in memory: its block, its rows, the nodes it has; what stays. Conditions: none.
-/
import Derived.Test.YteinegfbpfhflaaGreatDoorM17
import Derived.Test.YteinegfbpfhflaaGreatDoorM18
import Derived.Deep.Slices
import Derived.Deep.AppendLies
import Derived.Test.YteinegfbpfhflaaGreatDoorM10
import Derived.Test.YteinegfbpfhflaaGreatDoorM13
namespace Go.Proofs.YteinegfbpfhflaaGreatDoor
open Go.RowKit
open Go.RowKit
open Go.RowKit
set_option linter.unusedVariables false
set_option maxRecDepth 100000
set_option maxHeartbeats 16000000
noncomputable def db:List Nd->Bool
 | []=>false
 |x::r=>eE x&&(dT (x::r)&&(r.all dg&&fZ (x::r)))
theorem EK{b o n cap:Nat}(hn:1<=n)(hc:n<=cap):∃A',(∀W,(Instr.slice 28 (.slice (some ⟨b,o,none⟩) n cap) (some (.int .i64 1)) none none).run Tryz.prog W=.ok (.slice A' (n-1) (cap-1)) W)/\(1<n->A'=some ⟨b,o+8,none⟩):=by
 have hs:∀w,(sizeOf 42).run Tryz.prog w=.ok 8 w:=fun w=>by kernel_rfl
 refine⟨if cap=1 then some ⟨b,o,none⟩else some ⟨b,o+8,none⟩,fun W => ?_,fun h=>by rw[am (by omega)]⟩
 have h1:(1:Int)<=(n:Int):=by omega
 simp[Instr.slice,run_underlying Tryz.underlying28,Instr.sliceBounds,Instr.sliceBound,asIntOf,hs,h1,Addr.add]
theorem yw{x:Nd}{r:List Nd}(h:eE x=true):pa (x::r) 0 = -1:=by
 unfold eE at h;simp only[aO,bc]at h;rw[fS (by simp)]
 exact h.2.1
theorem nM{l:List Nd}(h:dT l=true):∀i,1<=i->i<l.length->ej l i=true:=fun i h1 h2=>by
 cases hh:ej l i with
 |true=>rfl
 |false =>
  have:=rf h1 h2 (by unfold sT;rw[hh];rfl)
  rw[h]at this;cases this
theorem xJ(l:List Nd)(v:Value)(w:World)(hv:eD w w.heap.size v l)(hlen:l.length<=100000)(hs:∀x∈l,Sm x)(hW:Wd w) :
 Calls Tryz.prog 53 #[v] w fun e w'=>e=.returned (.bool (db l))/\Below w.heap.size w w':=by
 have HV:=aa hv;obtain⟨A,cap,rfl,hc1,hc2⟩:=hv.slice
 match l,hs,HV,hc1,hlen with
 | [],hs,HV,hc1,hlen =>
  have hnz:((0:Int)==0)=true:=rfl;rw[show([] : List Nd).length=0 from rfl];go_enter Tryz.func53,Tryz.ntmps53;go_wp2;go_ret;exact⟨rfl,ae _ _⟩
 |x::r,hs,HV,hc1,hlen =>
  obtain⟨b,o,cap',e,_,_,hbB,hnd⟩:=HV.out.open (by simp)
  simp only[aK]at e;obtain⟨rfl,_,rfl⟩:=e;have HND:=aa hnd;obtain⟨vd,va,d0,d1,d2,d3,d4,d5,d6,d7,hd,ha⟩:=(hnd 0 (by simp)).cells
  have hx0:(x::r)[0]=x:=rfl;rw[hx0]at d0 d1 d2 d3 d4 d5 hd ha;rw[Nat.zero_mul,Nat.add_zero]at d0 d1 d2 d3 d4 d5 d6 d7;have HRT:Hid (Calls Tryz.prog 94 #[.agg #[.int .i64 x.k,.int .i64 x.n,.string x.p,.string x.l,.string x.u,.string x.t,vd,va]] w fun e w'=>e=.returned (.bool (eE x))/\Below w.heap.size w w'):=Cu x _ w ⟨vd,va,rfl,hd,ha⟩;obtain⟨A1,c1,rfl,_⟩:=hd;obtain⟨A2,c2,rfl,_⟩:=ha;obtain⟨n,hn⟩ : ∃n,(x::r).length=n:=⟨_,rfl⟩;have HN:=aa hn;have hn1:1<=n:=by rw[<-hn];simp
  have HPL:Hid (∀w',Below w.heap.size w w'->Calls Tryz.prog 95 #[.slice (some ⟨b,o,none⟩) (x::r).length cap] w' fun e w''=>e=.returned (.bool (dT (x::r)))/\Below w'.heap.size w' w''):=fun w' hb=>xo (x::r) _ w' (HV.out.later hb) (by simp) (by omega)
  have HNM:Hid (eE x=true->dT (x::r)=true->∀w',Below w.heap.size w w'->Calls Tryz.prog 97 #[.slice (some ⟨b,o,none⟩) (x::r).length cap] w' fun e w''=>e=.returned (.bool (fZ (x::r)))/\Below w'.heap.size w' w''):=fun h1 h2 w' hb =>
   Ak (x::r) _ w' (HV.out.later hb) hlen hs (by have:=(hW.later hb).tabs.five;omega) (yw h1) (nM h2)
  rw[hn]at HPL HNM hc1 hlen ⊢;obtain⟨A',hsl,hA'⟩:=EK (b:=b) (o:=o) hn1 hc1;have HW:=aa hW;rw[show db (x::r)=(eE x&&(dT (x::r)&&(r.all dg&&fZ (x::r))))from rfl];generalize eE x=B1 at *;generalize dT (x::r)=B2 at *;generalize fZ (x::r)=B4 at *;obtain⟨B3,hB3⟩ : ∃B3,r.all dg=B3:=⟨_,rfl⟩;rw[hB3];have HB3:=aa hB3;have hnz:((n:Int)==0)=false:=by rw[ak];omega
  have hnp:(0:Int)<(n:Int):=by omega
  have hrl:r.length=n-1:=by rw[<-hn];simp
  have HRL:=aa hrl;have hn1z:((n-1:Nat):Int)=(n:Int)-1:=by omega
  clear hB3 hnd hn hrl hW hx0;go_enter Tryz.func53,Tryz.ntmps53
  go_wp2_with fail
  refine HRT.out.mono ?_;rintro e w1⟨rfl,hb1⟩;cases B1 with
  |false =>
   go_wp2;go_ret;exact⟨rfl,hb1⟩
  |true =>
   go_wp2_with fail
   refine(HPL.out w1 hb1).mono ?_;rintro e w2⟨rfl,hb2⟩;have hbw:=hb1.trans (hb2.mono hb1.size);have HBW:=aa hbw;cases B2 with
   |false =>
    go_wp2;go_ret;exact⟨rfl,hbw⟩
   |true =>
    clear hb1 hb2 HRT HPL d0 d1 d2 d3 d4 d5 d6 d7;obtain⟨m,hm⟩ : ∃m,n-1=m:=⟨_,rfl⟩;rw[hm]at hsl HRL;have HM:=aa hm;have hmn:m+1=n:=by omega
    clear hm hn1z;go_wp2
    go_loopw [23] (ue dg r w2) (fun i _=>m-(intOf i).toNat)
    case atStart=>exact⟨0,aM _,rfl,rfl,ae _ _⟩
    case round =>
     obtain⟨k,hk,rfl,hal,hbr⟩:=hrel;have HAL:=aa hal;have hbwr:=HBW.out.trans (hbr.mono HBW.out.size);rw[HRL.out]at hk;clear hal hsl;by_cases hlt:k<m
     ·have hkr:k<r.length:=by rw[HRL.out];exact hlt
      have hkl:k+1<(x::r).length:=by simp;omega
      obtain rfl:=hA' (by omega)
      obtain⟨vd,va,d0,d1,d2,d3,d4,d5,d6,d7,hd,ha⟩:=((HND.out (k+1) hkl).below hbB hbwr).cells;have hxe:(x::r)[k+1]=r[k]:=rfl;rw[hxe]at d0 d1 d2 d3 d4 d5 hd ha;have ho:o+(k+1)*8=o+8+k*8:=by omega
      rw[ho]at d0 d1 d2 d3 d4 d5 d6 d7;have hsx:=hs r[k] (List.mem_cons_of_mem _ (aJ hkr))
      have HNX:Hid (∀w',Below wr.heap.size wr w'->Calls Tryz.prog 96 #[.agg #[.int .i64 r[k].k,.int .i64 r[k].n,.string r[k].p,.string r[k].l,.string r[k].u,.string r[k].t,vd,va]] w' fun e w''=>e=.returned (.bool (dg r[k]))/\Below w'.heap.size w' w''):=fun w' hb' =>
       CH r[k] _ hsx w' (HW.out.later (hbwr.trans (hb'.mono hbwr.size))) ((nH.mono ⟨vd,va,rfl,hd,ha⟩ hbwr.size).later hb')
      obtain⟨A1,c1,rfl,_⟩:=hd;obtain⟨A2,c2,rfl,_⟩:=ha;have HF:Hid (dg r[k]=false->B3=false):=fun h=>by rw[<-HB3.out,oS hkr h]
      have HT:Hid (dg r[k]=true->(r.take (k+1)).all dg=true):=mM hkr HAL.out;have hkz:(k:Int)<(m:Int):=by omega
      generalize dg r[k]=BB at *;generalize r[k]=y at *;clear ho hxe
      go_wp2_with fail
      refine(HNX.out _ ((ae _ _).alloc (af _) _)).mono ?_;rintro e w3⟨rfl,hb3⟩;have hb3':=bR hb3;clear hb3;cases BB with
      |false =>
       obtain rfl:=HF.out rfl;go_wp2;go_ret;exact⟨rfl,hbwr.trans (hb3'.mono hbwr.size)⟩
      |true =>
       go_wp2
       go_roundw
       case rel=>exact⟨k+1,hkr,by go_num,HT.out (by simp),hbr.trans (hb3'.mono hbr.size)⟩
       case measure=>simp[intOf];omega
     ·have hkz:¬(k:Int)<(m:Int):=by omega
      have hT:true=B3:=by rw[<-HB3.out];exact(la (by rw[HRL.out];exact hlt) HAL.out).symm
      subst hT;have HNN:=aa (HNM.out (by simp) (by simp) wr hbwr)
      go_wp2_with fail
      refine HNN.out.mono ?_;rintro e w3⟨rfl,hb3⟩;go_wp2;go_ret;exact⟨rfl,hbwr.trans (hb3.mono hbwr.size)⟩
def ju(w:World)(B:Nat)(cur:Array Value)(l:List Nd)(k:Nat):Prop :=
 ∀i (hi:i<l.length),i<k->∃vd va,(∀j (hj:j<8),cur[i*8+j]? = some ((FW l[i] vd va)[j]'hj))/\iK w B vd l[i].ds/\iL w B va l[i].ats
def gV(w:World)(B:Nat)(v:Value)(l:List Nd):Prop :=
 (l=[]/\v=.slice none 0 0)∨∃g cur,v=.slice (some ⟨g,0,none⟩) l.length l.length/\B<=g/\w.heap[g]? = some (.cells cur 42 (0,0))/\cur.size=l.length*8/\ju w B cur l l.length
theorem ju.later{w w':World}{B k:Nat}{cur:Array Value}{l:List Nd}(h:ju w B cur l k)(hb:Below w.heap.size w w'):ju w' B cur l k:=fun i hi hk=>by
 obtain⟨vd,va,h1,h2,h3⟩:=h i hi hk;exact⟨vd,va,h1,cU.later h2 hb,cU.later h3 hb⟩
theorem ju.aside{w w':World}{B k r:Nat}{cur z:Array Value}{l:List Nd}(h:ju w B cur l k)(hr:w.heap[r]? = some (.cells z 42 (0,0)))(hoth:∀g,g≠r->w'.heap[g]? = w.heap[g]?):ju w' B cur l k:=fun i hi hk=>by
 obtain⟨vd,va,h1,h2,h3⟩:=h i hi hk;exact⟨vd,va,h1,cU.aside h2 hr (by decide) hoth,cU.aside h3 hr (by decide) hoth⟩
theorem gV.later{w w':World}{B:Nat}{v:Value}{l:List Nd}(h:gV w B v l)(hb:Below w.heap.size w w'):gV w' B v l:=by
 rcases h with h|⟨g,cur,h1,h2,h3,h4,h5⟩
 ·exact .inl h
 ·exact .inr ⟨g,cur,h1,h2,(hb.block g (au h3)).trans h3,h4,h5.later hb⟩
theorem gV.mono{w:World}{B B':Nat}{v:Value}{l:List Nd}(h:gV w B v l)(hb:B'<=B):gV w B' v l:=by
 rcases h with h|⟨g,cur,h1,h2,h3,h4,h5⟩
 ·exact .inl h
 ·refine .inr ⟨g,cur,h1,by omega,h3,h4,fun i hi hk => ?_⟩
  obtain⟨vd,va,e1,e2,e3⟩:=h5 i hi hk;exact⟨vd,va,e1,cU.mono e2 hb,cU.mono e3 hb⟩
theorem vC{α:Type}{l:List α}{f:α->List Value}(h:l.length=0):l.flatMap f=[]:=by rw[aD h];rfl
theorem gV.at{w:World}{B:Nat}{v:Value}{l:List Nd}(h:gV w B v l)(hn:l.length<=2000000)(hs:∀x∈l,Sm x):eD w w.heap.size v l:=by
 rcases h with⟨rfl,rfl⟩|⟨g,cur,rfl,h2,h3,h4,h5⟩
 ·exact⟨none,0,rfl,af _,by omega,fun h=>absurd rfl h⟩
 ·refine⟨some ⟨g,0,none⟩,l.length,rfl,af _,by omega,fun _=>⟨g,0,rfl,au h3,fun i hi => ?_⟩⟩
  obtain⟨vd,va,e1,e2,e3⟩:=h5 i hi hi;have hx:=hs _ (aJ hi);exact⟨vd,va,fun j hj=>by rw[ci,ai w g _ _ _ _ h3];exact e1 j hj,cU.at e2 (by have:=hx.nd;omega) vC,cU.at e3 (by have:=hx.na;omega) vC⟩
def F8(w:World)(g n:Nat)(l:List Nd)(i:Value)(wr:World):Prop :=
 ∃(k:Nat) (cur:Array Value),k<=n/\i=.int .i64 k/\wr.heap[g]? = some (.cells cur 42 (0,0))/\cur.size=n*8/\ju wr w.heap.size cur l k/\Below w.heap.size w wr
theorem ja:(Tryz.prog.info? 42).map (fun i=>(i.zero,i.size,i.bytes))=some (some (.agg #[.int .i64 0,.int .i64 0,.string ⟨#[]⟩,.string ⟨#[]⟩,.string ⟨#[]⟩,.string ⟨#[]⟩,.slice none 0 0,.slice none 0 0]),8,128):=by kernel_rfl
def gO(cur:Array Value)(o:Nat):List Value->Array Value
 | []=>cur
 |u::us=>gO (cur.setIfInBounds o u) (o+1) us
theorem nJ:∀(us:List Value) (cur:Array Value) (o:Nat),(gO cur o us).size=cur.size
 | [],_,_=>rfl
 |u::us,cur,o=>by rw[gO,nJ us];simp
theorem iP:∀(us:List Value) (cur:Array Value) (o j:Nat),j<o->(gO cur o us)[j]? = cur[j]?
 | [],_,_,_,_=>rfl
 |u::us,cur,o,j,h=>by
  rw[gO,iP us _ _ _ (by omega),Array.getElem?_setIfInBounds,am (by omega)]
theorem qW:∀(us:List Value) (cur:Array Value) (o j:Nat),o+us.length<=cur.size->(hj:j<us.length)->(gO cur o us)[o+j]? = some us[j]
 |u::us,cur,o,0,h,_=>by
  rw[gO,iP us _ _ _ (by omega),Array.getElem?_setIfInBounds,av (by omega),av (by simp at h;omega)];rfl
 |u::us,cur,o,j+1,h,hj=>by
  have:=qW us (cur.setIfInBounds o u) (o+1) j (by simp at h ⊢;omega) (by simpa using hj)
  rw[gO,show o+(j+1)=o+1+j by omega,this];rfl
theorem sw(cur:Array Value)(o:Nat)(v0 v1 v2 v3 v4 v5 v6 v7:Value):gO cur o [v0,v1,v2,v3,v4,v5,v6,v7]=(((((((cur.setIfInBounds o v0).setIfInBounds (o+1) v1).setIfInBounds (o+2) v2).setIfInBounds (o+3) v3).setIfInBounds (o+4) v4).setIfInBounds (o+5) v5).setIfInBounds (o+6) v6).setIfInBounds (o+7) v7:=rfl
theorem wk{w:World}{b o:Nat}{cs:Array Value}{t:TypeId}{fz:Nat×Nat}(v0 v1 v2 v3 v4 v5 v6 v7:Value)(h:w.heap[b]? = some (.cells cs t fz)) :
 ((((((((w.setCell ⟨b,o,none⟩ v0).setCell ⟨b,o+1,none⟩ v1).setCell ⟨b,o+2,none⟩ v2).setCell ⟨b,o+3,none⟩ v3).setCell ⟨b,o+4,none⟩ v4).setCell ⟨b,o+5,none⟩ v5).setCell ⟨b,o+6,none⟩ v6).setCell ⟨b,o+7,none⟩ v7).heap[b]? = some (.cells (gO cs o [v0,v1,v2,v3,v4,v5,v6,v7]) t fz):=by
 rw[sw];exact aL (aL (aL (aL (aL (aL (aL (aL h)))))))
theorem uU{w:World}{b o g:Nat}(v0 v1 v2 v3 v4 v5 v6 v7:Value)(hg:g≠b) :
 ((((((((w.setCell ⟨b,o,none⟩ v0).setCell ⟨b,o+1,none⟩ v1).setCell ⟨b,o+2,none⟩ v2).setCell ⟨b,o+3,none⟩ v3).setCell ⟨b,o+4,none⟩ v4).setCell ⟨b,o+5,none⟩ v5).setCell ⟨b,o+6,none⟩ v6).setCell ⟨b,o+7,none⟩ v7).heap[g]? = w.heap[g]? :=
 (ao _ _ _ _ hg).trans ((ao _ _ _ _ hg).trans ((ao _ _ _ _ hg).trans ((ao _ _ _ _ hg).trans ((ao _ _ _ _ hg).trans ((ao _ _ _ _ hg).trans ((ao _ _ _ _ hg).trans (ao _ _ _ _ hg)))))))
theorem wm{a w:World}{B b o:Nat}(v0 v1 v2 v3 v4 v5 v6 v7:Value)(h:Below B a w)(hb:B<=b) :
 Below B a ((((((((w.setCell ⟨b,o,none⟩ v0).setCell ⟨b,o+1,none⟩ v1).setCell ⟨b,o+2,none⟩ v2).setCell ⟨b,o+3,none⟩ v3).setCell ⟨b,o+4,none⟩ v4).setCell ⟨b,o+5,none⟩ v5).setCell ⟨b,o+6,none⟩ v6).setCell ⟨b,o+7,none⟩ v7) :=
 (((((((h.setCell (p:=⟨b,o,none⟩) hb v0).setCell (p:=⟨b,o+1,none⟩) hb v1).setCell (p:=⟨b,o+2,none⟩) hb v2).setCell (p:=⟨b,o+3,none⟩) hb v3).setCell (p:=⟨b,o+4,none⟩) hb v4).setCell (p:=⟨b,o+5,none⟩) hb v5).setCell (p:=⟨b,o+6,none⟩) hb v6).setCell (p:=⟨b,o+7,none⟩) hb v7
theorem ju.more{w:World}{B k:Nat}{cur:Array Value}{l:List Nd}{vd va:Value}(h:ju w B cur l k)(hk:k<l.length)(hs:cur.size=l.length*8)(h1:iK w B vd l[k].ds)(h2:iL w B va l[k].ats):ju w B (gO cur (k*8) (FW l[k] vd va)) l (k+1):=fun i hi hik=>by
 by_cases he:i=k
 ·subst he
  exact⟨vd,va,fun j hj=>qW _ _ _ _ (by rw[hs];show i*8+8<=_;omega) hj,h1,h2⟩
 ·obtain⟨vd',va',e1,e2,e3⟩:=h i hi (by omega)
  exact⟨vd',va',fun j hj=>by rw[iP _ _ _ _ (by omega)];exact e1 j hj,e2,e3⟩
theorem j8(l:List Nd)(v:Value)(w:World)(hv:eD w w.heap.size v l)(hn:l.length<=2000000)(hs:∀x∈l,Sm x) :
 Calls Tryz.prog 37 #[v,.func (.func 39) #[] #[]] w fun e w' => ∃v',e=.returned v'/\gV w' w.heap.size v' l/\Below w.heap.size w w':=by
 have HV:=aa hv;obtain⟨A,cap,rfl,hc1,hc2⟩:=hv.slice;obtain⟨n,hnE⟩ : ∃n,l.length=n:=⟨_,rfl⟩;have HN:=aa hnE;rw[hnE]at hn hc1 ⊢;clear hnE;rcases bw n with h0|h0
 ·subst h0
  have HL:Hid (l=[]):=aD HN.out;go_enter Tryz.func37,Tryz.ntmps37;go_wp2;go_ret;exact⟨_,rfl,.inl ⟨HL.out,rfl⟩,ae _ _⟩
 ·obtain⟨i0,hi,hz0,hz1,hz2⟩:=info_parts ja
  have hnz:((n:Int)==0)=false:=by rw[ak];omega
  obtain⟨M,hM⟩ : ∃M,M=madeCells (Value.agg #[.int .i64 0,.int .i64 0,.string ⟨#[]⟩,.string ⟨#[]⟩,.string ⟨#[]⟩,.string ⟨#[]⟩,.slice none 0 0,.slice none 0 0]).cells (((n:Nat):Int).toNat*i0.size):=⟨_,rfl⟩;have hMs:M.size=n*8:=by rw[hM,size_madeCells,hz1];simp
  have hmk:∀W:World,(Instr.makeSlice 28 (.int .i64 (n:Int)) (.int .i64 (n:Int))).run Tryz.prog W=.ok (.slice (some ⟨W.heap.size,0,none⟩) n n) (W.alloc (.cells M 42)):=fun W=>by
   have h:=run_make (P:=Tryz.prog) W 28 42 i0 _ Tryz.underlying28 hi hz0 .i64 .i64 (n:Int) (n:Int) (by omega) (by omega) (by rw[hz2];omega) (by omega)
   rw[<-hM]at h;simpa using h
  clear hM;have HMS:=aa hMs;clear hMs;go_enter Tryz.func37,Tryz.ntmps37;go_wp2;clear hmk
  go_loopw [16] (F8 w w.heap.size n l) (fun i _=>n-(intOf i).toNat)
  case atStart=>exact⟨0,M,aM _,rfl,ar w _,HMS.out,fun i _ h=>by omega,(ae _ _).alloc (af _) _⟩
  case round =>
   obtain⟨k,cur,hk,rfl,hcur,hcs,hin,hb⟩:=hrel;have HIN:=aa hin;clear hin;by_cases hlt:k<n
   ·have hkl:k<l.length:=by rw[HN.out];exact hlt
    have hvr:=HV.out.below hb;obtain⟨b,o,cap',e,_,_,hbB,hnd⟩:=hvr.open (by intro h;rw[h]at hkl;simp at hkl)
    simp only[aK]at e;obtain⟨rfl,_,rfl⟩:=e;obtain⟨vd,va,d0,d1,d2,d3,d4,d5,d6,d7,hd,ha⟩:=(hnd k hkl).cells;have HX:Hid (nH wr w.heap.size (.agg #[.int .i64 l[k].k,.int .i64 l[k].n,.string l[k].p,.string l[k].l,.string l[k].u,.string l[k].t,vd,va]) l[k]):=⟨vd,va,rfl,hd,ha⟩;obtain⟨A1,c1,rfl,_⟩:=hd;obtain⟨A2,c2,rfl,_⟩:=ha;have hsx:=hs _ (aJ hkl);have HMORE:Hid (∀y cur',cur'.size=l.length*8->ju y w.heap.size cur' l k->∀vd va,iK y w.heap.size vd l[k].ds->iL y w.heap.size va l[k].ats->ju y w.heap.size (gO cur' (k*8) (FW l[k] vd va)) l (k+1)):=fun y cur' h1 h2 vd va h3 h4=>h2.more hkl h1 h3 h4
    have HCP:Hid (∀w',Below wr.heap.size wr w'->Calls Tryz.prog 39 #[.agg #[.int .i64 l[k].k,.int .i64 l[k].n,.string l[k].p,.string l[k].l,.string l[k].u,.string l[k].t,.slice A1 l[k].ds.length c1,.slice A2 l[k].ats.length c2]] w' fun e w'' => ∃vd va,e=.returned (.agg #[.int .i64 l[k].k,.int .i64 l[k].n,.string l[k].p,.string l[k].l,.string l[k].u,.string l[k].t,vd,va])/\iK w'' w'.heap.size vd l[k].ds/\iL w'' w'.heap.size va l[k].ats/\Below w'.heap.size w' w''):=fun w' hb' =>
     lX l[k] _ hsx w' ((HX.out.mono hb.size).later hb')
    have hkz:(k:Int)<(n:Int):=by omega
    generalize l[k]=x at *;clear hnd hvr
    go_wp2_with fail
    refine(HCP.out _ ((ae _ _).alloc (af _) _)).mono ?_;rintro e w1⟨vd',va',rfl,ho1,ho2,hb1⟩;have hbw:=bR hb1;obtain⟨A3,c3,rfl⟩:=cU.form ho1;obtain⟨A4,c4,rfl⟩:=cU.form ho2;have hwle:w.heap.size<=(wr.alloc (Obj.cells #[.int .i64 x.k,.int .i64 x.n,.string x.p,.string x.l,.string x.u,.string x.t,.slice A1 x.ds.length c1,.slice A2 x.ats.length c2] 42)).heap.size:=ag hb.size (by simp)
    have HO1:Hid (iK w1 w.heap.size (.slice A3 x.ds.length c3) x.ds):=cU.mono ho1 hwle;have HO2:Hid (iL w1 w.heap.size (.slice A4 x.ats.length c4) x.ats):=cU.mono ho2 hwle;have hcur1:w1.heap[w.heap.size]? = some (.cells cur 42 (0,0)):=(hbw.block _ (au hcur)).trans hcur;have hfz:∀j,w1.frozen? ⟨w.heap.size,j,none⟩=false:=fun j=>by unfold World.frozen?;rw[hcur1];simp
    have g0:w1.cell? ⟨w.heap.size,k*8,none⟩=some cur[k*8]:=by rw[ai w1 w.heap.size _ _ _ _ hcur1];exact aX (by omega)
    have g1:w1.cell? ⟨w.heap.size,k*8+1,none⟩=some cur[k*8+1]:=by rw[ai w1 w.heap.size _ _ _ _ hcur1];exact aX (by omega)
    have g2:w1.cell? ⟨w.heap.size,k*8+2,none⟩=some cur[k*8+2]:=by rw[ai w1 w.heap.size _ _ _ _ hcur1];exact aX (by omega)
    have g3:w1.cell? ⟨w.heap.size,k*8+3,none⟩=some cur[k*8+3]:=by rw[ai w1 w.heap.size _ _ _ _ hcur1];exact aX (by omega)
    have g4:w1.cell? ⟨w.heap.size,k*8+4,none⟩=some cur[k*8+4]:=by rw[ai w1 w.heap.size _ _ _ _ hcur1];exact aX (by omega)
    have g5:w1.cell? ⟨w.heap.size,k*8+5,none⟩=some cur[k*8+5]:=by rw[ai w1 w.heap.size _ _ _ _ hcur1];exact aX (by omega)
    have g6:w1.cell? ⟨w.heap.size,k*8+6,none⟩=some cur[k*8+6]:=by rw[ai w1 w.heap.size _ _ _ _ hcur1];exact aX (by omega)
    have g7:w1.cell? ⟨w.heap.size,k*8+7,none⟩=some cur[k*8+7]:=by rw[ai w1 w.heap.size _ _ _ _ hcur1];exact aX (by omega)
    have HNX:Hid (F8 w w.heap.size n l (.int .i64 ((k+1:Nat):Int)) (((((((((w1.setCell ⟨w.heap.size,k*8,none⟩ (.int .i64 x.k)).setCell ⟨w.heap.size,k*8+1,none⟩ (.int .i64 x.n)).setCell ⟨w.heap.size,k*8+2,none⟩ (.string x.p)).setCell ⟨w.heap.size,k*8+3,none⟩ (.string x.l)).setCell ⟨w.heap.size,k*8+4,none⟩ (.string x.u)).setCell ⟨w.heap.size,k*8+5,none⟩ (.string x.t)).setCell ⟨w.heap.size,k*8+6,none⟩ (.slice A3 x.ds.length c3)).setCell ⟨w.heap.size,k*8+7,none⟩ (.slice A4 x.ats.length c4)))):=by
     have hin1:=HIN.out.later hbw;have hin2:=HMORE.out w1 cur (by rw[HN.out];exact hcs) hin1 _ _ HO1.out HO2.out
     exact⟨k+1,_,hlt,rfl,wk _ _ _ _ _ _ _ _ hcur1,by rw[nJ];exact hcs,hin2.aside hcur1 (fun g hg=>uU _ _ _ _ _ _ _ _ hg),wm _ _ _ _ _ _ _ _ (hb.trans (hbw.mono hb.size)) (af _)⟩
    clear hbw hb1 ho1 ho2 hwle;go_wp2
    go_roundw
    case rel=>exact(show Value.int .i64 ((k+1:Nat):Int)=_ by go_num) ▸ HNX.out
    case measure=>simp[intOf];omega
   ·have hkn:k=n:=by omega
    subst hkn;have hkz:¬(k:Int)<(k:Int):=by omega
    have HF:Hid (gV wr w.heap.size (.slice (some ⟨w.heap.size,0,none⟩) k k) l):=.inr ⟨_,cur,by rw[HN.out],af _,hcur,by rw[HN.out];exact hcs,by rw[HN.out];exact HIN.out⟩
    clear hcur;go_wp2;go_ret;exact⟨_,rfl,HF.out,hb⟩
def iy(w:World)(B d:Nat)(l:List Nd):Prop:=∃v,B<=d/\w.heap[d]? = some (.cells #[v] 71 (0,0))/\gV w B v l
theorem iy.later{w w':World}{B d:Nat}{l:List Nd}(h:iy w B d l)(hb:Below w.heap.size w w'):iy w' B d l:=by
 obtain⟨v,h1,h2,h3⟩:=h;exact⟨v,h1,(hb.block d (au h2)).trans h2,h3.later hb⟩
def wF(l:List Nd)(B:Nat)(e:Ending)(w':World):Prop :=
 (db l=false/\e=.returned (.tuple #[.pointer none,.int .i64 2]))∨(db l=true/\cX l=false/\e=.returned (.tuple #[.pointer none,.int .i64 3])) ∨
 (db l=true/\cX l=true/\∃d,e=.returned (.tuple #[.pointer (some ⟨d,0,none⟩),.int .i64 0])/\iy w' B d l)
theorem nT{l:List Nd}(h:db l=true):l≠[]/\pa l 0 = -1/\fl l l.length/\∀i,1<=i->i<l.length->ej l i=true:=by
 match l,h with
 |x::r,h =>
  rw[show db (x::r)=(eE x&&(dT (x::r)&&(r.all dg&&fZ (x::r))))from rfl]at h;simp only[aO]at h;have hh:=nM h.2.1;exact⟨by simp,yw h.1,fun j h1 h2=>ie h1 (hh j h1 h2),hh⟩
theorem GB(l:List Nd)(v:Value)(w:World)(hv:eD w w.heap.size v l)(hlen:l.length<=100000)(hs:∀x∈l,Sm x)(hW:Wd w) :
 Calls Tryz.prog 30 #[v] w fun e w'=>wF l w.heap.size e w'/\Below w.heap.size w w':=by
 have HF:=aa (xJ l v w hv hlen hs hW)
 have HWI:Hid (db l=true->∀w',Below w.heap.size w w'->Calls Tryz.prog 54 #[v] w' fun e w''=>e=.returned (.bool (cX l))/\Below w'.heap.size w' w''):=fun h w' hb =>
  wO l v w' (hv.later hb) (by omega) (fun x hx=>⟨(hs x hx).nd,(hs x hx).na⟩) (nT h).2.2.1 (nT h).2.1
 have HC:Hid (∀w',Below w.heap.size w w'->Calls Tryz.prog 37 #[v,.func (.func 39) #[] #[]] w' fun e w'' => ∃v',e=.returned v'/\gV w'' w'.heap.size v' l/\Below w'.heap.size w' w''):=fun w' hb=>j8 l v w' (hv.later hb) (by omega) hs
 clear hv hW;unfold wF;cases hf:db l with
 |false =>
  rw[hf]at HF;clear hf;go_enter Tryz.func30,Tryz.ntmps30
  go_wp2_with fail
  refine HF.out.mono ?_;rintro e w1⟨rfl,hb1⟩;go_wp2
  go_ret2
  exact⟨.inl ⟨by simp,rfl⟩,hb1⟩
 |true =>
  have HWI2:=aa (HWI.out hf);rw[hf]at HF;clear hf HWI;cases hw:cX l with
  |false =>
   rw[hw]at HWI2;clear hw;go_enter Tryz.func30,Tryz.ntmps30
   go_wp2_with fail
   refine HF.out.mono ?_;rintro e w1⟨rfl,hb1⟩
   go_wp2_with fail
   refine(HWI2.out w1 hb1).mono ?_;rintro e w2⟨rfl,hb2⟩;go_wp2
   go_ret2
   exact⟨.inr (.inl ⟨by simp,by simp,rfl⟩),hb1.trans (hb2.mono hb1.size)⟩
  |true =>
   rw[hw]at HWI2;clear hw;go_enter Tryz.func30,Tryz.ntmps30
   go_wp2_with fail
   refine HF.out.mono ?_;rintro e w1⟨rfl,hb1⟩
   go_wp2_with fail
   refine(HWI2.out w1 hb1).mono ?_;rintro e w2⟨rfl,hb2⟩;have hbw:=hb1.trans (hb2.mono hb1.size);clear hb1 hb2
   go_wp2_with fail
   refine(HC.out w2 hbw).mono ?_;rintro e w3⟨v',rfl,hown,hb3⟩;have HO:=aa hown
   obtain⟨A,n,c,rfl⟩ : ∃A n c,v'=.slice A n c:=by
    rcases hown with⟨_,rfl⟩|⟨g,cur,rfl,_⟩
    ·exact⟨_,_,_,rfl⟩
    ·exact⟨_,_,_,rfl⟩
   have hbw3:=hbw.trans (hb3.mono hbw.size);clear hown;go_wp2
   go_ret2
   refine⟨.inr (.inr ⟨by simp,by simp,w3.heap.size,rfl,_,ag hbw.size hb3.size,ar w3 _,?_⟩),hbw3.alloc hbw3.size _⟩
   exact(HO.out.mono hbw.size).later ((ae _ _).alloc (af _) _)
structure Ny where
 x:Nd
 d:Value
 a:Value
def gS(y:Ny):List Value:=FW y.x y.d y.a
theorem jE(y:Ny):(gS y).length=8:=rfl
def BN(w:World)(B:Nat)(y:Ny):Prop:=gL w B y.d y.x.ds/\kE w B y.a y.x.ats
theorem BN.later{w w':World}{y:Ny}(h:BN w w.heap.size y)(hb:Below w.heap.size w w'):BN w' w'.heap.size y:=⟨em.later h.1 hb,em.later h.2 hb⟩
theorem eD.of_rows{w:World}{B g cap:Nat}{ys:List Ny}(hg:g<B)(h1:ys.length<=cap)(h2:cap<=9223372036854775807)(hy:∀y∈ys,BN w B y)(hc:∀j u,(ys.flatMap gS)[j]? = some u->w.cell? ⟨g,j,none⟩=some u):eD w B (.slice (some ⟨g,0,none⟩) ys.length cap) (ys.map (·.x)):=by
 refine⟨some ⟨g,0,none⟩,cap,by simp,by simpa using h1,h2,fun _=>⟨g,0,rfl,hg,fun i hi => ?_⟩⟩
 have hi':i<ys.length:=by simpa using hi
 obtain⟨d1,d2⟩:=hy _ (aJ hi');refine⟨ys[i].d,ys[i].a,fun j hj => ?_,by simpa using d1,by simpa using d2⟩
 have hat:=ei jE ys i j hi' hj;rw[ci];refine hc (i*8+j) _ ?_;rw[hat,aw (by rw[jE];exact hj)]
 simp[gS]
section
section
variable {P:Program} {md:Region.Mode} {ops:Array Oper} {Q:Exit->Act->World->Prop}
end
end
structure Po where
 node:Nat
 full:List UInt8
 outer:Nat
def wK(o:Po):List Value:=[.int .i64 o.node,.string (ba o.full),.int .i64 o.outer]
theorem sQ(o:Po):(wK o).length=3:=rfl
structure Rd where
 rest:List UInt8
 ns:List Nd
 op:List Po
 ds:List Dc
 tx:List UInt8
def qL(w:World)(B:Nat)(y:Ny):Prop:=w.ownsRow B 48 2 y.d y.x.ds.length (y.x.ds.flatMap jP)/\w.ownsRow B 73 4 y.a y.x.ats.length (y.x.ats.flatMap jt)
structure eH(w:World)(B rb:Nat)(st:Rd)(vn vo vd vt:Value)(ys:List Ny):Prop where
 lo:B<=rb
 box:w.heap[rb]? = some (.cells #[.string (ba st.rest),vn,vo,vd,vt] 90 (0,0))
 ns:ys.map (·.x)=st.ns
 rn:w.ownsRow B 42 8 vn ys.length (ys.flatMap gS)
 ro:w.ownsRow B 87 3 vo st.op.length (st.op.flatMap wK)
 rd:w.ownsRow B 48 2 vd st.ds.length (st.ds.flatMap jP)
 rt:w.ownsRow B 5 1 vt st.tx.length (ec st.tx)
 ry:∀y∈ys,qL w B y
 di:∀y∈ys,y.d.ownBlock=none∨y.d.ownBlock≠vd.ownBlock
def dS(w:World)(B rb:Nat)(st:Rd):Prop:=∃vn vo vd vt ys,eH w B rb st vn vo vd vt ys
theorem i9{w:World}{B e s n B' e' s' n':Nat}{v v':Value}{xs xs':List Value}(h:w.ownsRow B e s v n xs)(h':w.ownsRow B' e' s' v' n' xs')(he:e≠e'):v.ownBlock=none∨v.ownBlock≠v'.ownBlock:=by
 obtain⟨_,⟨rfl,_⟩|⟨g,cap,cur,rfl,_,hh,_⟩⟩:=h
 ·exact .inl rfl
 obtain⟨_,⟨rfl,_⟩|⟨g',cap',cur',rfl,_,hh',_⟩⟩:=h'
 ·exact .inr (by simp[Value.ownBlock])
 ·refine .inr (fun e0 => ?_)
  simp only[Value.ownBlock,al]at e0;rw[e0,hh']at hh;simp only[al,Obj.cells.injEq]at hh;exact he hh.2.1.symm
theorem aR{w w':World}{B e s n:Nat}{v:Value}{xs:List Value}(h:w.ownsRow B e s v n xs)(hk:∀b,v.ownBlock=some b->(∃cs,w.heap[b]? = some (.cells cs e (0,0)))->w'.heap[b]? = w.heap[b]?):w'.ownsRow B e s v n xs:=by
 obtain⟨h1,h2 |⟨g,cap,cur,rfl,hg,hh,h3⟩⟩:=h
 ·exact⟨h1,.inl h2⟩
 ·exact⟨h1,.inr ⟨g,cap,cur,rfl,hg,(hk g rfl ⟨cur,hh⟩).trans hh,h3⟩⟩
theorem dh{w w':World}{B e s n:Nat}{v:Value}{xs:List Value}(h:w.ownsRow B e s v n xs)(hb:Below w.heap.size w w'):w'.ownsRow B e s v n xs:=aR h (fun b _ ⟨_,hc⟩=>hb.block b (au hc))
theorem aP{w:World}{B e s n:Nat}{v:Value}{xs:List Value}(h:w.ownsRow B e s v n xs):∃A c,v=.slice A n c/\n<=c/\c<=9223372036854775807:=by
 obtain⟨_,⟨rfl,rfl⟩|⟨g,cap,cur,rfl,_,_,hn,hc,_⟩⟩:=h
 ·exact⟨_,_,rfl,af _,by omega⟩
 ·exact⟨_,_,rfl,hn,by unfold maxLen at hc;exact hc⟩
theorem eH.keep{w w':World}{B rb:Nat}{st:Rd}{vn vo vd vt:Value}{ys:List Ny}(h:eH w B rb st vn vo vd vt ys)(hr:w'.heap[rb]? = w.heap[rb]?)
 (hk:∀(b:Nat) e cs,(vn.ownBlock=some b/\e = 42)∨(vo.ownBlock=some b/\e = 87)∨(vd.ownBlock=some b/\e = 48)∨(vt.ownBlock=some b/\e = 5)∨(∃y∈ys,(y.d.ownBlock=some b/\e = 48)∨(y.a.ownBlock=some b/\e = 73))->w.heap[b]? = some (.cells cs e (0,0))->w'.heap[b]? = w.heap[b]?):eH w' B rb st vn vo vd vt ys :=
 ⟨h.lo,hr.trans h.box,h.ns,aR h.rn (fun b hb ⟨cs,hc⟩=>hk b _ cs (.inl ⟨hb,rfl⟩) hc),aR h.ro (fun b hb ⟨cs,hc⟩=>hk b _ cs (.inr (.inl ⟨hb,rfl⟩)) hc),aR h.rd (fun b hb ⟨cs,hc⟩=>hk b _ cs (.inr (.inr (.inl ⟨hb,rfl⟩))) hc),aR h.rt (fun b hb ⟨cs,hc⟩=>hk b _ cs (.inr (.inr (.inr (.inl ⟨hb,rfl⟩)))) hc),
  fun y hy=>⟨aR (h.ry y hy).1 (fun b hb ⟨cs,hc⟩=>hk b _ cs (.inr (.inr (.inr (.inr ⟨y,hy,.inl ⟨hb,rfl⟩⟩)))) hc),aR (h.ry y hy).2 (fun b hb ⟨cs,hc⟩=>hk b _ cs (.inr (.inr (.inr (.inr ⟨y,hy,.inr ⟨hb,rfl⟩⟩)))) hc)⟩,h.di⟩
theorem eH.below{w w':World}{B rb:Nat}{st:Rd}{vn vo vd vt:Value}{ys:List Ny}(h:eH w B rb st vn vo vd vt ys)(hb:Below w.heap.size w w'):eH w' B rb st vn vo vd vt ys :=
 h.keep (hb.block rb (au h.box)) (fun b e cs _ hc=>hb.block b (au hc))
theorem dS.below{w w':World}{B rb:Nat}{st:Rd}(h:dS w B rb st)(hb:Below w.heap.size w w'):dS w' B rb st:=by
 obtain⟨vn,vo,vd,vt,ys,h⟩:=h;exact⟨vn,vo,vd,vt,ys,h.below hb⟩
theorem br{w:World}{z y:Nat}{cs cs':Array Value}{t t':TypeId}(h:w.heap[z]? = some (.cells cs t (0,0)))(h':w.heap[y]? = some (.cells cs' t' (0,0)))(ht:t≠t'):z≠y:=fun e=>by
 rw[e,h']at h;simp only[al,Obj.cells.injEq]at h;exact ht h.2.1.symm
theorem eH.cur{w w':World}{B rb:Nat}{st:Rd}{vn vo vd vt:Value}{ys:List Ny}{r:List UInt8}(h:eH w B rb st vn vo vd vt ys)(hc:dK rb (ba r) w w'):eH w' B rb { st with rest:=r } vn vo vd vt ys:=by
 have hoth:∀(b:Nat) (e:TypeId) (cs:Array Value),e≠90->w.heap[b]? = some (.cells cs e (0,0))->w'.heap[b]? = w.heap[b]?:=fun b e cs he hb=>hc.other b (au hb) (br hb h.box he)
 exact⟨h.lo,hc.cell _ _ h.box,h.ns,aR h.rn (fun b _ ⟨cs,hb⟩=>hoth b _ cs (by decide) hb),aR h.ro (fun b _ ⟨cs,hb⟩=>hoth b _ cs (by decide) hb),aR h.rd (fun b _ ⟨cs,hb⟩=>hoth b _ cs (by decide) hb),aR h.rt (fun b _ ⟨cs,hb⟩=>hoth b _ cs (by decide) hb),
  fun y hy=>⟨aR (h.ry y hy).1 (fun b _ ⟨cs,hb⟩=>hoth b _ cs (by decide) hb),aR (h.ry y hy).2 (fun b _ ⟨cs,hb⟩=>hoth b _ cs (by decide) hb)⟩,h.di⟩
theorem eH.curAt{w:World}{B rb:Nat}{st:Rd}{vn vo vd vt:Value}{ys:List Ny}(h:eH w B rb st vn vo vd vt ys):aG w rb (ba st.rest):=⟨_,_,h.box,rfl⟩
theorem eH.cell{w:World}{B rb:Nat}{st:Rd}{vn vo vd vt:Value}{ys:List Ny}(h:eH w B rb st vn vo vd vt ys):w.cell? ⟨rb,0,none⟩=some (.string (ba st.rest))/\w.cell? ⟨rb,1,none⟩=some vn/\w.cell? ⟨rb,2,none⟩=some vo/\w.cell? ⟨rb,3,none⟩=some vd/\w.cell? ⟨rb,4,none⟩=some vt:=by
 refine⟨?_,?_,?_,?_,?_⟩<;>rw[ai w rb _ _ _ _ h.box]<;>rfl
theorem eH.frozen{w:World}{B rb:Nat}{st:Rd}{vn vo vd vt:Value}{ys:List Ny}(h:eH w B rb st vn vo vd vt ys)(j:Nat):w.frozen? ⟨rb,j,none⟩=false:=by unfold World.frozen?;rw[h.box];simp
theorem eM(w:World)(B rb:Nat)(st:Rd)(h:dS w B rb st):Calls Tryz.prog 52 #[.pointer (some ⟨rb,0,none⟩)] w fun e w'=>e=.returned (.bool (decide (st.op.length=1)))/\w'=w:=by
 obtain⟨vn,vo,vd,vt,ys,h⟩:=h;obtain⟨_,_,c2,_,_⟩:=h.cell;obtain⟨A,cap,rfl,_,_⟩:=aP h.ro
 have hz:((st.op.length:Int)==1)=decide (st.op.length=1):=by
  rw[bm,bc,decide_eq_true_iff];omega
 clear h;generalize decide (st.op.length=1)=Z at *;go_enter Tryz.func52,Tryz.ntmps52;go_wp2;go_ret;exact⟨rfl,rfl⟩
end Go.Proofs.YteinegfbpfhflaaGreatDoor
