/-
  space.Scope. Conditions: a walk over the declarations is at hand; what the library's sort answers is.
  space.Scope and space.Find, of a document. Conditions: the document lies as it is, and is within the limits.
-/
import Derived.Maps.OwnIn
import Derived.Test.YtlgcigmolfhamaaGreatDoorKS6
import Derived.Test.YtlgcigmolfhamaaGreatDoorKS2
import Derived.Test.YtlgcigmolfhamaaGreatDoorK37
namespace Go.Proofs.YtlgcigmolfhamaaGreatDoor
open Go.RowKit
set_option linter.unusedVariables false
set_option maxRecDepth 100000
set_option maxHeartbeats 4000000
section
def c5E(C:List Dc->List Dc->Prop):Prop:=(∀w:World,Calls Tryz.prog 54 #[.slice none 0 0,.func (.func 55) #[] #[]] w fun e w'=>e=.returned (.tuple #[])/\Below w.heap.size w w') /\
 ∀(X0 cap:Nat) (cur:Array Value) (ds:List Dc) (w:World),w.heap[X0]? = some (.cells cur 34 (0,0))->cur.toList.take (ds.length*2)=ds.flatMap C1->ds.length<=1000000 ->
  Calls Tryz.prog 54 #[.slice (some ⟨X0,0,none⟩) ds.length cap,.func (.func 55) #[] #[]] w fun e w'=>e=.returned (.tuple #[])/\∃(ds':List Dc) (cur':Array Value),C ds ds'/\w'.heap[X0]? = some (.cells cur' 34 (0,0))/\cur'.size=cur.size/\cur'.toList.take (ds'.length*2)=ds'.flatMap C1/\ds'.length=ds.length /\
   (∀B,B<=X0->Below B w w')/\∀k,k<w.heap.size->k≠X0->w'.heap[k]? = w.heap[k]?
attribute [local go_sem] Oper.semAt_some
theorem c5T:(Tryz.prog.info? 34).map (fun i=>(i.zero,i.size,i.bytes))=some (some (.agg #[.string ⟨#[]⟩,.string ⟨#[]⟩]),2,32):=by kernel_rfl
theorem c6h(s:ByteArray)(h:s.size<=2000000):keyOf Tryz.prog 9 (.string s)=some (.string s.data.toList):=by
 rw[keyOf_string Tryz.underlying9];simp[mapKey,Tryz.underlying9];unfold maxLen;omega
theorem c5m{n:Int}(h1:0<=n)(h2:n<=1000001):(Lit.int .i64 n).wf=true:=by
 have h:wrap64 n=n:=by unfold wrap64;omega
 rw[<-h];exact wrap64_wf n
def NmS(Bl:Nat)(W:World)(k:Nat):Prop:=k=Bl∨∃v,Boxed W Bl 31 v/\v.ownBlock=some k
theorem c6a{F:Fence}{n:Nat}{P:Program}(w:World){ops:Array Oper}{rest:List Oper}{o:Oper}{a:Act}{Q:Exit->Act->World->Prop}
 (hg:o.guard=none) (s x:Operand) (t:TypeId) (D0:o.op=Op.call { callee:=Callee.builtin Builtin.append,args:=#[s,x],argTypes:=#[t,t] })
 (base:Nat) (e:TypeId) (i:TypeInfo) (z:Value) (size bytes:Nat) (h1:P.underlying t=some (.slice e)) (h2:P.info? e=some i) (h3:i.zero=some z) (h4:i.size=size) (h5:i.bytes=bytes) (h6:z.cells.size=size) (h7:0<size)
 (v:Value) (k:Nat) (xs:List Value) (hs:a.eval s=v) (D1:w.ownsRow base e size v k xs) (ad:Addr) (m c:Nat) (news:List Value) (hx:a.eval x=.slice (some ad) m c) (hn:news.length=m*size)
 (hc:∀j u,news[j]? = some u->w.cell? (ad.add j)=some u) (D3:∀u∈news,u.oneCell'=true) (b1:k+m<=maxLen) (b2:(k+m)*bytes<=140737488355328) (b3:base<=w.heap.size)
 (hK:∀v' w',w'.ownsRow base e size v' (k+m) (xs++news)->w.grownBy w' v.ownBlock->(v'.ownBlock=v.ownBlock∨v'.ownBlock=some w.heap.size)->wpListIn F n P ops Q rest (a.put o.dst v') w') :
 wpListIn F n P ops Q (o::rest) a w:=by
 refine wpListIn_plain hg fun K hK' => ?_;obtain⟨v',w',D2,r1,r2,_,r3⟩:=run_append_own_at (P:=P) w base t o.type e i z size bytes h1 h2 h3 h4 h5 h6 h7 v k xs D1 ad m c news hn hc D3 b1 b2 b3;unfold Oper.wpIn;refine⟨?_,?_⟩
 ·simp[Oper.about,D0,resolve,Target.leads,Sem.run_pure]
 ·rw[Oper.semAt_plain F _ _ (by rw[D0];intro c hc';cases hc')]
  simp[execOp,D0,resolve,invoke,builtin,hs,hx,D2,Result.andThen];exact hK' _ _ (hK v' w' r1 r2 r3)
theorem c5A(L:List Dc):(c4X L).length<=L.length:=by
 have h:∀(r p:List Dc),(c46 p r).length<=r.length:=by
  intro r
  induction r with
  |nil=>intro p;exact c9 _
  |cons x r ih =>
   intro p;rw[c46,e8,i8];have:=ih (p++[x])
   split<;>simp<;>omega
 exact h L []
structure SI(w:World)(v:Value)(M:List Dc)(W:World):Prop where
 bL:Boxed W w.heap.size 31 v
 bS:Boxed W (w.heap.size+1+1) 90 (.map (some (w.heap.size+1)))
 row:W.ownsRow w.heap.size 34 2 v M.length (M.flatMap C1)
 low:Below w.heap.size w W
theorem SI.later{w W W':World}{v:Value}{M:List Dc}(h:SI w v M W)(hb:Below W.heap.size W W'):SI w v M W' :=
 ⟨(hb.block _ h.bL.lt).trans h.bL,(hb.block _ h.bS.lt).trans h.bS,h.row.kept (c4W hb) (by
  cases hv:v.ownBlock with
  |none=>exact .inl rfl
  |some g=>exact .inr (by simp)),h.low.trans (hb.mono h.low.size)⟩
theorem SI.kept_below{w W W':World}{v:Value}{M:List Dc}(h:SI w v M W)(hb:Below W.heap.size W W'):c4Y w.heap.size (NmS w.heap.size) W W' :=
 c4Y.of_below hb h.low.size (by
  rintro k (rfl |⟨u,hu,e⟩)
  ·exact .inl rfl
  ·exact .inr ⟨u,(hb.block _ h.bL.lt).symm.trans hu,e⟩)
theorem SI.map{w W W':World}{v:Value}{M:List Dc}(h:SI w v M W){es:Array MapEntry}{ck:Nat}(hm:W.heap[w.heap.size+1]? = some (.map es ck))(hg:W.grownBy W' (some (w.heap.size+1))):SI w v M W'/\c4Y w.heap.size (NmS w.heap.size) W W':=by
 have hL:Boxed W' w.heap.size 31 v:=(hg.block _ h.bL.lt (by simp)).trans h.bL
 have D0:Below w.heap.size W W':=(b8 _ _).grown hg h.low.size (fun k e=>by cases e;omega)
 refine⟨⟨hL,(hg.block _ h.bS.lt (by simp)).trans h.bS,h.row.kept hg ?_,h.low.trans D0⟩,D0,fun k o hk hc _ => ?_,?_⟩
 ·rcases h.row.2 with⟨rfl,_⟩|⟨g,cap,cur,rfl,_,D1,_⟩
  ·exact .inl rfl
  ·refine .inr fun e => ?_
   simp only[Value.ownBlock,f5]at e;rw[e,hm]at D1;cases D1
 ·refine(hg.block k (i3 hk) (fun e => ?_)).trans hk
  cases e;rw[hm]at hk;cases hk;cases hc
 ·rintro k (rfl |⟨u,hu,e⟩)
  ·exact .inl (.inl rfl)
  ·exact .inl (.inr ⟨u,(hg.block _ h.bL.lt (by simp)).symm.trans hu,e⟩)
theorem SI.app{w W W1:World}{v v':Value}{M:List Dc}{x:Dc}{tmp:Obj}(h:SI w v M W)(D0:W1.ownsRow w.heap.size 34 2 v' (M.length+1) (M.flatMap C1++C1 x))(hg:(W.alloc tmp).grownBy W1 v.ownBlock)
 (D1:v'.ownBlock=v.ownBlock∨v'.ownBlock=some (W.alloc tmp).heap.size):SI w v' (M++[x]) (W1.setCell ⟨w.heap.size,0,none⟩ v')/\c4Y w.heap.size (NmS w.heap.size) W (W1.setCell ⟨w.heap.size,0,none⟩ v')/\KeepsOthers W (W1.setCell ⟨w.heap.size,0,none⟩ v')/\Boxed W1 w.heap.size 31 v:=by
 obtain⟨h1,h2,h3,h4,h5⟩:=h.bL.appended (by decide) h.row h.low.size (c9 _) D0 hg
 have D2:some (w.heap.size+1+1)≠v.ownBlock:=fun e=>by
  rcases h.row.2 with⟨rfl,_⟩|⟨g,cap,cur,rfl,_,D3,_⟩
  ·cases e
  ·simp only[Value.ownBlock,f5]at e
   have:=h.bS.symm.trans (e ▸ D3);cases this
 have D9:Boxed W1 (w.heap.size+1+1) 90 (.map (some (w.heap.size+1))):=(hg.block _ (by have:=h.bS.lt;simp;omega) D2).trans (h.bS.alloc _)
 have E3:W.heap.size+1<=W1.heap.size:=by have:=hg.size;rw[World.size_alloc]at this;exact this
 have E0:(W1.setCell ⟨w.heap.size,0,none⟩ v').heap.size=W1.heap.size:=by simp
 refine⟨⟨h2,D9.other (by omega) _,by rw[e8,D8];simpa using h3,h.low.trans h5⟩,⟨h5,fun k o hk hc hn => ?_,?_⟩,h4,h1⟩
 ·have E1:k≠w.heap.size:=fun e=>hn (.inl e)
  rw[f7 _ _ _ k E1];have E2:=i3 hk;refine(hg.block k (by rw[World.size_alloc];omega) (fun e=>hn (.inr ⟨v,h.bL,e.symm⟩))).trans ?_
  rw[Below.heap_alloc W tmp k E2];exact hk
 ·rintro k (rfl |⟨u,hu,e⟩)
  ·exact .inl (.inl rfl)
  ·have hu':=hu.symm.trans h2
   simp only[f5,Obj.cells.injEq]at hu';obtain⟨hu',_⟩:=hu';obtain rfl:u=v':=by simpa using hu'
   rcases D1 with h6|h6
   ·exact .inl (.inr ⟨v,h.bL,h6.symm.trans e⟩)
   ·rw[h6]at e
    simp only[f5]at e;have h7:=(D0.lt k (by rw[h6,e])).2
    rw[World.size_alloc]at e;exact .inr ⟨by omega,by rw[E0];exact h7⟩
theorem c5Q(C:List Dc->List Dc->Prop)(HS:c5E C)(q:Option Addr)(z:Int)(w:World)(L:List Dc)(hL:L.length<=1000000)(hS:c49 w q z L):Calls Tryz.prog 16 #[.pointer q,.int .i64 z] w fun e w' => ∃v,e=.returned v/\Below w.heap.size w w' /\
 ((c4X L=[]/\v=.slice none 0 0)∨∃ds g cap cur,C (c4X L) ds/\v=.slice (some ⟨g,0,none⟩) ds.length cap/\w.heap.size<=g/\w'.heap[g]? = some (.cells cur 34 (0,0))/\ds.length<=cap/\cap<=maxLen/\cur.toList.take (ds.length*2)=ds.flatMap C1):=by
 obtain⟨i0,hi,P2,P3,P4⟩:=info_parts c5T;have S2:=@run_makeMap Tryz.prog;refine(callsIn_wide (n:=6)).1 ?_;refine callsIn_of_wp_marks Tryz.func16 rfl trivial ?_ rfl;simp only[Tryz.ntmps16,List.size_toArray,i8,t7,Nat.reduceAdd,Nat.reduceSub,Array.replicate_succ,Array.replicate_zero,List.push_toArray,List.append_toArray,l7,i9]
 gi_wp2_with (refine⟨trivial,?_⟩;gi_at_call 52;refine(callsIn_wide.2 (c5d _ _ _)).mono ?_;rintro e w' ⟨rfl,rfl⟩)
 have bL:=((((Boxed.new w 31 (.slice none 0 0)).alloc (.map #[] 0)).alloc (.cells #[.map (some (w.heap.size+1))] 90)).alloc (.cells #[.pointer q] 24)).alloc (.cells #[.int .i64 z] 3);have J9:=(((World.ownsMap_made (w.alloc (.cells #[.slice none 0 0] 31)) Tryz.prog 9 (plainElem (H:=Unit) Tryz.prog 3)).alloc (.cells #[.map (some (w.heap.size+1))] 90)).alloc (.cells #[.pointer q] 24)).alloc (.cells #[.int .i64 z] 3);have bS:=((Boxed.new ((w.alloc (.cells #[.slice none 0 0] 31)).alloc (.map #[] 0)) 90 (.map (some (w.heap.size+1)))).alloc (.cells #[.pointer q] 24)).alloc (.cells #[.int .i64 z] 3);have bD:=(Boxed.new (((w.alloc (.cells #[.slice none 0 0] 31)).alloc (.map #[] 0)).alloc (.cells #[.map (some (w.heap.size+1))] 90)) 24 (.pointer q)).alloc (.cells #[.int .i64 z] 3);have bN:=Boxed.new ((((w.alloc (.cells #[.slice none 0 0] 31)).alloc (.map #[] 0)).alloc (.cells #[.map (some (w.heap.size+1))] 90)).alloc (.cells #[.pointer q] 24)) 3 (.int .i64 z);have L0:Below w.heap.size w (((((w.alloc (.cells #[.slice none 0 0] 31)).alloc (.map #[] 0)).alloc (.cells #[.map (some (w.heap.size+1))] 90)).alloc (.cells #[.pointer q] 24)).alloc (.cells #[.int .i64 z] 3)):=(((((b8 _ w).alloc (c9 _) _).alloc (by simp) _).alloc (by simp;omega) _).alloc (by simp;omega) _).alloc (by simp;omega) _
 have P5:(((((w.alloc (.cells #[.slice none 0 0] 31)).alloc (.map #[] 0)).alloc (.cells #[.map (some (w.heap.size+1))] 90)).alloc (.cells #[.pointer q] 24)).alloc (.cells #[.int .i64 z] 3)).heap.size=w.heap.size+5:=by simp
 simp only[World.size_alloc]at J9 bS bD bN
 try simp only[World.size_alloc]
 obtain⟨W0,M5⟩ : ∃W0,(((((w.alloc (.cells #[.slice none 0 0] 31)).alloc (.map #[] 0)).alloc (.cells #[.map (some (w.heap.size+1))] 90)).alloc (.cells #[.pointer q] 24)).alloc (.cells #[.int .i64 z] 3))=W0:=⟨_,rfl⟩;rw[M5]at bL J9 bS bD bN L0 P5 ⊢;clear M5;have G8:W0.ownsRow w.heap.size 34 2 (.slice none 0 0) 0 []:=r5 _ _ _ _
 refine wpIn_rangeFunc_ownH rfl (by omega) (gf:=96) (lb:=#[.pointer (some ⟨w.heap.size+1+1+1,0,none⟩),.pointer (some ⟨w.heap.size+1+1+1+1,0,none⟩)]) rfl trivial (enters_of Tryz.func96 (by kernel_rfl) rfl)
  (hS (6-1) _ _ (NmS w.heap.size) W0 (by omega) L0 bD bN ?nm ?nD ?nN ?nlt) c4Y.trans ?kb (b8 _ _) (fun _=>rfl)
  (fun pre W=>(∃v,Boxed W w.heap.size 31 v/\W.ownsRow w.heap.size 34 2 v (c4X (vls pre)).length ((c4X (vls pre)).flatMap C1)/\(v=.slice none 0 0↔c4X (vls pre)=[]))/\(Boxed W (w.heap.size+1+1) 90 (.map (some (w.heap.size+1)))/\W.ownsMap Tryz.prog 9 (plainElem (H:=Unit) Tryz.prog 3) (w.heap.size+1) pre.length (c5j (vls pre)))/\Below w.heap.size w W)
  (fun _ _ _=>False)
  (OwnFrom.and (Own.from (holdsRow_own w.heap.size w.heap.size 31 34 2 (fun pre=>(c4X (vls pre)).length) (fun pre=>(c4X (vls pre)).flatMap C1) (fun pre v=>v=.slice none 0 0↔c4X (vls pre)=[])) _) (OwnFrom.and (fun s A B row hs hg hr=>⟨boxed_own _ _ (fun _=>Value.map (some (w.heap.size+1))) s A B row hs.1 hg (fun r e=>(hr r e).2),hs.2.kept hg (fun e=>by have:=(hr _ e.symm).1;omega)⟩) (ownFrom_below (c9 _) (by omega))))
  (fun _ _ _ _ _ hs _ _=>hs)
  ⟨⟨_,bL,G8,by simp[vls,c4X,c46]⟩,⟨bS,J9⟩,L0⟩
  (fun x a' W => ∃Bx,w.heap.size+2<Bx/\Bx<W.heap.size/\W.heap[Bx]? = some (.cells #[.string x.1.p,.string x.1.u] 34 (0,0))/\a'={ tmps:=#[.pointer q,.int .i64 z,undef,undef,.slice none 0 0,.pointer (some ⟨w.heap.size,0,none⟩),.pointer (some ⟨w.heap.size+1+1,0,none⟩),.pointer (some ⟨Bx,0,none⟩),.map (some (w.heap.size+1)),.pointer q,.int .i64 z,.func (.func 96) #[] #[.pointer (some ⟨w.heap.size+1+1+1,0,none⟩),.pointer (some ⟨w.heap.size+1+1+1+1,0,none⟩)],dcV x.1,undef,undef,undef,undef,undef,undef,undef,undef,undef,undef,undef,undef,undef,undef,undef,undef,undef,undef,undef,undef,undef],defers:=[] })
  (fun x a' _ X Y row hs hg hr=>by
    obtain⟨Bx,h1,h2,h3,h4⟩:=hs;refine⟨Bx,h1,x9 h2 hg.size,(hg.block _ h2 (fun e => ?_)).trans h3,h4⟩;obtain⟨_,o,ho,hc⟩:=hr _ e.symm;rw[h3]at ho;cases ho;cases hc)
  ?assign ?body ?done ?stop
 case nm =>
  rintro W W' S3 hb k (rfl |⟨v,hv,e⟩)
  ·exact .inl rfl
  ·exact .inr ⟨v,(hb.block _ (by omega)).symm.trans hv,e⟩
 case nD =>
  rintro(e |⟨v,hv,e⟩)
  ·omega
  ·have:=hv.symm.trans bL;cases this;cases e
 case nN =>
  rintro(e |⟨v,hv,e⟩)
  ·omega
  ·have:=hv.symm.trans bL;cases this;cases e
 case nlt =>
  rintro k (rfl |⟨v,hv,e⟩)
  ·omega
  ·have:=hv.symm.trans bL;cases this;cases e
 case kb =>
  intro W l o o' hl ho h1 h2;have hg:=grownBy_putObj' W l o';refine⟨belowK_b (w:=w) (c9 _) W l o o' (by omega) ho h1 h2,fun k o1 hk hc _ => ?_,?_⟩
  ·have L1:k≠l:=fun e=>by subst e;rw[ho]at hk;cases hk;rw[h1]at hc;cases hc
   exact(hg.block k (i3 hk) (fun e=>L1 (by cases e;rfl))).trans hk
  ·rintro k (rfl |⟨v,hv,e⟩)
   ·exact .inl (.inl rfl)
   ·have S4:=i3 ho
    exact .inl (.inr ⟨v,(hg.block _ (by omega) (fun e=>by cases e;omega)).symm.trans hv,e⟩)
 case assign =>
  rintro l pre⟨x,E7⟩W K⟨⟨v,bL,E2,E8⟩,⟨bS,D1⟩,hB⟩hK;unfold dcV at hK ⊢
  gi_wp2
  have M6:Below W.heap.size W (W.alloc (.cells #[.string x.p,.string x.u] 34)):=(b8 _ _).alloc (c9 _) _;refine hK _ _ ((KeepsOthers.alloc _ _).from _) (c4Y.of_below M6 hB.size ?_) ⟨⟨v,bL.alloc _,E2.alloc _,E8⟩,⟨bS.alloc _,D1.alloc _⟩,hB.alloc hB.size _⟩ ⟨W.heap.size,bS.lt,by simp,World.alloc_heap_new W _,rfl⟩
  rintro k (rfl |⟨v,hv,e⟩)
  ·exact .inl rfl
  ·exact .inr ⟨v,(M6.block _ bL.lt).symm.trans hv,e⟩
 case body =>
  rintro l pre⟨x,E7⟩a' W hl⟨r,hr⟩⟨⟨v,bL,E2,E8⟩,⟨bS,D1⟩,hB⟩⟨Bx,S5,P6,bX,rfl⟩S6;have cX0:W.cell? ⟨Bx,0,none⟩=some (.string x.p):=by simp[World.cell?,bX]
  have cX1:W.cell? ⟨Bx,1,none⟩=some (.string x.u):=by simp[World.cell?,bX]
  have cL:=bL.cell;have cS:=bS.cell;have D9:keyOf Tryz.prog 9 (.string x.p)=some (.string x.p.data.toList):=c6h x.p E7.1;have G9:(vls pre).length<=1000000:=by rw[c5x];omega
  obtain⟨K,hK⟩ : ∃K,c5o (vls pre) x.p.data.toList=K:=⟨_,rfl⟩;have G4:=c5N (H:=Unit) (vls pre) (by omega) x.p.data.toList
  have S7:K<=1000000:=by rw[<-hK];exact d8 (c5L _ _) G9
  rw[hK]at G4;have HM:=a8 (fun w'=>c5I x w');unfold dcV at HM ⊢;have hd:1<=6-1-1:=by omega
  have HC:Hid (∀c:Int,(c5j (H:=Unit) (vls pre)).atKey (.string x.p.data.toList) (.lit (.int .i64 0))=.lit (.int .i64 c)->c=(K:Int)):=fun c hc=>by
   rw[G4]at hc;injection hc with hc;injection hc with _ hc;exact hc.symm
  have L2:Hid (∀(v c:Int),((c5j (H:=Unit) (vls pre)).put (.string x.p.data.toList) (.lit (.int .i64 v))).atKey (.string x.p.data.toList) (.lit (.int .i64 0))=.lit (.int .i64 c)->c=v):=fun v c hc=>by
   rw[Maps.atKey_put_same (c5M _) (show WideAt.IsKeyLit (.string _)from trivial)]at hc;injection hc with hc;injection hc with _ hc;exact hc.symm
  have S8:(K:Int)<=1000000:=by omega
  have P7:(0:Int)<=(K:Int):=by omega
  clear G4;obtain⟨es,ck,J1,E3⟩:=D1;have D1:W.ownsMap Tryz.prog 9 (plainElem (H:=Unit) Tryz.prog 3) (w.heap.size+1) pre.length (c5j (vls pre)):=⟨es,ck,J1,E3⟩;have M7:SI w v (c4X (vls pre)) W:=⟨bL,bS,E2,hB⟩;have L3:(c4X (vls pre)).length<=1000000:=d8 (c5A _) G9;have L4:Hid (∀w1:World,W.grownBy w1 (some (w.heap.size+1))->w1.heap[Bx]? = some (.cells #[.string x.p,.string x.u] 34 (0,0))):=fun w1 hg=>(hg.block _ P6 (fun e=>by cases e;omega)).trans bX
  have L5:=a8 M7;have G5:=a8 J1;have P8:Hid (∀w1:World,W.grownBy w1 (some (w.heap.size+1))->KeepsFrom W0.heap.size W w1):=fun w1 hg=>KeepsFrom.of_grownBy hg (fun j e=>by cases e;omega)
  have L6:Hid (pre.length<=1000000):=a8 (by rw[c5x]at G9;exact G9)
  have M8:c5c (vls pre) x=(decide (K=0) && !N4 x.u []):=by
   unfold c5c
   congr 1
   rw[<-hK];by_cases h:c5o (vls pre) x.p.data.toList=0
   ·rw[i6 h,c5u.1 h];rfl
   ·rw[f8 h]
    cases hf:a0b (vls pre) x.p.data.toList with
    |none=>exact absurd (c5u.2 hf) h
    |some u=>rfl
  have L7:=a8 M8;obtain⟨uu,M9⟩ : ∃uu,(!N4 x.u [])=uu:=⟨_,rfl⟩;rw[M9]at HM L7
  have P9:Hid (∀w1:World,w1.ownsMap Tryz.prog 9 (plainElem (H:=Unit) Tryz.prog 3) (w.heap.size+1) (pre.length+1) ((c5j (H:=Unit) (vls pre)).put (.string x.p.data.toList) (.lit (.int .i64 ((K:Int)+1))))->w1.ownsMap Tryz.prog 9 (plainElem (H:=Unit) Tryz.prog 3) (w.heap.size+1) (pre++[(⟨x,E7⟩ : Ds)]).length (c5j (vls (pre++[(⟨x,E7⟩ : Ds)])))):=fun w1 h=>by
   rw[c44,c5i,e8,j0];unfold c6k;have h0:=c5N (H:=Unit) (vls pre) (by omega) x.p.data.toList
   rw[h0,hK];simp only[c6q];rw[show wrap64 ((K:Int)+1)=(K:Int)+1 from by unfold wrap64;omega]
   exact h
  have J2:∀(wa wb:World) (row:Option Nat) (n:Nat) (D:DataW Unit),wa.ownsMap Tryz.prog 9 (plainElem (H:=Unit) Tryz.prog 3) (w.heap.size+1) n D->wa.grownBy wb row->some (w.heap.size+1)≠row->wb.ownsMap Tryz.prog 9 (plainElem (H:=Unit) Tryz.prog 3) (w.heap.size+1) n D:=fun wa wb row n D h1 h2 h3=>h1.kept h2 h3;have G0:=a8 J2
  have G6:Hid (∀(w1 w2:World) (v':Value) (M:List Dc),W.grownBy w1 (some (w.heap.size+1))->KeepsOthers w1 w2->SI w v' M w2->c4Y w.heap.size (NmS w.heap.size) W w2->w2.ownsMap Tryz.prog 9 (plainElem (H:=Unit) Tryz.prog 3) (w.heap.size+1) (pre.length+1) ((c5j (H:=Unit) (vls pre)).put (.string x.p.data.toList) (.lit (.int .i64 ((K:Int)+1))))->M=c4X (vls pre)++(if c5c (vls pre) x then[x]else[])->(v'=.slice none 0 0↔M=[]) ->
   KeepsFrom W0.heap.size W w2/\c4Y w.heap.size (NmS w.heap.size) W w2/\((∃v,Boxed w2 w.heap.size 31 v/\w2.ownsRow w.heap.size 34 2 v (c4X (vls (pre++[(⟨x,E7⟩ : Ds)]))).length ((c4X (vls (pre++[(⟨x,E7⟩ : Ds)]))).flatMap C1)/\(v=.slice none 0 0↔c4X (vls (pre++[(⟨x,E7⟩ : Ds)]))=[]))/\(Boxed w2 (w.heap.size+1+1) 90 (.map (some (w.heap.size+1)))/\w2.ownsMap Tryz.prog 9 (plainElem (H:=Unit) Tryz.prog 3) (w.heap.size+1) (pre++[(⟨x,E7⟩ : Ds)]).length (c5j (vls (pre++[(⟨x,E7⟩ : Ds)]))))/\Below w.heap.size w w2)):=fun w1 w2 v' M hg J3 h1 h2 h3 h4 h5=>by
   have e:c4X (vls (pre++[(⟨x,E7⟩ : Ds)]))=M:=by rw[c44,c5r,h4]
   rw[e];exact⟨(P8.out w1 hg).trans (J3.from _),h2,⟨v',h1.bL,h1.row,h5⟩,⟨h1.bS,P9.out w2 h3⟩,h1.low⟩
  have N0:=a8 E8;clear E3 M7 E2 M9 M8 hK G9 J2 E8;by_cases N1:K=0
  ·subst N1
   have J4:c5c (vls pre) x=uu:=by rw[L7.out];simp
   have J8:=a8 J4;clear J4;cases uu with
   |false =>
    gi_wp2_with (first
     |(gi_at_lookup;refine wpListIn_lookup_own_int _ rfl _ _ 90 rfl 9 3 .i64 (Maps.string_keyed Tryz.underlying9) Tryz.underlying90 Tryz.underlying3 (Tryz.zeroValue3 _) (w.heap.size+1) pre.length _ rfl D1 _ _ rfl D9 ?_;intro c E4 J5;obtain rfl:=HC.out c E4)
     |(gi_at_mapUpdate;refine wpListIn_mapUpdate_own _ rfl _ _ _ 90 rfl 9 3 (Maps.string_keyed Tryz.underlying9) Tryz.underlying90 _ (w.heap.size+1) pre.length _ rfl D1 (by have:=L6.out;unfold maxLen;omega) _ _ _ rfl rfl D9 _ [] (plainElem_int Tryz.underlying3 (by first|exact c5m (by omega) (by omega)|exact wrap64_wf _)) ?_;intro w1 D3 D0;obtain⟨D2,E5⟩:=L5.out.map G5.out D0;have cS1:=D2.bS.cell;have cL1:=D2.bL.cell;have bX1:=L4.out w1 D0;have cX2:w1.cell? ⟨Bx,0,none⟩=some (.string x.p):=(by simp[World.cell?,bX1]);have cX3:w1.cell? ⟨Bx,1,none⟩=some (.string x.u):=(by simp[World.cell?,bX1]))
     |(gi_at_lookup;refine wpListIn_lookup_own_int _ rfl _ _ 90 rfl 9 3 .i64 (Maps.string_keyed Tryz.underlying9) Tryz.underlying90 Tryz.underlying3 (Tryz.zeroValue3 _) (w.heap.size+1) (pre.length+1) _ rfl D3 _ _ rfl D9 ?_;intro c E4 J5;obtain rfl:=L2.out _ c E4)
     |(refine⟨trivial,?_⟩;gi_at_call 53;refine(CallsIn.inRound l (callsIn_wide.2 (HM.out _))).mono ?_;rintro e w2 ⟨rfl,E0⟩;have E1:=D2.later E0;have cL2:=E1.bL.cell;have bX2:=(E0.block _ (i3 bX1)).trans bX1;have cX4:w2.cell? ⟨Bx,0,none⟩=some (.string x.p):=(by simp[World.cell?,bX2]);have cX5:w2.cell? ⟨Bx,1,none⟩=some (.string x.u):=(by simp[World.cell?,bX2])))
    have J3:KeepsOthers w1 w2:=⟨E0.size,fun k o hk _=>(E0.block k (i3 hk)).trans hk⟩;exact G6.out w1 w2 v _ D0 J3 E1 (E5.trans (D2.kept_below E0)) (G0.out _ _ none _ _ (by simpa using D3) (c4W E0) (by simp)) (by rw[J8.out];simp) N0.out
   |true =>
    gi_wp2_with (first
     |(gi_at_lookup;refine wpListIn_lookup_own_int _ rfl _ _ 90 rfl 9 3 .i64 (Maps.string_keyed Tryz.underlying9) Tryz.underlying90 Tryz.underlying3 (Tryz.zeroValue3 _) (w.heap.size+1) pre.length _ rfl D1 _ _ rfl D9 ?_;intro c E4 J5;obtain rfl:=HC.out c E4)
     |(gi_at_mapUpdate;refine wpListIn_mapUpdate_own _ rfl _ _ _ 90 rfl 9 3 (Maps.string_keyed Tryz.underlying9) Tryz.underlying90 _ (w.heap.size+1) pre.length _ rfl D1 (by have:=L6.out;unfold maxLen;omega) _ _ _ rfl rfl D9 _ [] (plainElem_int Tryz.underlying3 (by first|exact c5m (by omega) (by omega)|exact wrap64_wf _)) ?_;intro w1 D3 D0;obtain⟨D2,E5⟩:=L5.out.map G5.out D0;have cS1:=D2.bS.cell;have cL1:=D2.bL.cell;have bX1:=L4.out w1 D0;have cX2:w1.cell? ⟨Bx,0,none⟩=some (.string x.p):=(by simp[World.cell?,bX1]);have cX3:w1.cell? ⟨Bx,1,none⟩=some (.string x.u):=(by simp[World.cell?,bX1]))
     |(gi_at_lookup;refine wpListIn_lookup_own_int _ rfl _ _ 90 rfl 9 3 .i64 (Maps.string_keyed Tryz.underlying9) Tryz.underlying90 Tryz.underlying3 (Tryz.zeroValue3 _) (w.heap.size+1) (pre.length+1) _ rfl D3 _ _ rfl D9 ?_;intro c E4 J5;obtain rfl:=L2.out _ c E4)
     |(refine⟨trivial,?_⟩;gi_at_call 53;refine(CallsIn.inRound l (callsIn_wide.2 (HM.out _))).mono ?_;rintro e w2 ⟨rfl,E0⟩;have E1:=D2.later E0;have cL2:=E1.bL.cell;have bX2:=(E0.block _ (i3 bX1)).trans bX1;have cX4:w2.cell? ⟨Bx,0,none⟩=some (.string x.p):=(by simp[World.cell?,bX2]);have cX5:w2.cell? ⟨Bx,1,none⟩=some (.string x.u):=(by simp[World.cell?,bX2]))
     |(gi_at_builtin;refine c6a _ rfl _ _ 31 rfl w.heap.size 34 i0 (.agg #[.string ⟨#[]⟩,.string ⟨#[]⟩]) 2 32 Tryz.underlying31 hi P2 P3 P4 rfl (by decide) _ _ _ rfl (E1.row.alloc _) ⟨w2.heap.size,0,none⟩ 1 1 (C1 x) rfl rfl (World.news_of_block (g9 w2 _)) (by simp[C1,Value.oneCell']) (by unfold maxLen;omega) (by omega) (by have:=E1.low.size;simp;omega) ?_;intro v' w3 G1 E6 L8;obtain⟨L9,M0,M1,J6⟩:=E1.app G1 E6 L8;obtain⟨g',cap',rfl⟩:=ownsRow_succ G1;have R0:=J6.cell;have S9:=J6.frozen))
    have J3:KeepsOthers w1 w2:=⟨E0.size,fun k o hk _=>(E0.block k (i3 hk)).trans hk⟩;have N2:=G0.out _ _ none _ _ D3 (c4W E0) (by simp)
    have R1:(w2.alloc (.cells (C1 x).toArray 34)).grownBy w3 v.ownBlock:=E6
    have L1:some (w.heap.size+1)≠v.ownBlock:=fun e=>by
     rcases E1.row.2 with⟨h,_⟩|⟨g,cap,cur,h,_,G7,_⟩
     ·rw[h]at e;cases e
     ·rw[h]at e
      simp only[Value.ownBlock,f5]at e;obtain⟨es2,ck2,M2,_⟩:=N2;rw[<-e,M2]at G7;cases G7
    have R2:=G0.out _ _ _ _ _ (N2.alloc (.cells (C1 x).toArray 34)) R1 L1;have R3:=G0.out _ _ _ _ _ R2 (grownBy_setCell' w3 w.heap.size (.slice (some ⟨g',0,none⟩) ((c4X (vls pre)).length+1) cap')) (by simp)
    exact G6.out w1 _ _ _ D0 (J3.trans M1) L9 ((E5.trans (D2.kept_below E0)).trans M0) (by simpa using R3) (by rw[J8.out];simp) (by simp)
  ·have J4:c5c (vls pre) x=false:=by rw[L7.out];simp[N1]
   have J8:=a8 J4;have T0:((K:Int)+1==1)=false:=by simp;omega
   clear J4
   gi_wp2_with (first
    |(gi_at_lookup;refine wpListIn_lookup_own_int _ rfl _ _ 90 rfl 9 3 .i64 (Maps.string_keyed Tryz.underlying9) Tryz.underlying90 Tryz.underlying3 (Tryz.zeroValue3 _) (w.heap.size+1) pre.length _ rfl D1 _ _ rfl D9 ?_;intro c E4 J5;obtain rfl:=HC.out c E4)
    |(gi_at_mapUpdate;refine wpListIn_mapUpdate_own _ rfl _ _ _ 90 rfl 9 3 (Maps.string_keyed Tryz.underlying9) Tryz.underlying90 _ (w.heap.size+1) pre.length _ rfl D1 (by have:=L6.out;unfold maxLen;omega) _ _ _ rfl rfl D9 _ [] (plainElem_int Tryz.underlying3 (by first|exact c5m (by omega) (by omega)|exact wrap64_wf _)) ?_;intro w1 D3 D0;obtain⟨D2,E5⟩:=L5.out.map G5.out D0;have cS1:=D2.bS.cell;have cL1:=D2.bL.cell;have bX1:=L4.out w1 D0;have cX2:w1.cell? ⟨Bx,0,none⟩=some (.string x.p):=(by simp[World.cell?,bX1]);have cX3:w1.cell? ⟨Bx,1,none⟩=some (.string x.u):=(by simp[World.cell?,bX1]))
    |(gi_at_lookup;refine wpListIn_lookup_own_int _ rfl _ _ 90 rfl 9 3 .i64 (Maps.string_keyed Tryz.underlying9) Tryz.underlying90 Tryz.underlying3 (Tryz.zeroValue3 _) (w.heap.size+1) (pre.length+1) _ rfl D3 _ _ rfl D9 ?_;intro c E4 J5;obtain rfl:=L2.out _ c E4))
   refine⟨trivial,?_⟩
   gi_wp2
   exact G6.out w1 w1 v _ D0 (KeepsOthers.refl _) D2 E5 D3 (by rw[J8.out];simp) N0.out
 case done =>
  rintro D xs W hD M3⟨⟨v,bL,E2,E8⟩,⟨bS,D1⟩,hB⟩hK;have cL:=bL.cell;have M3:vls xs=L:=M3;rw[M3]at E2 E8;have L3:(c4X L).length<=1000000:=d8 (c5A _) hL;obtain⟨N3,N5⟩:=HS;obtain⟨N6,⟨rfl,h0⟩|⟨g,cap,cur,rfl,hg,G7,R4,R5,R0,N7⟩⟩:=E2
  ·have R6:=a8 (E8.1 rfl)
   have R7:=a8 (N3 W);clear D1 N6 E8 h0 L3 N3 N5
   gi_wp2_with (refine⟨trivial,?_⟩;gi_at_call 54;refine(callsIn_wide.2 R7.out).mono ?_;rintro e w2 ⟨rfl,E0⟩;have cL2:=(E0.cell (p:=⟨w.heap.size,0,none⟩) bL.lt).trans cL)
   have J7:=(E0.block D (i3 hK)).trans hK;refine⟨by simp,.inl ⟨_,_,rfl,run_takeDeferred J7,?_⟩⟩
   exact⟨_,results_tmp rfl _ _ _,_,rfl,(hB.trans (E0.mono hB.size)).trans (belowK_b (w:=w) (c9 _) w2 D _ _ (by omega) J7 rfl rfl),.inl ⟨R6.out,rfl⟩⟩
  ·have R8:=a8 (N5 g cap cur (c4X L) W G7 N7 L3)
   have R9:w.heap.size<g:=by
    refine Nat.lt_of_le_of_ne hg (fun e => ?_);subst e;have:=bL.symm.trans G7;cases this
   have N8:D≠g:=fun e=>by subst e;rw[G7]at hK;cases hK
   clear D1 N6 E8 N7;generalize hq:(c4X L).length=m at *
   gi_wp2_with (refine⟨trivial,?_⟩;gi_at_call 54;refine(callsIn_wide.2 R8.out).mono ?_;rintro e w2 ⟨rfl,ds,cur',hC,N9,T1,S0,P0,P1,M4⟩;have cL2:=((P1 _ (c9 _)).cell (p:=⟨w.heap.size,0,none⟩) R9).trans cL)
   have J7:=(M4 D (i3 hK) N8).trans hK;refine⟨by simp,.inl ⟨_,_,rfl,run_takeDeferred J7,?_⟩⟩
   refine⟨_,results_tmp rfl _ _ _,_,rfl,(hB.trans (P1 _ hg)).trans (belowK_b (w:=w) (c9 _) w2 D _ _ (by omega) J7 rfl rfl),.inr ⟨ds,g,cap,cur',hC,by rw[P0];rfl,hg,?_,by rw[P0];exact R4,R5,S0⟩⟩
   have S1:=grownBy_putObj' w2 D (.deferred none);exact(S1.block g (i3 N9) (fun e=>N8 (by cases e;rfl))).trans N9
 case stop =>
  rintro D c pre W _ _ h _;exact h.elim
end
def c6o(L ds:List Dc):Prop:=ds.Perm L/\c3F ds
theorem c5P:c5E c6o:=by
 refine⟨fun w=>Calls.mono (c5Z _ w) fun e w' ⟨h1,h2⟩=>⟨h1,by rw[h2];exact b8 _ _⟩,fun X0 cap cur ds w h1 h2 h3=>Calls.mono (c3Y X0 cap cur ds w h1 h2 h3) ?_⟩
 rintro e w'⟨he,ds',cur',hp,hs,hc,hz,ht,hb,ho⟩;exact⟨he,ds',cur',⟨hp,hs⟩,hc,hz,ht,hp.length_eq,hb,ho⟩
theorem c5s{B d:Nat}{l:List Nd}(z:Int)(w:World)(h:a0Q w B d l)(D0:l.length<=100000)(hs:∀x∈l,Sm x)(hh:W4 l l.length)(h0:pa l 0 = -1)(hb:(scD l z).length<=1000000) :
 Calls Tryz.prog 16 #[.pointer (some ⟨d,0,none⟩),.int .i64 z] w fun e w' => ∃v ds,e=.returned v/\ds.Perm (c4X (scD l z))/\c3F ds/\a0P w' w'.heap.size v ds/\Below w.heap.size w w':=by
 refine Calls.mono (c5Q c6o c5P (some ⟨d,0,none⟩) z w (scD l z) hb (c5g z w h D0 hs hh h0)) ?_;rintro e w'⟨v,rfl,D1,⟨hn,rfl⟩|⟨ds,g,cap,cur,⟨hp,D2⟩,rfl,hg,hc,h1,h2,ht⟩⟩
 ·refine⟨_,[],rfl,by rw[hn],List.Pairwise.nil,⟨none,0,rfl,c9 _,by omega,fun h=>absurd rfl h⟩,D1⟩
 ·refine⟨_,ds,rfl,hp,D2,⟨some ⟨g,0,none⟩,cap,rfl,h1,d8 h2 (by unfold maxLen;omega),fun _=>⟨g,0,rfl,i3 hc,fun j hj => ?_⟩⟩,D1⟩
  rw[F5,d9 w' g j _ _ _ hc];have hj':j<ds.length*2:=by rw[N2 (f:=C1) (c:=2) (fun _=>rfl)]at hj;exact hj
  rw[<-A9,<-List.getElem?_take_of_lt hj',ht,i5 hj]
theorem c55{B d:Nat}{l:List Nd}(z:Int)(p:ByteArray)(w:World)(h:a0Q w B d l)(D0:l.length<=100000)(hs:∀x∈l,Sm x)(hh:W4 l l.length)(h0:pa l 0 = -1) :
 Calls Tryz.prog 14 #[.pointer (some ⟨d,0,none⟩),.int .i64 z,.string p] w fun e w'=>e=.returned (.tuple #[.string (c41 (scD l z) p.data.toList).1,.bool (c41 (scD l z) p.data.toList).2])/\Below w.heap.size w w' :=
 c5D (some ⟨d,0,none⟩) z p w _ (c5g z w h D0 hs hh h0)
theorem c5G{l:List Nd}(hw:J6 l=true)(z:Int):(scD l z).length<=1000000:=by
 unfold J6 at hw;rw[t8]at hw;obtain⟨hl,hi⟩:=hw
 have hd:∀m,(dsR l m).length<=64:=fun m=>by
  by_cases hm:m<l.length
  ·rw[a49 hm]
   have:=(hi m hm).2;rw[b6A hm]at this;omega
  ·simp[dsR,List.getElem?_eq_none (Nat.le_of_not_lt hm)]
 have D0:∀A:List Int,(A.flatMap (fun a=>dsR l a.toNat)).length<=A.length*64:=by
  intro A
  induction A with
  |nil=>simp
  |cons a r ih =>
   rw[List.flatMap_cons,e8,i8];have:=hd a.toNat;omega
 unfold scD
 split
 ·rename_i h
  split
  ·rw[c5e,i8]
   have h1:=D0 (c42 l z.toNat);have h2:=c5y l z.toNat z.toNat (c9 _);have h3:(c42 l z.toNat).length=(upL l z.toNat).length+1:=i8;omega
  ·exact o4 _
 ·exact o4 _
end Go.Proofs.YtlgcigmolfhamaaGreatDoor
