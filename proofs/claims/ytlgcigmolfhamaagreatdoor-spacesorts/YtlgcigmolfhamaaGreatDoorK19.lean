/-
  doc.formed: whether a list is formed. Conditions: the list lies as it is, the tables too; there are not too many nodes, the texts are not too long. doc.copies of nodes: a list of nodes in new memory. Conditions: the list lies as it is; there are not too many nodes, the texts are not too long. doc.Of: the document of a list, or why it is none. Conditions: the list lies as it is, the tables too; there are not too many nodes, the texts are not too long.
  Nodes with their lists' values: how a list of nodes lies as one row of cells, opened and shut. Conditions: none.
  A region whose order is drawn, whatever its operations do: what holds of the operations done so far, of what they yielded, and of the world, is carried from one to the next. Conditions: none.
  parse.reader in memory: its block, its rows, the nodes it has; what stays. Conditions: none.
-/
import Derived.Test.YtlgcigmolfhamaaGreatDoorK17
import Derived.Test.YtlgcigmolfhamaaGreatDoorK18
import Derived.Deep.Slices
import Derived.Deep.AppendLies
import Derived.Test.YtlgcigmolfhamaaGreatDoorK10
import Derived.Test.YtlgcigmolfhamaaGreatDoorK13
namespace Go.Proofs.YtlgcigmolfhamaaGreatDoor
open Go.RowKit
open Go.RowKit
open Go.RowKit
set_option linter.unusedVariables false
set_option maxRecDepth 100000
set_option maxHeartbeats 16000000
noncomputable def K6:List Nd->Bool
 | []=>false
 |x::r=>S9 x&&(N3 (x::r)&&(r.all N0&&X3 (x::r)))
theorem b8m{b o n cap:Nat}(hn:1<=n)(hc:n<=cap):∃A',(∀W,(Instr.slice 28 (.slice (some ⟨b,o,none⟩) n cap) (some (.int .i64 1)) none none).run Tryz.prog W=.ok (.slice A' (n-1) (cap-1)) W)/\(1<n->A'=some ⟨b,o+8,none⟩):=by
 have hs:∀w,(sizeOf 46).run Tryz.prog w=.ok 8 w:=fun w=>by kernel_rfl
 refine⟨if cap=1 then some ⟨b,o,none⟩else some ⟨b,o+8,none⟩,fun W => ?_,fun h=>by rw[f6 (by omega)]⟩
 have h1:(1:Int)<=(n:Int):=by omega
 simp[Instr.slice,run_underlying Tryz.underlying28,Instr.sliceBounds,Instr.sliceBound,asIntOf,hs,h1,Addr.add]
theorem b27{x:Nd}{r:List Nd}(h:S9 x=true):pa (x::r) 0 = -1:=by
 unfold S9 at h;simp only[i4,x8]at h;rw[Z5 (by simp)]
 exact h.2.1
theorem a5k{l:List Nd}(h:N3 l=true):∀i,1<=i->i<l.length->S4 l i=true:=fun i h1 h2=>by
 cases hh:S4 l i with
 |true=>rfl
 |false =>
  have:=a7O h1 h2 (by unfold okP;rw[hh];rfl)
  rw[h]at this;cases this
theorem b2x(l:List Nd)(v:Value)(w:World)(hv:S3 w w.heap.size v l)(D1:l.length<=100000)(hs:∀x∈l,Sm x)(hW:Wd w) :
 Calls Tryz.prog 78 #[v] w fun e w'=>e=.returned (.bool (K6 l))/\Below w.heap.size w w':=by
 have HV:=a8 hv;obtain⟨A,cap,rfl,D2,L5⟩:=hv.slice
 match l,hs,HV,D2,D1 with
 | [],hs,HV,D2,D1 =>
  have J6:((0:Int)==0)=true:=rfl;rw[show([] : List Nd).length=0 from rfl];go_enter Tryz.func78,Tryz.ntmps78;go_wp2;go_ret;exact⟨rfl,b8 _ _⟩
 |x::r,hs,HV,D2,D1 =>
  obtain⟨b,o,cap',e,_,_,J7,E3⟩:=HV.out.open (by simp)
  simp only[o5]at e;obtain⟨rfl,_,rfl⟩:=e;have J8:=a8 E3;obtain⟨vd,va,d0,d1,d2,d3,d4,d5,d6,d7,hd,ha⟩:=(E3 0 (by simp)).cells
  have G0:(x::r)[0]=x:=rfl;rw[G0]at d0 d1 d2 d3 d4 d5 hd ha;rw[Nat.zero_mul,Nat.add_zero]at d0 d1 d2 d3 d4 d5 d6 d7;have G1:Hid (Calls Tryz.prog 122 #[.agg #[.int .i64 x.k,.int .i64 x.n,.string x.p,.string x.l,.string x.u,.string x.t,vd,va]] w fun e w'=>e=.returned (.bool (S9 x))/\Below w.heap.size w w'):=b56 x _ w ⟨vd,va,rfl,hd,ha⟩;obtain⟨A1,c1,rfl,_⟩:=hd;obtain⟨A2,c2,rfl,_⟩:=ha;obtain⟨n,hn⟩ : ∃n,(x::r).length=n:=⟨_,rfl⟩;have HN:=a8 hn;have J9:1<=n:=by rw[<-hn];simp
  have E4:Hid (∀w',Below w.heap.size w w'->Calls Tryz.prog 123 #[.slice (some ⟨b,o,none⟩) (x::r).length cap] w' fun e w''=>e=.returned (.bool (N3 (x::r)))/\Below w'.heap.size w' w''):=fun w' hb=>b2c (x::r) _ w' (HV.out.later hb) (by simp) (by omega)
  have G4:Hid (S9 x=true->N3 (x::r)=true->∀w',Below w.heap.size w w'->Calls Tryz.prog 125 #[.slice (some ⟨b,o,none⟩) (x::r).length cap] w' fun e w''=>e=.returned (.bool (X3 (x::r)))/\Below w'.heap.size w' w''):=fun h1 h2 w' hb =>
   b4C (x::r) _ w' (HV.out.later hb) D1 hs (by have:=(hW.later hb).tabs.five;omega) (b27 h1) (a5k h2)
  rw[hn]at E4 G4 D2 D1 ⊢;obtain⟨A',G5,hA'⟩:=b8m (b:=b) (o:=o) J9 D2;have HW:=a8 hW;rw[show K6 (x::r)=(S9 x&&(N3 (x::r)&&(r.all N0&&X3 (x::r))))from rfl];generalize S9 x=B1 at *;generalize N3 (x::r)=B2 at *;generalize X3 (x::r)=B4 at *;obtain⟨B3,E5⟩ : ∃B3,r.all N0=B3:=⟨_,rfl⟩;rw[E5];have G6:=a8 E5;have J6:((n:Int)==0)=false:=by rw[e9];omega
  have L6:(0:Int)<(n:Int):=by omega
  have G7:r.length=n-1:=by rw[<-hn];simp
  have E0:=a8 G7;have E6:((n-1:Nat):Int)=(n:Int)-1:=by omega
  clear E5 E3 hn G7 hW G0;go_enter Tryz.func78,Tryz.ntmps78
  go_wp2_with fail
  refine G1.out.mono ?_;rintro e w1⟨rfl,D3⟩;cases B1 with
  |false =>
   go_wp2;go_ret;exact⟨rfl,D3⟩
  |true =>
   go_wp2_with fail
   refine(E4.out w1 D3).mono ?_;rintro e w2⟨rfl,G8⟩;have G9:=D3.trans (G8.mono D3.size);have J1:=a8 G9;cases B2 with
   |false =>
    go_wp2;go_ret;exact⟨rfl,G9⟩
   |true =>
    clear D3 G8 G1 E4 d0 d1 d2 d3 d4 d5 d6 d7;obtain⟨m,hm⟩ : ∃m,n-1=m:=⟨_,rfl⟩;rw[hm]at G5 E0;have HM:=a8 hm;have L7:m+1=n:=by omega
    clear hm E6;go_wp2
    go_loopw [23] (a9S N0 r w2) (fun i _=>m-(intOf i).toNat)
    case atStart=>exact⟨0,o4 _,rfl,rfl,b8 _ _⟩
    case round =>
     obtain⟨k,hk,rfl,J2,E7⟩:=hrel;have J3:=a8 J2;have D0:=J1.out.trans (E7.mono J1.out.size);rw[E0.out]at hk;clear J2 G5;by_cases J4:k<m
     ·have E1:k<r.length:=by rw[E0.out];exact J4
      have L0:k+1<(x::r).length:=by simp;omega
      obtain rfl:=hA' (by omega)
      obtain⟨vd,va,d0,d1,d2,d3,d4,d5,d6,d7,hd,ha⟩:=((J8.out (k+1) L0).below J7 D0).cells;have J5:(x::r)[k+1]=r[k]:=rfl;rw[J5]at d0 d1 d2 d3 d4 d5 hd ha;have ho:o+(k+1)*8=o+8+k*8:=by omega
      rw[ho]at d0 d1 d2 d3 d4 d5 d6 d7;have L1:=hs r[k] (List.mem_cons_of_mem _ (o0 E1))
      have L2:Hid (∀w',Below wr.heap.size wr w'->Calls Tryz.prog 124 #[.agg #[.int .i64 r[k].k,.int .i64 r[k].n,.string r[k].p,.string r[k].l,.string r[k].u,.string r[k].t,vd,va]] w' fun e w''=>e=.returned (.bool (N0 r[k]))/\Below w'.heap.size w' w''):=fun w' hb' =>
       b6l r[k] _ L1 w' (HW.out.later (D0.trans (hb'.mono D0.size))) ((NdV.mono ⟨vd,va,rfl,hd,ha⟩ D0.size).later hb')
      obtain⟨A1,c1,rfl,_⟩:=hd;obtain⟨A2,c2,rfl,_⟩:=ha;have HF:Hid (N0 r[k]=false->B3=false):=fun h=>by rw[<-G6.out,a53 E1 h]
      have HT:Hid (N0 r[k]=true->(r.take (k+1)).all N0=true):=a4F E1 J3.out;have L3:(k:Int)<(m:Int):=by omega
      generalize N0 r[k]=BB at *;generalize r[k]=y at *;clear ho J5
      go_wp2_with fail
      refine(L2.out _ ((b8 _ _).alloc (c9 _) _)).mono ?_;rintro e w3⟨rfl,E2⟩;have D9:=E8 E2;clear E2;cases BB with
      |false =>
       obtain rfl:=HF.out rfl;go_wp2;go_ret;exact⟨rfl,D0.trans (D9.mono D0.size)⟩
      |true =>
       go_wp2
       go_roundw
       case rel=>exact⟨k+1,E1,by go_num,HT.out (by simp),E7.trans (D9.mono E7.size)⟩
       case measure=>simp[intOf];omega
     ·have L3:¬(k:Int)<(m:Int):=by omega
      have hT:true=B3:=by rw[<-G6.out];exact(a3r (by rw[E0.out];exact J4) J3.out).symm
      subst hT;have L4:=a8 (G4.out (by simp) (by simp) wr D0)
      go_wp2_with fail
      refine L4.out.mono ?_;rintro e w3⟨rfl,E2⟩;go_wp2;go_ret;exact⟨rfl,D0.trans (E2.mono D0.size)⟩
def a19(w:World)(B:Nat)(cur:Array Value)(l:List Nd)(k:Nat):Prop :=
 ∀i (hi:i<l.length),i<k->∃vd va,(∀j (hj:j<8),cur[i*8+j]? = some ((ndC l[i] vd va)[j]'hj))/\a1A w B vd l[i].ds/\a1B w B va l[i].ats
def a00(w:World)(B:Nat)(v:Value)(l:List Nd):Prop :=
 (l=[]/\v=.slice none 0 0)∨∃g cur,v=.slice (some ⟨g,0,none⟩) l.length l.length/\B<=g/\w.heap[g]? = some (.cells cur 46 (0,0))/\cur.size=l.length*8/\a19 w B cur l l.length
theorem a19.later{w w':World}{B k:Nat}{cur:Array Value}{l:List Nd}(h:a19 w B cur l k)(hb:Below w.heap.size w w'):a19 w' B cur l k:=fun i hi hk=>by
 obtain⟨vd,va,h1,h2,h3⟩:=h i hi hk;exact⟨vd,va,h1,J8.later h2 hb,J8.later h3 hb⟩
theorem a19.aside{w w':World}{B k r:Nat}{cur z:Array Value}{l:List Nd}(h:a19 w B cur l k)(hr:w.heap[r]? = some (.cells z 46 (0,0)))(D0:∀g,g≠r->w'.heap[g]? = w.heap[g]?):a19 w' B cur l k:=fun i hi hk=>by
 obtain⟨vd,va,h1,h2,h3⟩:=h i hi hk;exact⟨vd,va,h1,J8.aside h2 hr (by decide) D0,J8.aside h3 hr (by decide) D0⟩
theorem a00.later{w w':World}{B:Nat}{v:Value}{l:List Nd}(h:a00 w B v l)(hb:Below w.heap.size w w'):a00 w' B v l:=by
 rcases h with h|⟨g,cur,h1,h2,h3,h4,h5⟩
 ·exact .inl h
 ·exact .inr ⟨g,cur,h1,h2,(hb.block g (i3 h3)).trans h3,h4,h5.later hb⟩
theorem a00.mono{w:World}{B B':Nat}{v:Value}{l:List Nd}(h:a00 w B v l)(hb:B'<=B):a00 w B' v l:=by
 rcases h with h|⟨g,cur,h1,h2,h3,h4,h5⟩
 ·exact .inl h
 ·refine .inr ⟨g,cur,h1,by omega,h3,h4,fun i hi hk => ?_⟩
  obtain⟨vd,va,e1,e2,e3⟩:=h5 i hi hk;exact⟨vd,va,e1,J8.mono e2 hb,J8.mono e3 hb⟩
theorem b00{α:Type}{l:List α}{f:α->List Value}(h:l.length=0):l.flatMap f=[]:=by rw[j8 h];rfl
theorem a00.at{w:World}{B:Nat}{v:Value}{l:List Nd}(h:a00 w B v l)(hn:l.length<=2000000)(hs:∀x∈l,Sm x):S3 w w.heap.size v l:=by
 rcases h with⟨rfl,rfl⟩|⟨g,cur,rfl,h2,h3,h4,h5⟩
 ·exact⟨none,0,rfl,c9 _,by omega,fun h=>absurd rfl h⟩
 ·refine⟨some ⟨g,0,none⟩,l.length,rfl,c9 _,by omega,fun _=>⟨g,0,rfl,i3 h3,fun i hi => ?_⟩⟩
  obtain⟨vd,va,e1,e2,e3⟩:=h5 i hi hi;have hx:=hs _ (o0 hi);exact⟨vd,va,fun j hj=>by rw[F5,d9 w g _ _ _ _ h3];exact e1 j hj,J8.at e2 (by have:=hx.nd;omega) b00,J8.at e3 (by have:=hx.na;omega) b00⟩
def b9B(w:World)(g n:Nat)(l:List Nd)(i:Value)(wr:World):Prop :=
 ∃(k:Nat) (cur:Array Value),k<=n/\i=.int .i64 k/\wr.heap[g]? = some (.cells cur 46 (0,0))/\cur.size=n*8/\a19 wr w.heap.size cur l k/\Below w.heap.size w wr
theorem a1W:(Tryz.prog.info? 46).map (fun i=>(i.zero,i.size,i.bytes))=some (some (.agg #[.int .i64 0,.int .i64 0,.string ⟨#[]⟩,.string ⟨#[]⟩,.string ⟨#[]⟩,.string ⟨#[]⟩,.slice none 0 0,.slice none 0 0]),8,128):=by kernel_rfl
def a0T(cur:Array Value)(o:Nat):List Value->Array Value
 | []=>cur
 |u::us=>a0T (cur.setIfInBounds o u) (o+1) us
theorem a5h:∀(us:List Value) (cur:Array Value) (o:Nat),(a0T cur o us).size=cur.size
 | [],_,_=>rfl
 |u::us,cur,o=>by rw[a0T,a5h us];simp
theorem a1F:∀(us:List Value) (cur:Array Value) (o j:Nat),j<o->(a0T cur o us)[j]? = cur[j]?
 | [],_,_,_,_=>rfl
 |u::us,cur,o,j,h=>by
  rw[a0T,a1F us _ _ _ (by omega),Array.getElem?_setIfInBounds,f6 (by omega)]
theorem a7H:∀(us:List Value) (cur:Array Value) (o j:Nat),o+us.length<=cur.size->(hj:j<us.length)->(a0T cur o us)[o+j]? = some us[j]
 |u::us,cur,o,0,h,_=>by
  rw[a0T,a1F us _ _ _ (by omega),Array.getElem?_setIfInBounds,g8 (by omega),g8 (by simp at h;omega)];rfl
 |u::us,cur,o,j+1,h,hj=>by
  have:=a7H us (cur.setIfInBounds o u) (o+1) j (by simp at h ⊢;omega) (by simpa using hj)
  rw[a0T,show o+(j+1)=o+1+j by omega,this];rfl
theorem a8H(cur:Array Value)(o:Nat)(v0 v1 v2 v3 v4 v5 v6 v7:Value):a0T cur o [v0,v1,v2,v3,v4,v5,v6,v7]=(((((((cur.setIfInBounds o v0).setIfInBounds (o+1) v1).setIfInBounds (o+2) v2).setIfInBounds (o+3) v3).setIfInBounds (o+4) v4).setIfInBounds (o+5) v5).setIfInBounds (o+6) v6).setIfInBounds (o+7) v7:=rfl
theorem b1p{w:World}{b o:Nat}{cs:Array Value}{t:TypeId}{fz:Nat×Nat}(v0 v1 v2 v3 v4 v5 v6 v7:Value)(h:w.heap[b]? = some (.cells cs t fz)) :
 ((((((((w.setCell ⟨b,o,none⟩ v0).setCell ⟨b,o+1,none⟩ v1).setCell ⟨b,o+2,none⟩ v2).setCell ⟨b,o+3,none⟩ v3).setCell ⟨b,o+4,none⟩ v4).setCell ⟨b,o+5,none⟩ v5).setCell ⟨b,o+6,none⟩ v6).setCell ⟨b,o+7,none⟩ v7).heap[b]? = some (.cells (a0T cs o [v0,v1,v2,v3,v4,v5,v6,v7]) t fz):=by
 rw[a8H];exact o8 (o8 (o8 (o8 (o8 (o8 (o8 (o8 h)))))))
theorem b0y{w:World}{b o g:Nat}(v0 v1 v2 v3 v4 v5 v6 v7:Value)(hg:g≠b) :
 ((((((((w.setCell ⟨b,o,none⟩ v0).setCell ⟨b,o+1,none⟩ v1).setCell ⟨b,o+2,none⟩ v2).setCell ⟨b,o+3,none⟩ v3).setCell ⟨b,o+4,none⟩ v4).setCell ⟨b,o+5,none⟩ v5).setCell ⟨b,o+6,none⟩ v6).setCell ⟨b,o+7,none⟩ v7).heap[g]? = w.heap[g]? :=
 (f7 _ _ _ _ hg).trans ((f7 _ _ _ _ hg).trans ((f7 _ _ _ _ hg).trans ((f7 _ _ _ _ hg).trans ((f7 _ _ _ _ hg).trans ((f7 _ _ _ _ hg).trans ((f7 _ _ _ _ hg).trans (f7 _ _ _ _ hg)))))))
theorem b1r{a w:World}{B b o:Nat}(v0 v1 v2 v3 v4 v5 v6 v7:Value)(h:Below B a w)(hb:B<=b) :
 Below B a ((((((((w.setCell ⟨b,o,none⟩ v0).setCell ⟨b,o+1,none⟩ v1).setCell ⟨b,o+2,none⟩ v2).setCell ⟨b,o+3,none⟩ v3).setCell ⟨b,o+4,none⟩ v4).setCell ⟨b,o+5,none⟩ v5).setCell ⟨b,o+6,none⟩ v6).setCell ⟨b,o+7,none⟩ v7) :=
 (((((((h.setCell (p:=⟨b,o,none⟩) hb v0).setCell (p:=⟨b,o+1,none⟩) hb v1).setCell (p:=⟨b,o+2,none⟩) hb v2).setCell (p:=⟨b,o+3,none⟩) hb v3).setCell (p:=⟨b,o+4,none⟩) hb v4).setCell (p:=⟨b,o+5,none⟩) hb v5).setCell (p:=⟨b,o+6,none⟩) hb v6).setCell (p:=⟨b,o+7,none⟩) hb v7
theorem a19.more{w:World}{B k:Nat}{cur:Array Value}{l:List Nd}{vd va:Value}(h:a19 w B cur l k)(hk:k<l.length)(hs:cur.size=l.length*8)(h1:a1A w B vd l[k].ds)(h2:a1B w B va l[k].ats):a19 w B (a0T cur (k*8) (ndC l[k] vd va)) l (k+1):=fun i hi D0=>by
 by_cases he:i=k
 ·subst he
  exact⟨vd,va,fun j hj=>a7H _ _ _ _ (by rw[hs];show i*8+8<=_;omega) hj,h1,h2⟩
 ·obtain⟨vd',va',e1,e2,e3⟩:=h i hi (by omega)
  exact⟨vd',va',fun j hj=>by rw[a1F _ _ _ _ (by omega)];exact e1 j hj,e2,e3⟩
theorem a2G(l:List Nd)(v:Value)(w:World)(hv:S3 w w.heap.size v l)(hn:l.length<=2000000)(hs:∀x∈l,Sm x) :
 Calls Tryz.prog 80 #[v,.func (.func 60) #[] #[]] w fun e w' => ∃v',e=.returned v'/\a00 w' w.heap.size v' l/\Below w.heap.size w w':=by
 have HV:=a8 hv;obtain⟨A,cap,rfl,G8,L3⟩:=hv.slice;obtain⟨n,E1⟩ : ∃n,l.length=n:=⟨_,rfl⟩;have HN:=a8 E1;rw[E1]at hn G8 ⊢;clear E1;rcases B9 n with h0|h0
 ·subst h0
  have HL:Hid (l=[]):=j8 HN.out;go_enter Tryz.func80,Tryz.ntmps80;go_wp2;go_ret;exact⟨_,rfl,.inl ⟨HL.out,rfl⟩,b8 _ _⟩
 ·obtain⟨i0,hi,G9,J1,J2⟩:=info_parts a1W
  have L4:((n:Int)==0)=false:=by rw[e9];omega
  obtain⟨M,hM⟩ : ∃M,M=madeCells (Value.agg #[.int .i64 0,.int .i64 0,.string ⟨#[]⟩,.string ⟨#[]⟩,.string ⟨#[]⟩,.string ⟨#[]⟩,.slice none 0 0,.slice none 0 0]).cells (((n:Nat):Int).toNat*i0.size):=⟨_,rfl⟩;have E7:M.size=n*8:=by rw[hM,size_madeCells,J1];simp
  have J3:∀W:World,(Instr.makeSlice 28 (.int .i64 (n:Int)) (.int .i64 (n:Int))).run Tryz.prog W=.ok (.slice (some ⟨W.heap.size,0,none⟩) n n) (W.alloc (.cells M 46)):=fun W=>by
   have h:=run_make (P:=Tryz.prog) W 28 46 i0 _ Tryz.underlying28 hi G9 .i64 .i64 (n:Int) (n:Int) (by omega) (by omega) (by rw[J2];omega) (by omega)
   rw[<-hM]at h;simpa using h
  clear hM;have J4:=a8 E7;clear E7;go_enter Tryz.func80,Tryz.ntmps80;go_wp2;clear J3
  go_loopw [16] (b9B w w.heap.size n l) (fun i _=>n-(intOf i).toNat)
  case atStart=>exact⟨0,M,o4 _,rfl,g9 w _,J4.out,fun i _ h=>by omega,(b8 _ _).alloc (c9 _) _⟩
  case round =>
   obtain⟨k,cur,hk,rfl,D1,E2,G0,hb⟩:=hrel;have G1:=a8 G0;clear G0;by_cases G4:k<n
   ·have D3:k<l.length:=by rw[HN.out];exact G4
    have G5:=HV.out.below hb;obtain⟨b,o,cap',e,_,_,L5,G6⟩:=G5.open (by intro h;rw[h]at D3;simp at D3)
    simp only[o5]at e;obtain⟨rfl,_,rfl⟩:=e;obtain⟨vd,va,d0,d1,d2,d3,d4,d5,d6,d7,hd,ha⟩:=(G6 k D3).cells;have HX:Hid (NdV wr w.heap.size (.agg #[.int .i64 l[k].k,.int .i64 l[k].n,.string l[k].p,.string l[k].l,.string l[k].u,.string l[k].t,vd,va]) l[k]):=⟨vd,va,rfl,hd,ha⟩;obtain⟨A1,c1,rfl,_⟩:=hd;obtain⟨A2,c2,rfl,_⟩:=ha;have J5:=hs _ (o0 D3);have D9:Hid (∀y cur',cur'.size=l.length*8->a19 y w.heap.size cur' l k->∀vd va,a1A y w.heap.size vd l[k].ds->a1B y w.heap.size va l[k].ats->a19 y w.heap.size (a0T cur' (k*8) (ndC l[k] vd va)) l (k+1)):=fun y cur' h1 h2 vd va h3 h4=>h2.more D3 h1 h3 h4
    have J6:Hid (∀w',Below wr.heap.size wr w'->Calls Tryz.prog 60 #[.agg #[.int .i64 l[k].k,.int .i64 l[k].n,.string l[k].p,.string l[k].l,.string l[k].u,.string l[k].t,.slice A1 l[k].ds.length c1,.slice A2 l[k].ats.length c2]] w' fun e w'' => ∃vd va,e=.returned (.agg #[.int .i64 l[k].k,.int .i64 l[k].n,.string l[k].p,.string l[k].l,.string l[k].u,.string l[k].t,vd,va])/\a1A w'' w'.heap.size vd l[k].ds/\a1B w'' w'.heap.size va l[k].ats/\Below w'.heap.size w' w''):=fun w' hb' =>
     a36 l[k] _ J5 w' ((HX.out.mono hb.size).later hb')
    have J7:(k:Int)<(n:Int):=by omega
    generalize l[k]=x at *;clear G6 G5
    go_wp2_with fail
    refine(J6.out _ ((b8 _ _).alloc (c9 _) _)).mono ?_;rintro e w1⟨vd',va',rfl,E3,E4,G7⟩;have E0:=E8 G7;obtain⟨A3,c3,rfl⟩:=J8.form E3;obtain⟨A4,c4,rfl⟩:=J8.form E4;have D2:w.heap.size<=(wr.alloc (Obj.cells #[.int .i64 x.k,.int .i64 x.n,.string x.p,.string x.l,.string x.u,.string x.t,.slice A1 x.ds.length c1,.slice A2 x.ats.length c2] 46)).heap.size:=d8 hb.size (by simp)
    have J9:Hid (a1A w1 w.heap.size (.slice A3 x.ds.length c3) x.ds):=J8.mono E3 D2;have L0:Hid (a1B w1 w.heap.size (.slice A4 x.ats.length c4) x.ats):=J8.mono E4 D2;have D0:w1.heap[w.heap.size]? = some (.cells cur 46 (0,0)):=(E0.block _ (i3 D1)).trans D1;have L6:∀j,w1.frozen? ⟨w.heap.size,j,none⟩=false:=fun j=>by unfold World.frozen?;rw[D0];simp
    have g0:w1.cell? ⟨w.heap.size,k*8,none⟩=some cur[k*8]:=by rw[d9 w1 w.heap.size _ _ _ _ D0];exact r9 (by omega)
    have g1:w1.cell? ⟨w.heap.size,k*8+1,none⟩=some cur[k*8+1]:=by rw[d9 w1 w.heap.size _ _ _ _ D0];exact r9 (by omega)
    have g2:w1.cell? ⟨w.heap.size,k*8+2,none⟩=some cur[k*8+2]:=by rw[d9 w1 w.heap.size _ _ _ _ D0];exact r9 (by omega)
    have g3:w1.cell? ⟨w.heap.size,k*8+3,none⟩=some cur[k*8+3]:=by rw[d9 w1 w.heap.size _ _ _ _ D0];exact r9 (by omega)
    have g4:w1.cell? ⟨w.heap.size,k*8+4,none⟩=some cur[k*8+4]:=by rw[d9 w1 w.heap.size _ _ _ _ D0];exact r9 (by omega)
    have g5:w1.cell? ⟨w.heap.size,k*8+5,none⟩=some cur[k*8+5]:=by rw[d9 w1 w.heap.size _ _ _ _ D0];exact r9 (by omega)
    have g6:w1.cell? ⟨w.heap.size,k*8+6,none⟩=some cur[k*8+6]:=by rw[d9 w1 w.heap.size _ _ _ _ D0];exact r9 (by omega)
    have g7:w1.cell? ⟨w.heap.size,k*8+7,none⟩=some cur[k*8+7]:=by rw[d9 w1 w.heap.size _ _ _ _ D0];exact r9 (by omega)
    have L1:Hid (b9B w w.heap.size n l (.int .i64 ((k+1:Nat):Int)) (((((((((w1.setCell ⟨w.heap.size,k*8,none⟩ (.int .i64 x.k)).setCell ⟨w.heap.size,k*8+1,none⟩ (.int .i64 x.n)).setCell ⟨w.heap.size,k*8+2,none⟩ (.string x.p)).setCell ⟨w.heap.size,k*8+3,none⟩ (.string x.l)).setCell ⟨w.heap.size,k*8+4,none⟩ (.string x.u)).setCell ⟨w.heap.size,k*8+5,none⟩ (.string x.t)).setCell ⟨w.heap.size,k*8+6,none⟩ (.slice A3 x.ds.length c3)).setCell ⟨w.heap.size,k*8+7,none⟩ (.slice A4 x.ats.length c4)))):=by
     have E5:=G1.out.later E0;have E6:=D9.out w1 cur (by rw[HN.out];exact E2) E5 _ _ J9.out L0.out
     exact⟨k+1,_,G4,rfl,b1p _ _ _ _ _ _ _ _ D0,by rw[a5h];exact E2,E6.aside D0 (fun g hg=>b0y _ _ _ _ _ _ _ _ hg),b1r _ _ _ _ _ _ _ _ (hb.trans (E0.mono hb.size)) (c9 _)⟩
    clear E0 G7 E3 E4 D2;go_wp2
    go_roundw
    case rel=>exact(show Value.int .i64 ((k+1:Nat):Int)=_ by go_num) ▸ L1.out
    case measure=>simp[intOf];omega
   ·have L2:k=n:=by omega
    subst L2;have J7:¬(k:Int)<(k:Int):=by omega
    have HF:Hid (a00 wr w.heap.size (.slice (some ⟨w.heap.size,0,none⟩) k k) l):=.inr ⟨_,cur,by rw[HN.out],c9 _,D1,by rw[HN.out];exact E2,by rw[HN.out];exact G1.out⟩
    clear D1;go_wp2;go_ret;exact⟨_,rfl,HF.out,hb⟩
def a0Q(w:World)(B d:Nat)(l:List Nd):Prop:=∃v,B<=d/\w.heap[d]? = some (.cells #[v] 98 (0,0))/\a00 w B v l
theorem a0Q.later{w w':World}{B d:Nat}{l:List Nd}(h:a0Q w B d l)(hb:Below w.heap.size w w'):a0Q w' B d l:=by
 obtain⟨v,h1,h2,h3⟩:=h;exact⟨v,h1,(hb.block d (i3 h2)).trans h2,h3.later hb⟩
def b1D(l:List Nd)(B:Nat)(e:Ending)(w':World):Prop :=
 (K6 l=false/\e=.returned (.tuple #[.pointer none,.int .i64 2]))∨(K6 l=true/\J6 l=false/\e=.returned (.tuple #[.pointer none,.int .i64 3])) ∨
 (K6 l=true/\J6 l=true/\∃d,e=.returned (.tuple #[.pointer (some ⟨d,0,none⟩),.int .i64 0])/\a0Q w' B d l)
theorem a5q{l:List Nd}(h:K6 l=true):l≠[]/\pa l 0 = -1/\W4 l l.length/\∀i,1<=i->i<l.length->S4 l i=true:=by
 match l,h with
 |x::r,h =>
  rw[show K6 (x::r)=(S9 x&&(N3 (x::r)&&(r.all N0&&X3 (x::r))))from rfl]at h;simp only[i4]at h;have hh:=a5k h.2.1;exact⟨by simp,b27 h.1,fun j h1 h2=>a09 h1 (hh j h1 h2),hh⟩
theorem b96(l:List Nd)(v:Value)(w:World)(hv:S3 w w.heap.size v l)(E1:l.length<=100000)(hs:∀x∈l,Sm x)(hW:Wd w) :
 Calls Tryz.prog 44 #[v] w fun e w'=>b1D l w.heap.size e w'/\Below w.heap.size w w':=by
 have HF:=a8 (b2x l v w hv E1 hs hW)
 have E2:Hid (K6 l=true->∀w',Below w.heap.size w w'->Calls Tryz.prog 79 #[v] w' fun e w''=>e=.returned (.bool (J6 l))/\Below w'.heap.size w' w''):=fun h w' hb =>
  b1N l v w' (hv.later hb) (by omega) (fun x hx=>⟨(hs x hx).nd,(hs x hx).na⟩) (a5q h).2.2.1 (a5q h).2.1
 have HC:Hid (∀w',Below w.heap.size w w'->Calls Tryz.prog 80 #[v,.func (.func 60) #[] #[]] w' fun e w'' => ∃v',e=.returned v'/\a00 w'' w'.heap.size v' l/\Below w'.heap.size w' w''):=fun w' hb=>a2G l v w' (hv.later hb) (by omega) hs
 clear hv hW;unfold b1D;cases hf:K6 l with
 |false =>
  rw[hf]at HF;clear hf;go_enter Tryz.func44,Tryz.ntmps44
  go_wp2_with fail
  refine HF.out.mono ?_;rintro e w1⟨rfl,D0⟩;go_wp2
  go_ret2
  exact⟨.inl ⟨by simp,rfl⟩,D0⟩
 |true =>
  have D1:=a8 (E2.out hf);rw[hf]at HF;clear hf E2;cases hw:J6 l with
  |false =>
   rw[hw]at D1;clear hw;go_enter Tryz.func44,Tryz.ntmps44
   go_wp2_with fail
   refine HF.out.mono ?_;rintro e w1⟨rfl,D0⟩
   go_wp2_with fail
   refine(D1.out w1 D0).mono ?_;rintro e w2⟨rfl,E0⟩;go_wp2
   go_ret2
   exact⟨.inr (.inl ⟨by simp,by simp,rfl⟩),D0.trans (E0.mono D0.size)⟩
  |true =>
   rw[hw]at D1;clear hw;go_enter Tryz.func44,Tryz.ntmps44
   go_wp2_with fail
   refine HF.out.mono ?_;rintro e w1⟨rfl,D0⟩
   go_wp2_with fail
   refine(D1.out w1 D0).mono ?_;rintro e w2⟨rfl,E0⟩;have D3:=D0.trans (E0.mono D0.size);clear D0 E0
   go_wp2_with fail
   refine(HC.out w2 D3).mono ?_;rintro e w3⟨v',rfl,D2,E3⟩;have HO:=a8 D2
   obtain⟨A,n,c,rfl⟩ : ∃A n c,v'=.slice A n c:=by
    rcases D2 with⟨_,rfl⟩|⟨g,cur,rfl,_⟩
    ·exact⟨_,_,_,rfl⟩
    ·exact⟨_,_,_,rfl⟩
   have D9:=D3.trans (E3.mono D3.size);clear D2;go_wp2
   go_ret2
   refine⟨.inr (.inr ⟨by simp,by simp,w3.heap.size,rfl,_,d8 D3.size E3.size,g9 w3 _,?_⟩),D9.alloc D9.size _⟩
   exact(HO.out.mono D3.size).later ((b8 _ _).alloc (c9 _) _)
structure Ny where
 x:Nd
 d:Value
 a:Value
def nyC(y:Ny):List Value:=ndC y.x y.d y.a
theorem a2i(y:Ny):(nyC y).length=8:=rfl
def b5x(w:World)(B:Nat)(y:Ny):Prop:=a0P w B y.d y.x.ds/\a23 w B y.a y.x.ats
theorem b5x.later{w w':World}{y:Ny}(h:b5x w w.heap.size y)(hb:Below w.heap.size w w'):b5x w' w'.heap.size y:=⟨R1.later h.1 hb,R1.later h.2 hb⟩
theorem S3.of_rows{w:World}{B g cap:Nat}{ys:List Ny}(hg:g<B)(h1:ys.length<=cap)(h2:cap<=9223372036854775807)(hy:∀y∈ys,b5x w B y)(hc:∀j u,(ys.flatMap nyC)[j]? = some u->w.cell? ⟨g,j,none⟩=some u):S3 w B (.slice (some ⟨g,0,none⟩) ys.length cap) (ys.map (·.x)):=by
 refine⟨some ⟨g,0,none⟩,cap,by simp,by simpa using h1,h2,fun _=>⟨g,0,rfl,hg,fun i hi => ?_⟩⟩
 have hi':i<ys.length:=by simpa using hi
 obtain⟨d1,d2⟩:=hy _ (o0 hi');refine⟨ys[i].d,ys[i].a,fun j hj => ?_,by simpa using d1,by simpa using d2⟩
 have D0:=Q6 a2i ys i j hi' hj;rw[F5];refine hc (i*8+j) _ ?_;rw[D0,i5 (by rw[a2i];exact hj)]
 simp[nyC]
section
section
variable {P:Program} {md:Region.Mode} {ops:Array Oper} {Q:Exit->Act->World->Prop}
end
end
structure Po where
 node:Nat
 full:List UInt8
 outer:Nat
def poC(o:Po):List Value:=[.int .i64 o.node,.string (ba o.full),.int .i64 o.outer]
theorem a8W(o:Po):(poC o).length=3:=rfl
structure Rd where
 rest:List UInt8
 ns:List Nd
 op:List Po
 ds:List Dc
 tx:List UInt8
def a7w(w:World)(B:Nat)(y:Ny):Prop:=w.ownsRow B 34 2 y.d y.x.ds.length (y.x.ds.flatMap C1)/\w.ownsRow B 103 4 y.a y.x.ats.length (y.x.ats.flatMap atC)
structure S7(w:World)(B rb:Nat)(st:Rd)(vn vo vd vt:Value)(ys:List Ny):Prop where
 lo:B<=rb
 box:w.heap[rb]? = some (.cells #[.string (ba st.rest),vn,vo,vd,vt] 119 (0,0))
 ns:ys.map (·.x)=st.ns
 rn:w.ownsRow B 46 8 vn ys.length (ys.flatMap nyC)
 ro:w.ownsRow B 116 3 vo st.op.length (st.op.flatMap poC)
 rd:w.ownsRow B 34 2 vd st.ds.length (st.ds.flatMap C1)
 rt:w.ownsRow B 5 1 vt st.tx.length (P6 st.tx)
 ry:∀y∈ys,a7w w B y
 di:∀y∈ys,y.d.ownBlock=none∨y.d.ownBlock≠vd.ownBlock
def O8(w:World)(B rb:Nat)(st:Rd):Prop:=∃vn vo vd vt ys,S7 w B rb st vn vo vd vt ys
theorem a1V{w:World}{B e s n B' e' s' n':Nat}{v v':Value}{xs xs':List Value}(h:w.ownsRow B e s v n xs)(h':w.ownsRow B' e' s' v' n' xs')(he:e≠e'):v.ownBlock=none∨v.ownBlock≠v'.ownBlock:=by
 obtain⟨_,⟨rfl,_⟩|⟨g,cap,cur,rfl,_,hh,_⟩⟩:=h
 ·exact .inl rfl
 obtain⟨_,⟨rfl,_⟩|⟨g',cap',cur',rfl,_,hh',_⟩⟩:=h'
 ·exact .inr (by simp[Value.ownBlock])
 ·refine .inr (fun e0 => ?_)
  simp only[Value.ownBlock,f5]at e0;rw[e0,hh']at hh;simp only[f5,Obj.cells.injEq]at hh;exact he hh.2.1.symm
theorem r6{w w':World}{B e s n:Nat}{v:Value}{xs:List Value}(h:w.ownsRow B e s v n xs)(hk:∀b,v.ownBlock=some b->(∃cs,w.heap[b]? = some (.cells cs e (0,0)))->w'.heap[b]? = w.heap[b]?):w'.ownsRow B e s v n xs:=by
 obtain⟨h1,h2 |⟨g,cap,cur,rfl,hg,hh,h3⟩⟩:=h
 ·exact⟨h1,.inl h2⟩
 ·exact⟨h1,.inr ⟨g,cap,cur,rfl,hg,(hk g rfl ⟨cur,hh⟩).trans hh,h3⟩⟩
theorem L3{w w':World}{B e s n:Nat}{v:Value}{xs:List Value}(h:w.ownsRow B e s v n xs)(hb:Below w.heap.size w w'):w'.ownsRow B e s v n xs:=r6 h (fun b _ ⟨_,hc⟩=>hb.block b (i3 hc))
theorem q9{w:World}{B e s n:Nat}{v:Value}{xs:List Value}(h:w.ownsRow B e s v n xs):∃A c,v=.slice A n c/\n<=c/\c<=9223372036854775807:=by
 obtain⟨_,⟨rfl,rfl⟩|⟨g,cap,cur,rfl,_,_,hn,hc,_⟩⟩:=h
 ·exact⟨_,_,rfl,c9 _,by omega⟩
 ·exact⟨_,_,rfl,hn,by unfold maxLen at hc;exact hc⟩
theorem S7.keep{w w':World}{B rb:Nat}{st:Rd}{vn vo vd vt:Value}{ys:List Ny}(h:S7 w B rb st vn vo vd vt ys)(hr:w'.heap[rb]? = w.heap[rb]?)
 (hk:∀(b:Nat) e cs,(vn.ownBlock=some b/\e = 46)∨(vo.ownBlock=some b/\e = 116)∨(vd.ownBlock=some b/\e = 34)∨(vt.ownBlock=some b/\e = 5)∨(∃y∈ys,(y.d.ownBlock=some b/\e = 34)∨(y.a.ownBlock=some b/\e = 103))->w.heap[b]? = some (.cells cs e (0,0))->w'.heap[b]? = w.heap[b]?):S7 w' B rb st vn vo vd vt ys :=
 ⟨h.lo,hr.trans h.box,h.ns,r6 h.rn (fun b hb ⟨cs,hc⟩=>hk b _ cs (.inl ⟨hb,rfl⟩) hc),r6 h.ro (fun b hb ⟨cs,hc⟩=>hk b _ cs (.inr (.inl ⟨hb,rfl⟩)) hc),r6 h.rd (fun b hb ⟨cs,hc⟩=>hk b _ cs (.inr (.inr (.inl ⟨hb,rfl⟩))) hc),r6 h.rt (fun b hb ⟨cs,hc⟩=>hk b _ cs (.inr (.inr (.inr (.inl ⟨hb,rfl⟩)))) hc),
  fun y hy=>⟨r6 (h.ry y hy).1 (fun b hb ⟨cs,hc⟩=>hk b _ cs (.inr (.inr (.inr (.inr ⟨y,hy,.inl ⟨hb,rfl⟩⟩)))) hc),r6 (h.ry y hy).2 (fun b hb ⟨cs,hc⟩=>hk b _ cs (.inr (.inr (.inr (.inr ⟨y,hy,.inr ⟨hb,rfl⟩⟩)))) hc)⟩,h.di⟩
theorem S7.below{w w':World}{B rb:Nat}{st:Rd}{vn vo vd vt:Value}{ys:List Ny}(h:S7 w B rb st vn vo vd vt ys)(hb:Below w.heap.size w w'):S7 w' B rb st vn vo vd vt ys :=
 h.keep (hb.block rb (i3 h.box)) (fun b e cs _ hc=>hb.block b (i3 hc))
theorem O8.below{w w':World}{B rb:Nat}{st:Rd}(h:O8 w B rb st)(hb:Below w.heap.size w w'):O8 w' B rb st:=by
 obtain⟨vn,vo,vd,vt,ys,h⟩:=h;exact⟨vn,vo,vd,vt,ys,h.below hb⟩
theorem B7{w:World}{z y:Nat}{cs cs':Array Value}{t t':TypeId}(h:w.heap[z]? = some (.cells cs t (0,0)))(h':w.heap[y]? = some (.cells cs' t' (0,0)))(ht:t≠t'):z≠y:=fun e=>by
 rw[e,h']at h;simp only[f5,Obj.cells.injEq]at h;exact ht h.2.1.symm
theorem S7.cur{w w':World}{B rb:Nat}{st:Rd}{vn vo vd vt:Value}{ys:List Ny}{r:List UInt8}(h:S7 w B rb st vn vo vd vt ys)(hc:N7 rb (ba r) w w'):S7 w' B rb { st with rest:=r } vn vo vd vt ys:=by
 have D0:∀(b:Nat) (e:TypeId) (cs:Array Value),e≠119->w.heap[b]? = some (.cells cs e (0,0))->w'.heap[b]? = w.heap[b]?:=fun b e cs he hb=>hc.other b (i3 hb) (B7 hb h.box he)
 exact⟨h.lo,hc.cell _ _ h.box,h.ns,r6 h.rn (fun b _ ⟨cs,hb⟩=>D0 b _ cs (by decide) hb),r6 h.ro (fun b _ ⟨cs,hb⟩=>D0 b _ cs (by decide) hb),r6 h.rd (fun b _ ⟨cs,hb⟩=>D0 b _ cs (by decide) hb),r6 h.rt (fun b _ ⟨cs,hb⟩=>D0 b _ cs (by decide) hb),
  fun y hy=>⟨r6 (h.ry y hy).1 (fun b _ ⟨cs,hb⟩=>D0 b _ cs (by decide) hb),r6 (h.ry y hy).2 (fun b _ ⟨cs,hb⟩=>D0 b _ cs (by decide) hb)⟩,h.di⟩
theorem S7.curAt{w:World}{B rb:Nat}{st:Rd}{vn vo vd vt:Value}{ys:List Ny}(h:S7 w B rb st vn vo vd vt ys):n0 w rb (ba st.rest):=⟨_,_,h.box,rfl⟩
theorem S7.cell{w:World}{B rb:Nat}{st:Rd}{vn vo vd vt:Value}{ys:List Ny}(h:S7 w B rb st vn vo vd vt ys):w.cell? ⟨rb,0,none⟩=some (.string (ba st.rest))/\w.cell? ⟨rb,1,none⟩=some vn/\w.cell? ⟨rb,2,none⟩=some vo/\w.cell? ⟨rb,3,none⟩=some vd/\w.cell? ⟨rb,4,none⟩=some vt:=by
 refine⟨?_,?_,?_,?_,?_⟩<;>rw[d9 w rb _ _ _ _ h.box]<;>rfl
theorem S7.frozen{w:World}{B rb:Nat}{st:Rd}{vn vo vd vt:Value}{ys:List Ny}(h:S7 w B rb st vn vo vd vt ys)(j:Nat):w.frozen? ⟨rb,j,none⟩=false:=by unfold World.frozen?;rw[h.box];simp
theorem U1(w:World)(B rb:Nat)(st:Rd)(h:O8 w B rb st):Calls Tryz.prog 77 #[.pointer (some ⟨rb,0,none⟩)] w fun e w'=>e=.returned (.bool (decide (st.op.length=1)))/\w'=w:=by
 obtain⟨vn,vo,vd,vt,ys,h⟩:=h;obtain⟨_,_,c2,_,_⟩:=h.cell;obtain⟨A,cap,rfl,_,_⟩:=q9 h.ro
 have hz:((st.op.length:Int)==1)=decide (st.op.length=1):=by
  rw[A8,x8,decide_eq_true_iff];omega
 clear h;generalize decide (st.op.length=1)=Z at *;go_enter Tryz.func77,Tryz.ntmps77;go_wp2;go_ret;exact⟨rfl,rfl⟩
end Go.Proofs.YtlgcigmolfhamaaGreatDoor
