/-
  (*scope).end: what begin laid is taken back. Conditions: the scope lies as it is, the list too; there are not too many, the texts are not too long.
  doc.elementFormed: whether an element is formed by itself. Conditions: the tables lie as they are laid; the texts are not too long, the lists neither.
-/
import Derived.Test.YtlgcigmolfhamaaGreatDoorK12
import Derived.StillTailTactics
import Derived.Deep.LoopGhost
namespace Go.Proofs.YtlgcigmolfhamaaGreatDoor
set_option linter.unusedVariables false
set_option maxRecDepth 100000
set_option maxHeartbeats 16000000
section
open Go.RowKit Go.Maps Go.WideMaps
def c1g(w:World)(B sb mb N n x:Nat)(O:Obj)(S ds:List Dc)(g:Nat)(i:Value)(wr:World):Prop :=
 g<=n/\i=.int .i64 ((g:Int)-1)/\Sc wr B sb mb (N+(n-g)) x O ((ds.take g).reverse++S)/\Below B w wr
theorem a2F{w:World}{B e k n g cap:Nat}{xs:List Value}(h:w.ownsRow B e k (.slice (some ⟨g,0,none⟩) n cap) n xs){j:Nat}{u:Value}(hj:xs[j]? = some u):w.cell? ⟨g,j,none⟩=some u:=by
 obtain⟨hl,h |⟨g',cap',cur,e,hb,hh,hn,hc,hs,ht⟩⟩:=h
 ·simp at h
 ·simp only[o5,f5,Addr.mk.injEq]at e
  obtain⟨⟨rfl,_⟩,_,rfl⟩:=e;rw[d9 w g j cur _ (0,0) hh,<-A9];have D0:=(z8.1 hj).1;rw[<-ht]at hj D0;rw[u0]at D0;rw[List.getElem?_take_of_lt (by omega)]at hj
  exact hj
theorem b6g{w:World}{B e g cap n:Nat}{xs ys:List Value}(h:w.ownsRow B e 2 (.slice (some ⟨g,0,none⟩) (n+1) cap) (n+1) (xs++ys))(hx:xs.length=n*2):w.ownsRow B e 2 (.slice (some ⟨g,0,none⟩) n cap) n xs:=by
 obtain⟨hl,h |⟨g',cap',cur,e,hb,hh,hn,hc,hs,ht⟩⟩:=h
 ·simp at h
 ·simp only[o5,f5,Addr.mk.injEq]at e
  obtain⟨⟨rfl,_⟩,_,rfl⟩:=e;refine⟨hx,.inr ⟨g,cap,cur,rfl,hb,hh,by omega,hc,hs,?_⟩⟩
  have:=congrArg (List.take (n*2)) ht;rw[List.take_take,Nat.min_eq_left (by omega),List.take_left' hx]at this
  exact this
theorem b6V{w:World}{b1 o1 b2 o2:Nat}{v:Value}(h:b1≠b2∨o1≠o2):(w.setCell ⟨b1,o1,none⟩ v).cell? ⟨b2,o2,none⟩=w.cell? ⟨b2,o2,none⟩:=by
 refine World.cell?_setCell_other _ _ _ _ ?_;intro e;simp at e;omega
theorem b8X(B sb mb N x:Nat)(O:Obj)(S ds:List Dc)(vd:Value)(w:World)(G4:Sc w B sb mb N x O (ds.reverse++S))(hB:B<=w.heap.size)(hd:a0P w B vd ds)(hN:N<=1000000000000)(hS:S.length<=1000000000000)(hn:ds.length<=2000000)(hs:∀d∈ds,d.p.size<=2000000) :
 Calls Tryz.prog 173 #[.pointer (some ⟨sb,0,none⟩),vd] w fun e w'=>e=.returned (.tuple #[])/\Sc w' B sb mb (N+ds.length) x O S/\Below B w w':=by
 have HD:Hid (a0P w B vd ds):=hd;have J1:=a8 G4;obtain⟨A,cap,rfl,J2,L5,_⟩:=hd;obtain⟨n,E6⟩ : ∃n,ds.length=n:=⟨_,rfl⟩;have HN:=a8 E6;rw[E6]at hn J2 ⊢;clear E6 G4;go_enter Tryz.func173,Tryz.ntmps173;go_wp2
 go_loopg [4] n (c1g w B sb mb N n x O S ds)
 case atStart=>exact⟨c9 _,by first|rfl|go_num,by rw[C0 (by rw[HN.out];exact c9 _),Nat.sub_self];exact J1.out,b8 _ _⟩
 case round =>
  obtain⟨hg,rfl,⟨v,D,hA⟩,hb⟩:=hrel;cases gk with
  |succ g =>
   have E7:g<ds.length:=by rw[HN.out];omega
   obtain⟨b,o,cap',e,_,_,L6,D2⟩:=a0P.open (R1.below HD.out hb) (by omega)
   simp only[o5]at e;obtain⟨rfl,_,rfl⟩:=e;obtain⟨d0,d1⟩:=D2 g E7;have G5:=hs _ (o0 E7);have L7:(g:Int)<(n:Int):=by omega
   obtain⟨d,E8⟩ : ∃d,ds[g]=d:=⟨_,rfl⟩;rw[E8]at d0 d1 G5
   have G6:(ds.take (g+1)).reverse++S=d::((ds.take g).reverse++S):=by
    rw[l8 E7,E8];simp
   rw[G6]at hA;obtain⟨Sk,E4⟩ : ∃Sk,(ds.take g).reverse++S=Sk:=⟨_,rfl⟩;rw[E4]at hA;have G0:Sk.length<=1000002000000:=by rw[<-E4];simp;omega
   have J3:=a8 E4;obtain⟨gb,capg,rfl,J4,J5⟩:=hA.own.form (by simp)
   obtain⟨nr,E5⟩ : ∃nr,nrS Sk d.p.data.toList=nr:=⟨_,rfl⟩;obtain⟨sl,E0⟩ : ∃sl,Sk.length=sl:=⟨_,rfl⟩
   have J6:wr.cell? ⟨gb,sl*2+1,none⟩=some (.int .i64 (nr:Nat)):=a2F hA.own (by
    rw[a0D,List.getElem?_append_right (by rw[S0,E0];omega),S0,E0,E5,show sl*2+1-sl*2=1 by omega];rfl)
   have c0:=hA.c0;have c1:=hA.c1;have E2:=hA.map;have E3:=b6K d.p G5;have D3:(d::Sk).length=sl+1:=by rw[i8,E0]
   rw[D3]at c0;rw[E0]at G0;have J7:=a8 E5;have E1:=a8 E0;have HA:=a8 hA;have HB:=a8 hb;have J8:nr<=sl:=by rw[<-E5,<-E0];exact a84 _ _
   have J9:(sl:Int)<(sl:Int)+1:=by omega
   have G7:((g+1:Nat):Int)-1=(g:Int):=by omega
   rw[G7];clear D2 E8 E4 hA hb E5 E0 D3 G6 G7;go_wp2
   go_still_tail 17,(by kernel_rfl)
   change wpList _ _ _ _ _ wr.drew
   go_wp2_with (at_mapUpdate;refine wpList_mapUpdate_own _ rfl _ _ _ 90 rfl 9 3 b6J Tryz.underlying90 _ mb _ D rfl E2.drew (by unfold maxLen;omega) _ _ _ rfl rfl E3 _ [] (plainElem_int Tryz.underlying3 (WalkArith.wf_i64 (by omega))) ?_)
   intro w1 D9 D0;have hA:=HA.out;have D1:∀y,y<wr.heap.size->y≠mb->w1.heap[y]? = wr.heap[y]?:=fun y h1 h2=>D0.block y h1 (fun e=>h2 (by simpa using e))
   have k0:w1.cell? ⟨sb,0,none⟩=some (.slice (some ⟨gb,0,none⟩) (sl+1) capg):=(World.cell?_of_block (w:=wr) (D1 sb hA.lt hA.ne)).trans c0;have k1:w1.frozen? ⟨sb,0,none⟩=false:=(World.frozen?_of_block (w:=wr) (D1 sb hA.lt hA.ne)).trans hA.f0;have L0:Hid (w1.cell? ⟨sb,1,none⟩=some (.map (some mb))):=(World.cell?_of_block (w:=wr) (D1 sb hA.lt hA.ne)).trans c1
   have G8:Hid (w1.ownsRow B 210 2 (.slice (some ⟨gb,0,none⟩) sl capg) sl (a0D Sk)):=by
    have h:=a0h hA.own (fun x hx=>D1 x (a2E hA.own hx).2 (fun e=>hA.n2 (by rw[hx,e])))
    rw[i8,E1.out]at h;exact b6g h (by rw[S0,E1.out])
   have L1:Hid (w1.heap[x]? = some O):=(D1 x (i3 hA.xk) hA.xm).trans hA.xk;have G9:gb≠sb:=fun e=>hA.n1 (by rw[e];rfl)
   have G1:gb≠mb:=fun e=>hA.n2 (by rw[e];rfl)
   have L2:=a8 D9;have L3:Hid (Below B w w1):=HB.out.drew.grown D0 (d8 hB HB.out.size) (fun j hj=>by cases hj;exact hA.b2)
   have L4:(sl:Int)<=(capg:Int):=by
    obtain⟨_,h |⟨g',cap',cur,e,_,_,hn',_⟩⟩:=G8.out
    ·simp at h
    ·simp only[o5]at e;omega
   clear D9 D0 D1 hA c0 c1 E2 E3 d0 d1 J6;go_wp2
   go_roundg g
   case measure=>omega
   case rel =>
    have hA:=HA.out;refine⟨by omega,by first|rfl|go_num,?_,L3.out.setCell (p:=⟨sb,0,none⟩) hA.b1 _⟩
    rw[J3.out];refine⟨_,D.put (.string d.p.data.toList) (.lit (.int .i64 (nr:Nat))),World.cell?_setCell_same _ _ _ k0,(b6V (.inr (by omega))).trans L0.out,(World.frozen?_setCell _ _ _ _).trans k1,?_,?_,?_,hA.ne,by simp[Value.ownBlock];exact G9,by simp[Value.ownBlock];exact G1,hA.b1,hA.b2,hA.xs,hA.xm,hA.xv,(f7 _ _ _ _ hA.xs).trans L1.out⟩
    ·rw[E1.out]
     exact a0h G8.out (fun x hx=>by
      simp[Value.ownBlock]at hx;subst hx;exact f7 _ _ _ _ G9)
    ·have h:=a02 L2.out (f7 w1 ⟨sb,0,none⟩ (.slice (some ⟨gb,0,none⟩) sl capg) mb (Ne.symm hA.ne))
     have e:N+(n-(g+1))+1=N+(n-g):=by omega
     rw[e]at h;exact h
    ·have h:=b6G hA.map.isMap hA.look
     rw[J7.out]at h;exact h
  |zero =>
   have HA:=a8 hA;clear hA;go_wp2
   go_end0
   exact⟨rfl,⟨v,D,HA.out⟩,hb⟩
end
section
open Go.RowKit
structure Sm(x:Nd):Prop where
 p:x.p.size<=2000000
 l:x.l.size<=2000000
 u:x.u.size<=2000000
 t:x.t.size<=2000000
 nd:x.ds.length<=2000000
 na:x.ats.length<=2000000
 ds:∀d∈x.ds,d.p.size<=2000000/\d.u.size<=2000000
 ats:∀a∈x.ats,a.p.size<=2000000/\a.l.size<=2000000/\a.u.size<=2000000/\a.v.size<=2000000
noncomputable def a1z(x:Nd):Bool:=nmS x.l&&(a0g x.p&&(N4 x.t []&&(x.ds.all T6&&(x.ats.all a0y&&(!a0c (V8 x.ds) && !a0c (X9 x.ats))))))
def a9S{α:Type}(p:α->Bool)(l:List α)(w:World)(i:Value)(wr:World):Prop:=∃k:Nat,k<=l.length/\i=.int .i64 k/\(l.take k).all p=true/\Below w.heap.size w wr
theorem a53{α:Type}{p:α->Bool}{l:List α}{k:Nat}(h:k<l.length)(hz:p l[k]=false):l.all p=false:=by
 rw[List.all_eq_false];exact⟨l[k],o0 _,by simp[hz]⟩
theorem a4F{α:Type}{p:α->Bool}{l:List α}{k:Nat}(h:k<l.length)(ha:(l.take k).all p=true)(hz:p l[k]=true):(l.take (k+1)).all p=true:=by
 rw[l8 h,List.all_append,ha];simp[hz]
theorem a3r{α:Type}{p:α->Bool}{l:List α}{k:Nat}(h:¬k<l.length)(ha:(l.take k).all p=true):l.all p=true:=by
 rwa [C0 (by omega)]at ha
theorem b1e(x:Nd)(v:Value)(hs:Sm x)(w:World)(hW:Wd w)(hv:NdV w w.heap.size v x) :
 Calls Tryz.prog 168 #[v] w fun e w'=>e=.returned (.bool (a1z x))/\Below w.heap.size w w':=by
 obtain⟨vd,va,rfl,hd,ha⟩:=hv;have HW:=a8 hW;have HS:=a8 hs;have HP:Hid (∀w',Below w.heap.size w w'->Calls Tryz.prog 204 #[.string x.p] w' fun e w''=>e=.returned (.bool (a0g x.p))/\Below w'.heap.size w' w''):=fun w' hb=>a3H x.p hs.p w' (hW.later hb);have HN:Hid (∀w',Below w.heap.size w w'->Calls Tryz.prog 199 #[.string x.l] w' fun e w''=>e=.returned (.bool (nmS x.l))/\Below w'.heap.size w' w''):=fun w' hb=>a3K x.l hs.l w' (hW.later hb).tabs;have HD:Hid (a0P w w.heap.size vd x.ds):=hd;have HA:Hid (a23 w w.heap.size va x.ats):=ha;obtain⟨A1,cap1,rfl,M0,M5,_⟩:=hd;obtain⟨A2,cap2,rfl,M1,M6,_⟩:=ha;obtain⟨R,hR⟩ : ∃R,a1z x=R:=⟨_,rfl⟩;rw[hR];have HR:Hid ((nmS x.l&&(a0g x.p&&(N4 x.t []&&(x.ds.all T6&&(x.ats.all a0y&&(!a0c (V8 x.ds) && !a0c (X9 x.ats)))))))=R):=hR;clear hR;obtain⟨b3,e3,E3⟩:=a0z x.t;rw[e3]at HR;clear e3 hW hs;have L1:=HS.out.nd;have L2:=HS.out.na;generalize a0g x.p=B2 at *;generalize nmS x.l=B1 at *;obtain⟨nd,E6⟩ : ∃n,x.ds.length=n:=⟨_,rfl⟩;obtain⟨na,E7⟩ : ∃n,x.ats.length=n:=⟨_,rfl⟩;have G8:=a8 E6;have G9:=a8 E7;rw[E6]at L1 M0;rw[E7]at L2 M1;rw[E6,E7];clear E6 E7;go_enter Tryz.func168,Tryz.ntmps168
 go_wp2_with fail
 refine(HN.out _ ((b8 _ _).alloc (c9 _) _)).mono ?_;rintro e w1⟨rfl,E1⟩;have c0:=v8 (j:=0) E1 rfl;have c1:=v8 (j:=1) E1 rfl;have c2:=v8 (j:=2) E1 rfl;have c3:=v8 (j:=3) E1 rfl;have c4:=v8 (j:=4) E1 rfl;have c5:=v8 (j:=5) E1 rfl;have c6:=v8 (j:=6) E1 rfl;have c7:=v8 (j:=7) E1 rfl;have G6:=E8 E1;cases B1 with
 |false =>
  have hF:false=R:=by simpa using HR.out
  subst hF;go_wp2;go_ret;exact⟨rfl,G6⟩
 |true =>
  go_wp2_with fail
  refine(Q5 E1.size E1 (HP.out _ G6)).mono ?_;rintro e w2⟨rfl,E2⟩;replace c0:=v8 (j:=0) E2 rfl;replace c1:=v8 (j:=1) E2 rfl;replace c2:=v8 (j:=2) E2 rfl;replace c3:=v8 (j:=3) E2 rfl;replace c4:=v8 (j:=4) E2 rfl;replace c5:=v8 (j:=5) E2 rfl;replace c6:=v8 (j:=6) E2 rfl;replace c7:=v8 (j:=7) E2 rfl;replace G6:=E8 E2;clear E1;cases B2 with
  |false =>
   have hF:false=R:=by simpa using HR.out
   subst hF;go_wp2;go_ret;exact⟨rfl,G6⟩
  |true =>
   obtain⟨t3,t3'⟩:=E3.out;cases b3 with
   |false =>
    have hF:false=R:=by simpa using HR.out
    subst hF;go_wp2;go_ret;exact⟨rfl,G6⟩
   |true =>
    have J5:Hid ((x.ds.all T6&&(x.ats.all a0y&&(!a0c (V8 x.ds) && !a0c (X9 x.ats))))=R):=a8 (by simpa using HR.out)
    have J6:w.heap.size<w2.heap.size:=x9 (by simp) E2.size
    have HC:Hid (∀wr j v,Below w2.heap.size w2 wr->w2.cell? ⟨w.heap.size,j,none⟩=some v->wr.cell? ⟨w.heap.size,j,none⟩=some v):=fun wr j v hb h=>(hb.cell (p:=⟨w.heap.size,j,none⟩) J6).trans h;have L3:=a8 c6;have L4:=a8 c7;have L5:=a8 G6;clear HR HP HN E2 c0 c1 c2 c3 c4;go_wp2;clear c5 c6 c7
    go_loopw [25] (a9S T6 x.ds w2) (fun i _=>nd-(intOf i).toNat)
    case atStart=>exact⟨0,o4 _,rfl,rfl,b8 _ _⟩
    case round =>
     obtain⟨k,hk,rfl,J1,G0⟩:=hrel;have G1:=a8 J1;have E0:=L5.out.trans (G0.mono L5.out.size);rw[G8.out]at hk;clear J1;by_cases L6:k<nd
     ·have D0:k<x.ds.length:=by rw[G8.out];exact L6
      obtain⟨b,o,cap',e,_,_,M2,D9⟩:=a0P.open (R1.below HD.out E0) (by omega)
      simp only[o5]at e;obtain⟨rfl,_,rfl⟩:=e;obtain⟨d0,d1⟩:=D9 k D0;have G7:=HS.out.ds _ (o0 D0);have J7:Hid (∀w',Below w.heap.size w w'->Calls Tryz.prog 205 #[.agg #[.string x.ds[k].p,.string x.ds[k].u]] w' fun e w''=>e=.returned (.bool (T6 x.ds[k]))/\Below w'.heap.size w' w''):=fun w' hb=>b7c _ G7.1 G7.2 w' (HW.out.later hb);have J8:(k:Int)<(nd:Int):=by omega
      have HF:Hid (T6 x.ds[k]=false->R=false):=fun h=>by rw[<-J5.out,a53 D0 h];rfl
      have HT:Hid (T6 x.ds[k]=true->(x.ds.take (k+1)).all T6=true):=a4F D0 G1.out;generalize x.ds[k].p=P at *;generalize x.ds[k].u=U at *;generalize T6 x.ds[k]=B at *;clear D9
      go_wp2_with fail
      refine(J7.out _ (E0.alloc (d8 (c9 _) E0.size) _)).mono ?_;rintro e w3⟨rfl,J2⟩;have E4:=E8 J2;clear J2;cases B with
      |false =>
       obtain rfl:=HF.out rfl;go_wp2;go_ret;exact⟨rfl,E0.trans (E4.mono E0.size)⟩
      |true =>
       go_wp2
       go_roundw
       case rel=>exact⟨k+1,D0,by go_num,HT.out (by simp),G0.trans (E4.mono G0.size)⟩
       case measure=>simp[intOf];omega
     ·rename World=>W1
      have J8:¬(k:Int)<(nd:Int):=by omega
      have E5:=a3r (by rw[G8.out];exact L6) G1.out
      have J9:Hid ((x.ats.all a0y&&(!a0c (V8 x.ds) && !a0c (X9 x.ats)))=R):=a8 (by have h:=J5.out;rw[E5]at h;simpa using h)
      have c6:=HC.out W1 6 _ G0 L3.out;have c7:=HC.out W1 7 _ G0 L4.out;have L7:=a8 G0;clear E5 G1 J5 G0;go_wp2;clear c6 c7
      go_loopw [36] (a9S a0y x.ats W1) (fun i _=>na-(intOf i).toNat)
      case atStart=>exact⟨0,o4 _,rfl,rfl,b8 _ _⟩
      case round =>
       obtain⟨q,hq,rfl,J1,J4⟩:=hrel;have G1:=a8 J1;have D3:=E0.trans (J4.mono E0.size);rw[G9.out]at hq;clear J1;by_cases J3:q<na
       ·have D0:q<x.ats.length:=by rw[G9.out];exact J3
        obtain⟨b,o,cap',e,_,_,M2,D9⟩:=a23.open (R1.below HA.out D3) (by omega)
        simp only[o5]at e;obtain⟨rfl,_,rfl⟩:=e;obtain⟨d0,d1,d2,d3⟩:=D9 q D0;have G7:=HS.out.ats _ (o0 D0);have J7:Hid (∀w',Below w.heap.size w w'->Calls Tryz.prog 206 #[.agg #[.string x.ats[q].p,.string x.ats[q].l,.string x.ats[q].u,.string x.ats[q].v]] w' fun e w''=>e=.returned (.bool (a0y x.ats[q]))/\Below w'.heap.size w' w''):=fun w' hb=>b7w _ G7.1 G7.2.1 G7.2.2.2 w' (HW.out.later hb);have J8:(q:Int)<(na:Int):=by omega
        have HF:Hid (a0y x.ats[q]=false->R=false):=fun h=>by rw[<-J9.out,a53 D0 h];rfl
        have HT:Hid (a0y x.ats[q]=true->(x.ats.take (q+1)).all a0y=true):=a4F D0 G1.out;generalize x.ats[q].p=P at *;generalize x.ats[q].l=L at *;generalize x.ats[q].u=U at *;generalize x.ats[q].v=V at *;generalize a0y x.ats[q]=B at *;clear D9
        go_wp2_with fail
        refine(J7.out _ (D3.alloc (d8 (c9 _) D3.size) _)).mono ?_;rintro e w3⟨rfl,J2⟩;have E4:=E8 J2;clear J2;cases B with
        |false =>
         obtain rfl:=HF.out rfl;go_wp2;go_ret;exact⟨rfl,D3.trans (E4.mono D3.size)⟩
        |true =>
         go_wp2
         go_roundw
         case rel=>exact⟨q+1,D0,by go_num,HT.out (by simp),J4.trans (E4.mono J4.size)⟩
         case measure=>simp[intOf];omega
       ·have J8:¬(q:Int)<(na:Int):=by omega
        have E5:=a3r (by rw[G9.out];exact J3) G1.out
        have L8:Hid ((!a0c (V8 x.ds) && !a0c (X9 x.ats))=R):=a8 (by have h:=J9.out;rw[E5]at h;simpa using h)
        have G4:=L7.out.trans (J4.mono L7.out.size);have c6:=HC.out wr 6 _ G4 L3.out;have L9:=a8 (a7r x.ds _ wr (R1.later HD.out D3) (by rw[G8.out];exact L1) (fun d hd=>(HS.out.ds d hd).1))
        have M3:Hid (∀w',Below wr.heap.size wr w'->Calls Tryz.prog 208 #[.slice A2 na cap2] w' fun e w''=>e=.returned (.bool (a0c (X9 x.ats)))/\Below w'.heap.size w' w''):=fun w' hb=>by
         have h:=a7u x.ats _ w' (R1.later HA.out (D3.trans (hb.mono D3.size))) (by rw[G9.out];exact L2) (fun a ha=>⟨(HS.out.ats a ha).2.1,(HS.out.ats a ha).2.2.1⟩)
         rw[G9.out]at h;exact h
        rw[G8.out]at L9;generalize a0c (V8 x.ds)=D1 at *;generalize a0c (X9 x.ats)=D2 at *;clear E5 G1 J9
        go_wp2_with fail
        refine L9.out.mono ?_;rintro e w4⟨rfl,L0⟩;have G5:=D3.trans (L0.mono D3.size);cases D1 with
        |true =>
         have hF:false=R:=by simpa using L8.out
         subst hF;go_wp2;go_ret;exact⟨rfl,G5⟩
        |false =>
         have hF:(!D2)=R:=by simpa using L8.out
         subst hF;have c7:=HC.out w4 7 _ (G4.trans (L0.mono G4.size)) L4.out
         go_wp2_with fail
         refine(M3.out w4 L0).mono ?_;rintro e w5⟨rfl,M4⟩;go_wp2;go_ret;exact⟨rfl,G5.trans (M4.mono G5.size)⟩
end
end Go.Proofs.YtlgcigmolfhamaaGreatDoor
