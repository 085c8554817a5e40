/-
  The Root, and nodes by their Kinds: whether they are formed by themselves; Texts side by side. Conditions: the tables lie as they are laid; the texts are not too long, the lists neither.
  doc.nodeCopy: a copy of a node, in new memory. Conditions: the node lies as it is; the texts are not too long, the lists neither.
-/
import Derived.Test.YteinegfbpfhflaaGreatDoorM14
import Derived.Test.YteinegfbpfhflaaGreatDoorM13
namespace Go.Proofs.YteinegfbpfhflaaGreatDoor
open Go.RowKit
set_option linter.unusedVariables false
set_option maxRecDepth 100000
set_option maxHeartbeats 16000000
def eE(x:Nd):Bool:=(x.k==0)&&((x.n == -1)&&(dZ x.l []&&(dZ x.t []&&d9 x)))
theorem Cu(x:Nd)(v:Value)(w:World)(hv:nH w w.heap.size v x):Calls Tryz.prog 94 #[v] w fun e w'=>e=.returned (.bool (eE x))/\Below w.heap.size w w':=by
 have HB:Hid (∀w',Below w.heap.size w w'->Calls Tryz.prog 137 #[v] w' fun e w''=>e=.returned (.bool (d9 x))/\Below w'.heap.size w' w''):=fun w' hb=>wo x v w' (hv.later hb);obtain⟨vd,va,rfl,⟨A1,cap1,rfl,_⟩,⟨A2,cap2,rfl,_⟩⟩:=hv;unfold eE;generalize d9 x=B at *;obtain⟨b1,e1,E1⟩:=i3 x.k 0;obtain⟨b2,e2,E2⟩:=i3 x.n (-1);obtain⟨b3,e3,E3⟩:=gv x.l;obtain⟨b4,e4,E4⟩:=gv x.t;rw[e1,e2,e3,e4];clear e1 e2 e3 e4;go_enter Tryz.func94,Tryz.ntmps94;have t1:=E1.out;cases b1 with
 |false =>
  go_wp2;go_ret;exact⟨rfl,(ae _ _).alloc (af _) _⟩
 |true =>
  have t2:=E2.out;cases b2 with
  |false =>
   go_wp2;go_ret;exact⟨rfl,(ae _ _).alloc (af _) _⟩
  |true =>
   obtain⟨t3,t3'⟩:=E3.out;cases b3 with
   |false =>
    go_wp2;go_ret;exact⟨rfl,(ae _ _).alloc (af _) _⟩
   |true =>
    obtain⟨t4,t4'⟩:=E4.out;cases b4 with
    |false =>
     go_wp2;go_ret;exact⟨rfl,(ae _ _).alloc (af _) _⟩
    |true =>
     go_wp2_with fail
     refine(HB.out _ ((ae _ _).alloc (af _) _)).mono ?_;rintro e w1⟨rfl,hb1⟩;have hbw:=bR hb1;go_wp2;go_ret;exact⟨by simp,hbw⟩
noncomputable def dg(x:Nd):Bool :=
 bif x.k==1 then iJ x else bif x.k==2 then d9 x&&(dZ x.l []&&(!dZ x.t []&&tx x.t))else bif x.k==3 then d9 x&&(dZ x.l []&&tR x.t)else
 bif x.k==4 then d9 x&&(qz x.l&&zW x.t)else false
theorem CH(x:Nd)(v:Value)(hs:Sm x)(w:World)(hW:Wd w)(hv:nH w w.heap.size v x):Calls Tryz.prog 96 #[v] w fun e w'=>e=.returned (.bool (dg x))/\Below w.heap.size w w':=by
 have HB:Hid (∀w',Below w.heap.size w w'->Calls Tryz.prog 137 #[v] w' fun e w''=>e=.returned (.bool (d9 x))/\Below w'.heap.size w' w''):=fun w' hb=>wo x v w' (hv.later hb);have HE:Hid (∀w',Below w.heap.size w w'->Calls Tryz.prog 140 #[v] w' fun e w''=>e=.returned (.bool (iJ x))/\Below w'.heap.size w' w''):=fun w' hb=>vS x v hs w' (hW.later hb) (hv.later hb);have HT:Hid (∀w',Below w.heap.size w w'->Calls Tryz.prog 141 #[.string x.t] w' fun e w''=>e=.returned (.bool (tx x.t))/\Below w'.heap.size w' w''):=fun w' hb=>ir x.t hs.t w' (hW.later hb);have HC:Hid (∀w',Below w.heap.size w w'->Calls Tryz.prog 142 #[.string x.t] w' fun e w''=>e=.returned (.bool (tR x.t))/\Below w'.heap.size w' w''):=fun w' hb=>v8 x.t hs.t w' (hW.later hb);have HG:Hid (∀w',Below w.heap.size w w'->Calls Tryz.prog 143 #[.string x.l] w' fun e w''=>e=.returned (.bool (qz x.l))/\Below w'.heap.size w' w''):=fun w' hb=>wT x.l hs.l w' (hW.later hb);have HI:Hid (∀w',Below w.heap.size w w'->Calls Tryz.prog 144 #[.string x.t] w' fun e w''=>e=.returned (.bool (zW x.t))/\Below w'.heap.size w' w''):=fun w' hb=>od x.t hs.t w' (hW.later hb);obtain⟨vd,va,rfl,⟨A1,cap1,rfl,_⟩,⟨A2,cap2,rfl,_⟩⟩:=hv;unfold dg;generalize d9 x=B at *;generalize iJ x=BE at *;generalize tx x.t=BT at *;generalize tR x.t=BC at *;generalize qz x.l=BG at *;generalize zW x.t=BI at *;obtain⟨b1,e1,E1⟩:=i3 x.k 1;obtain⟨b2,e2,E2⟩:=i3 x.k 2;obtain⟨b3,e3,E3⟩:=i3 x.k 3;obtain⟨b4,e4,E4⟩:=i3 x.k 4;obtain⟨b5,e5,E5⟩:=gv x.l;obtain⟨b6,e6,E6⟩:=gv x.t;rw[e1,e2,e3,e4,e5,e6];clear e1 e2 e3 e4 e5 e6 hW hs;generalize x.k=K at *;go_enter Tryz.func96,Tryz.ntmps96;have t1:=E1.out;cases b1 with
 |false =>
  have t2:=E2.out;cases b2 with
  |false =>
   have t3:=E3.out;cases b3 with
   |false =>
    have t4:=E4.out;cases b4 with
    |false =>
     go_wp2;go_ret;exact⟨rfl,(ae _ _).alloc (af _) _⟩
    |true =>
     go_wp2_with fail
     refine(HB.out _ ((ae _ _).alloc (af _) _)).mono ?_;rintro e w1⟨rfl,hb1⟩;have c0:=aZ (j:=0) hb1 rfl;have c1:=aZ (j:=1) hb1 rfl;have c2:=aZ (j:=2) hb1 rfl;have c3:=aZ (j:=3) hb1 rfl;have c4:=aZ (j:=4) hb1 rfl;have c5:=aZ (j:=5) hb1 rfl;have c6:=aZ (j:=6) hb1 rfl;have c7:=aZ (j:=7) hb1 rfl;have hbw:=bR hb1;cases B with
     |false =>
      go_wp2;go_ret;exact⟨rfl,hbw⟩
     |true =>
      go_wp2_with fail
      refine(eh hb1.size hb1 (HG.out _ hbw)).mono ?_;rintro e w2⟨rfl,hb2⟩;replace c0:=aZ (j:=0) hb2 rfl;replace c1:=aZ (j:=1) hb2 rfl;replace c2:=aZ (j:=2) hb2 rfl;replace c3:=aZ (j:=3) hb2 rfl;replace c4:=aZ (j:=4) hb2 rfl;replace c5:=aZ (j:=5) hb2 rfl;replace c6:=aZ (j:=6) hb2 rfl;replace c7:=aZ (j:=7) hb2 rfl;replace hbw:=bR hb2;clear hb1;cases BG with
      |false =>
       go_wp2;go_ret;exact⟨rfl,hbw⟩
      |true =>
       go_wp2_with fail
       refine(eh hb2.size hb2 (HI.out _ hbw)).mono ?_;rintro e w3⟨rfl,hb3⟩;replace c0:=aZ (j:=0) hb3 rfl;replace c1:=aZ (j:=1) hb3 rfl;replace c2:=aZ (j:=2) hb3 rfl;replace c3:=aZ (j:=3) hb3 rfl;replace c4:=aZ (j:=4) hb3 rfl;replace c5:=aZ (j:=5) hb3 rfl;replace c6:=aZ (j:=6) hb3 rfl;replace c7:=aZ (j:=7) hb3 rfl;replace hbw:=bR hb3;clear hb2;go_wp2;go_ret;exact⟨by simp,hbw⟩
   |true =>
    go_wp2_with fail
    refine(HB.out _ ((ae _ _).alloc (af _) _)).mono ?_;rintro e w4⟨rfl,hb4⟩;have c0:=aZ (j:=0) hb4 rfl;have c1:=aZ (j:=1) hb4 rfl;have c2:=aZ (j:=2) hb4 rfl;have c3:=aZ (j:=3) hb4 rfl;have c4:=aZ (j:=4) hb4 rfl;have c5:=aZ (j:=5) hb4 rfl;have c6:=aZ (j:=6) hb4 rfl;have c7:=aZ (j:=7) hb4 rfl;have hbw:=bR hb4;cases B with
    |false =>
     go_wp2;go_ret;exact⟨rfl,hbw⟩
    |true =>
     obtain⟨t5,t5'⟩:=E5.out;cases b5 with
     |false =>
      go_wp2;go_ret;exact⟨rfl,hbw⟩
     |true =>
      go_wp2_with fail
      refine(eh hb4.size hb4 (HC.out _ hbw)).mono ?_;rintro e w5⟨rfl,hb5⟩;replace c0:=aZ (j:=0) hb5 rfl;replace c1:=aZ (j:=1) hb5 rfl;replace c2:=aZ (j:=2) hb5 rfl;replace c3:=aZ (j:=3) hb5 rfl;replace c4:=aZ (j:=4) hb5 rfl;replace c5:=aZ (j:=5) hb5 rfl;replace c6:=aZ (j:=6) hb5 rfl;replace c7:=aZ (j:=7) hb5 rfl;replace hbw:=bR hb5;clear hb4;go_wp2;go_ret;exact⟨by simp,hbw⟩
  |true =>
   go_wp2_with fail
   refine(HB.out _ ((ae _ _).alloc (af _) _)).mono ?_;rintro e w6⟨rfl,hb6⟩;have c0:=aZ (j:=0) hb6 rfl;have c1:=aZ (j:=1) hb6 rfl;have c2:=aZ (j:=2) hb6 rfl;have c3:=aZ (j:=3) hb6 rfl;have c4:=aZ (j:=4) hb6 rfl;have c5:=aZ (j:=5) hb6 rfl;have c6:=aZ (j:=6) hb6 rfl;have c7:=aZ (j:=7) hb6 rfl;have hbw:=bR hb6;cases B with
   |false =>
    go_wp2;go_ret;exact⟨rfl,hbw⟩
   |true =>
    obtain⟨t5,t5'⟩:=E5.out;cases b5 with
    |false =>
     go_wp2;go_ret;exact⟨rfl,hbw⟩
    |true =>
     obtain⟨t6,t6'⟩:=E6.out;cases b6 with
     |false =>
      go_wp2_with fail
      refine(eh hb6.size hb6 (HT.out _ hbw)).mono ?_;rintro e w7⟨rfl,hb7⟩;replace c0:=aZ (j:=0) hb7 rfl;replace c1:=aZ (j:=1) hb7 rfl;replace c2:=aZ (j:=2) hb7 rfl;replace c3:=aZ (j:=3) hb7 rfl;replace c4:=aZ (j:=4) hb7 rfl;replace c5:=aZ (j:=5) hb7 rfl;replace c6:=aZ (j:=6) hb7 rfl;replace c7:=aZ (j:=7) hb7 rfl;replace hbw:=bR hb7;clear hb6;go_wp2;go_ret;exact⟨by simp,hbw⟩
     |true =>
      go_wp2;go_ret;exact⟨rfl,hbw⟩
 |true =>
  go_wp2_with fail
  refine(HE.out _ ((ae _ _).alloc (af _) _)).mono ?_;rintro e w8⟨rfl,hb8⟩;have c0:=aZ (j:=0) hb8 rfl;have c1:=aZ (j:=1) hb8 rfl;have c2:=aZ (j:=2) hb8 rfl;have c3:=aZ (j:=3) hb8 rfl;have c4:=aZ (j:=4) hb8 rfl;have c5:=aZ (j:=5) hb8 rfl;have c6:=aZ (j:=6) hb8 rfl;have c7:=aZ (j:=7) hb8 rfl;have hbw:=bR hb8;go_wp2;go_ret;exact⟨by simp,hbw⟩
def iK(w:World)(B:Nat)(v:Value)(ds:List Dc):Prop:=cU w B 48 v ds.length (ds.flatMap jP)
def iL(w:World)(B:Nat)(v:Value)(ats:List At):Prop:=cU w B 73 v ats.length (ats.flatMap jt)
theorem cU.form{w:World}{B e n:Nat}{v:Value}{cs:List Value}(h:cU w B e v n cs):∃A c,v=.slice A n c:=by
 rcases h with⟨rfl,rfl⟩|⟨g,rfl,_⟩
 ·exact⟨_,_,rfl⟩
 ·exact⟨_,_,rfl⟩
theorem cU.aside{w w':World}{B e n r e':Nat}{v:Value}{cs:List Value}{z:Array Value}(h:cU w B e v n cs)(hr:w.heap[r]? = some (.cells z e' (0,0)))(he:e≠e')(hoth:∀g,g≠r->w'.heap[g]? = w.heap[g]?):cU w' B e v n cs:=by
 rcases h with h|⟨g,h1,h2,h3⟩
 ·exact .inl h
 ·refine .inr ⟨g,h1,h2,(hoth g (fun e1 => ?_)).trans h3⟩
  rw[e1,hr]at h3;simp at h3;exact he h3.2.symm
def I4(q B:Nat)(x:Nd)(A1 A2:Option Addr)(c1 c2:Nat):Nat->Value->World->Prop
 |0,v,_=>v=.pointer (some ⟨q,0,none⟩)
 |1,v,_=>v=.int .i64 x.k
 |2,v,_=>v=.pointer (some ⟨q,1,none⟩)
 |3,v,_=>v=.int .i64 x.n
 |4,v,_=>v=.pointer (some ⟨q,2,none⟩)
 |5,v,_=>v=.string x.p
 |6,v,_=>v=.string x.p
 |7,v,_=>v=.pointer (some ⟨q,3,none⟩)
 |8,v,_=>v=.string x.l
 |9,v,_=>v=.string x.l
 |10,v,_=>v=.pointer (some ⟨q,4,none⟩)
 |11,v,_=>v=.string x.u
 |12,v,_=>v=.string x.u
 |13,v,_=>v=.pointer (some ⟨q,5,none⟩)
 |14,v,_=>v=.string x.t
 |15,v,_=>v=.string x.t
 |16,v,_=>v=.pointer (some ⟨q,6,none⟩)
 |17,v,_=>v=.slice A1 x.ds.length c1
 |18,v,w=>iK w B v x.ds
 |19,v,_=>v=.pointer (some ⟨q,7,none⟩)
 |20,v,_=>v=.slice A2 x.ats.length c2
 |21,v,w=>iL w B v x.ats
 |22,v,w => ∃vd va,v=.agg #[.int .i64 x.k,.int .i64 x.n,.string x.p,.string x.l,.string x.u,.string x.t,vd,va]/\iK w B vd x.ds/\iL w B va x.ats
 |_,_,_=>True
theorem CQ{q B:Nat}{x:Nd}{A1 A2:Option Addr}{c1 c2:Nat}(j:Nat)(v:Value)(w w':World)(h:I4 q B x A1 A2 c1 c2 j v w)(hb:Below w.heap.size w w'):I4 q B x A1 A2 c1 c2 j v w':=by
 match j,h with
 |0,h=>exact h
 |1,h=>exact h
 |2,h=>exact h
 |3,h=>exact h
 |4,h=>exact h
 |5,h=>exact h
 |6,h=>exact h
 |7,h=>exact h
 |8,h=>exact h
 |9,h=>exact h
 |10,h=>exact h
 |11,h=>exact h
 |12,h=>exact h
 |13,h=>exact h
 |14,h=>exact h
 |15,h=>exact h
 |16,h=>exact h
 |17,h=>exact h
 |18,h=>exact cU.later h hb
 |19,h=>exact h
 |20,h=>exact h
 |21,h=>exact cU.later h hb
 |22,h =>
  obtain⟨vd,va,e,h1,h2⟩:=h;exact⟨vd,va,e,cU.later h1 hb,cU.later h2 hb⟩
 |_+23,_=>exact trivial
theorem lX(x:Nd)(v:Value)(hs:Sm x)(w:World)(hv:nH w w.heap.size v x):Calls Tryz.prog 39 #[v] w fun e w' => ∃vd va,e=.returned (.agg #[.int .i64 x.k,.int .i64 x.n,.string x.p,.string x.l,.string x.u,.string x.t,vd,va])/\iK w' w.heap.size vd x.ds/\iL w' w.heap.size va x.ats/\Below w.heap.size w w':=by
 obtain⟨vd,va,rfl,hd,ha⟩:=hv;have HD:Hid (gL w w.heap.size vd x.ds):=hd;have HA:Hid (kE w w.heap.size va x.ats):=ha;obtain⟨A1,c1,rfl,hl1,hm1,_⟩:=hd;obtain⟨A2,c2,rfl,hl2,hm2,_⟩:=ha;have HS:=aa hs;have HDC:Hid (∀w',Below w.heap.size w w'->Calls Tryz.prog 70 #[.slice A1 x.ds.length c1,.func (.func 71) #[] #[]] w' fun e w'' => ∃v',e=.returned v'/\cU w'' w'.heap.size 48 v' x.ds.length (x.ds.flatMap jP)/\Below w'.heap.size w' w''):=fun w' hb=>vW x.ds _ w' (em.later HD.out hb) hs.nd hs.ds;have HAC:Hid (∀w',Below w.heap.size w w'->Calls Tryz.prog 72 #[.slice A2 x.ats.length c2,.func (.func 73) #[] #[]] w' fun e w'' => ∃v',e=.returned v'/\cU w'' w'.heap.size 73 v' x.ats.length (x.ats.flatMap jt)/\Below w'.heap.size w' w''):=fun w' hb=>wD x.ats _ w' (em.later HA.out hb) hs.na hs.ats;have H2:=aa (fun w'=>dE x.p hs.p w');have H3:=aa (fun w'=>dE x.l hs.l w');have H4:=aa (fun w'=>dE x.u hs.u w');have H5:=aa (fun w'=>dE x.t hs.t w');clear hs;go_enter Tryz.func39,Tryz.ntmps39
 go_wp2_with fail
 obtain⟨W0,hW0⟩ : ∃W0,(w.alloc (Obj.cells #[.int .i64 x.k,.int .i64 x.n,.string x.p,.string x.l,.string x.u,.string x.t,.slice A1 x.ds.length c1,.slice A2 x.ats.length c2] 42)).alloc (Obj.cells #[.int .i64 0,.int .i64 0,.string ⟨#[]⟩,.string ⟨#[]⟩,.string ⟨#[]⟩,.string ⟨#[]⟩,.slice none 0 0,.slice none 0 0] 42)=W0:=⟨_,rfl⟩;have hWb:Below w.heap.size w W0:=by rw[<-hW0];exact((ae _ _).alloc (af _) _).alloc (by simp) _
 have hq:∀j v,(#[Value.int .i64 x.k,Value.int .i64 x.n,Value.string x.p,Value.string x.l,Value.string x.u,Value.string x.t,Value.slice A1 x.ds.length c1,Value.slice A2 x.ats.length c2] : Array Value)[j]? = some v->W0.cell? ⟨w.heap.size,j,none⟩=some v:=fun j v hv=>by
  rw[<-hW0];exact aZ (((ae _ _).alloc (af _) _)) hv
 have hr:W0.heap[w.heap.size+1]? = some (.cells #[.int .i64 0,.int .i64 0,.string ⟨#[]⟩,.string ⟨#[]⟩,.string ⟨#[]⟩,.string ⟨#[]⟩,.slice none 0 0,.slice none 0 0] 42):=by
  rw[<-hW0];have:=ar (w.alloc (Obj.cells #[.int .i64 x.k,.int .i64 x.n,.string x.p,.string x.l,.string x.u,.string x.t,.slice A1 x.ds.length c1,.slice A2 x.ats.length c2] 42)) (Obj.cells #[.int .i64 0,.int .i64 0,.string ⟨#[]⟩,.string ⟨#[]⟩,.string ⟨#[]⟩,.string ⟨#[]⟩,.slice none 0 0,.slice none 0 0] 42);simpa using this
 have hql:w.heap.size<W0.heap.size:=by rw[<-hW0];simp;omega
 have hrl:w.heap.size+1<W0.heap.size:=by rw[<-hW0];simp
 have hwr:w.heap.size<=w.heap.size+1:=by omega
 rw[hW0];clear hW0;generalize w.heap.size+1=r at *;obtain⟨q,hqE⟩ : ∃q,w.heap.size=q:=⟨_,rfl⟩;have HQE:=aa hqE;rw[hqE]at hWb hq hql hwr HDC HAC ⊢;clear hqE
 go_cut [] (fun wx => ∃vd va,wx.heap[r]? = some (.cells #[.int .i64 x.k,.int .i64 x.n,.string x.p,.string x.l,.string x.u,.string x.t,vd,va] 42)/\iK wx q vd x.ds/\iL wx q va x.ats/\Below q w wx)
 case first =>
  refine jB (n:=23) (by kernel_rfl) rfl (by kernel_rfl) (by kernel_rfl) (fun f => { tmps:=#[.agg #[.int .i64 x.k,.int .i64 x.n,.string x.p,.string x.l,.string x.u,.string x.t,.slice A1 x.ds.length c1,.slice A2 x.ats.length c2],.pointer (some ⟨q,0,none⟩),.pointer (some ⟨r,0,none⟩),f 0,f 1,f 2,f 3,f 4,f 5,f 6,f 7,f 8,f 9,f 10,f 11,f 12,f 13,f 14,f 15,f 16,f 17,f 18,f 19,f 20,f 21,f 22],defers:=[] }) (I4 q q x A1 A2 c1 c2) (Below W0.heap.size W0) (fun _=>undef) W0 CQ (ae _ _).drew ?step ?last
  case step =>
   intro i hi f y hG hF K hK;have hc:∀j v,W0.cell? ⟨q,j,none⟩=some v->y.cell? ⟨q,j,none⟩=some v:=fun j v h=>(hG.cell (p:=⟨q,j,none⟩) hql).trans h;have hwy:Below q w y:=hWb.trans (hG.mono (be hql))
   match i,hi with
   |0,_ =>
    clear hF;refine bF rfl rfl ?_
    try dsimp only
    go_simp
    exact hK (.pointer (some ⟨q,0,none⟩)) y rfl hG (ae _ _)
   |1,_ =>
    have e0:f 0=.pointer (some ⟨q,0,none⟩):=hF 0 (by kernel_rfl)
    have c0:=hc 0 _ (hq 0 _ rfl);clear hF;refine bF rfl rfl ?_
    try dsimp only
    go_simp
    refine gn (hK (.int .i64 x.k) y rfl hG (ae _ _)) ?_;simp[kG,e0]
   |2,_ =>
    clear hF;refine bF rfl rfl ?_
    try dsimp only
    go_simp
    exact hK (.pointer (some ⟨q,1,none⟩)) y rfl hG (ae _ _)
   |3,_ =>
    have e0:f 2=.pointer (some ⟨q,1,none⟩):=hF 2 (by kernel_rfl)
    have c0:=hc 1 _ (hq 1 _ rfl);clear hF;refine bF rfl rfl ?_
    try dsimp only
    go_simp
    refine gn (hK (.int .i64 x.n) y rfl hG (ae _ _)) ?_;simp[kG,e0]
   |4,_ =>
    clear hF;refine bF rfl rfl ?_
    try dsimp only
    go_simp
    exact hK (.pointer (some ⟨q,2,none⟩)) y rfl hG (ae _ _)
   |5,_ =>
    have e0:f 4=.pointer (some ⟨q,2,none⟩):=hF 4 (by kernel_rfl)
    have c0:=hc 2 _ (hq 2 _ rfl);clear hF;refine bF rfl rfl ?_
    try dsimp only
    go_simp
    refine gn (hK (.string x.p) y rfl hG (ae _ _)) ?_;simp[kG,e0]
   |6,_ =>
    have e0:f 5=.string x.p:=hF 5 (by kernel_rfl)
    clear hF;refine bF rfl rfl ?_
    try dsimp only
    go_simp
    refine(H2.out y).mono ?_;rintro e y1⟨rfl,hb1⟩;dsimp only;refine gn (hK (.string x.p) y1 rfl (hG.trans (hb1.mono hG.size)) hb1) ?_;simp[kG,e0]
   |7,_ =>
    clear hF;refine bF rfl rfl ?_
    try dsimp only
    go_simp
    exact hK (.pointer (some ⟨q,3,none⟩)) y rfl hG (ae _ _)
   |8,_ =>
    have e0:f 7=.pointer (some ⟨q,3,none⟩):=hF 7 (by kernel_rfl)
    have c0:=hc 3 _ (hq 3 _ rfl);clear hF;refine bF rfl rfl ?_
    try dsimp only
    go_simp
    refine gn (hK (.string x.l) y rfl hG (ae _ _)) ?_;simp[kG,e0]
   |9,_ =>
    have e0:f 8=.string x.l:=hF 8 (by kernel_rfl)
    clear hF;refine bF rfl rfl ?_
    try dsimp only
    go_simp
    refine(H3.out y).mono ?_;rintro e y1⟨rfl,hb1⟩;dsimp only;refine gn (hK (.string x.l) y1 rfl (hG.trans (hb1.mono hG.size)) hb1) ?_;simp[kG,e0]
   |10,_ =>
    clear hF;refine bF rfl rfl ?_
    try dsimp only
    go_simp
    exact hK (.pointer (some ⟨q,4,none⟩)) y rfl hG (ae _ _)
   |11,_ =>
    have e0:f 10=.pointer (some ⟨q,4,none⟩):=hF 10 (by kernel_rfl)
    have c0:=hc 4 _ (hq 4 _ rfl);clear hF;refine bF rfl rfl ?_
    try dsimp only
    go_simp
    refine gn (hK (.string x.u) y rfl hG (ae _ _)) ?_;simp[kG,e0]
   |12,_ =>
    have e0:f 11=.string x.u:=hF 11 (by kernel_rfl)
    clear hF;refine bF rfl rfl ?_
    try dsimp only
    go_simp
    refine(H4.out y).mono ?_;rintro e y1⟨rfl,hb1⟩;dsimp only;refine gn (hK (.string x.u) y1 rfl (hG.trans (hb1.mono hG.size)) hb1) ?_;simp[kG,e0]
   |13,_ =>
    clear hF;refine bF rfl rfl ?_
    try dsimp only
    go_simp
    exact hK (.pointer (some ⟨q,5,none⟩)) y rfl hG (ae _ _)
   |14,_ =>
    have e0:f 13=.pointer (some ⟨q,5,none⟩):=hF 13 (by kernel_rfl)
    have c0:=hc 5 _ (hq 5 _ rfl);clear hF;refine bF rfl rfl ?_
    try dsimp only
    go_simp
    refine gn (hK (.string x.t) y rfl hG (ae _ _)) ?_;simp[kG,e0]
   |15,_ =>
    have e0:f 14=.string x.t:=hF 14 (by kernel_rfl)
    clear hF;refine bF rfl rfl ?_
    try dsimp only
    go_simp
    refine(H5.out y).mono ?_;rintro e y1⟨rfl,hb1⟩;dsimp only;refine gn (hK (.string x.t) y1 rfl (hG.trans (hb1.mono hG.size)) hb1) ?_;simp[kG,e0]
   |16,_ =>
    clear hF;refine bF rfl rfl ?_
    try dsimp only
    go_simp
    exact hK (.pointer (some ⟨q,6,none⟩)) y rfl hG (ae _ _)
   |17,_ =>
    have e0:f 16=.pointer (some ⟨q,6,none⟩):=hF 16 (by kernel_rfl)
    have c0:=hc 6 _ (hq 6 _ rfl);clear hF;refine bF rfl rfl ?_
    try dsimp only
    go_simp
    refine gn (hK (.slice A1 x.ds.length c1) y rfl hG (ae _ _)) ?_;simp[kG,e0]
   |18,_ =>
    have e0:f 17=.slice A1 x.ds.length c1:=hF 17 (by kernel_rfl)
    clear hF;refine bF rfl rfl ?_
    try dsimp only
    go_simp
    refine(HDC.out y hwy).mono ?_;rintro e y1⟨v',rfl,ho,hb1⟩;dsimp only;refine gn (hK v' y1 (cU.mono ho (ag (be hql) hG.size)) (hG.trans (hb1.mono hG.size)) hb1) ?_;simp[kG,e0]
   |19,_ =>
    clear hF;refine bF rfl rfl ?_
    try dsimp only
    go_simp
    exact hK (.pointer (some ⟨q,7,none⟩)) y rfl hG (ae _ _)
   |20,_ =>
    have e0:f 19=.pointer (some ⟨q,7,none⟩):=hF 19 (by kernel_rfl)
    have c0:=hc 7 _ (hq 7 _ rfl);clear hF;refine bF rfl rfl ?_
    try dsimp only
    go_simp
    refine gn (hK (.slice A2 x.ats.length c2) y rfl hG (ae _ _)) ?_;simp[kG,e0]
   |21,_ =>
    have e0:f 20=.slice A2 x.ats.length c2:=hF 20 (by kernel_rfl)
    clear hF;refine bF rfl rfl ?_
    try dsimp only
    go_simp
    refine(HAC.out y hwy).mono ?_;rintro e y1⟨v',rfl,ho,hb1⟩;dsimp only;refine gn (hK v' y1 (cU.mono ho (ag (be hql) hG.size)) (hG.trans (hb1.mono hG.size)) hb1) ?_;simp[kG,e0]
   |22,_ =>
    have e0:f 1=.int .i64 x.k:=hF 1 (by kernel_rfl)
    have e1:f 3=.int .i64 x.n:=hF 3 (by kernel_rfl)
    have e2:f 6=.string x.p:=hF 6 (by kernel_rfl)
    have e3:f 9=.string x.l:=hF 9 (by kernel_rfl)
    have e4:f 12=.string x.u:=hF 12 (by kernel_rfl)
    have e5:f 15=.string x.t:=hF 15 (by kernel_rfl)
    have o6:iK y q (f 18) x.ds:=hF 18 (by kernel_rfl)
    have o7:iL y q (f 21) x.ats:=hF 21 (by kernel_rfl)
    obtain⟨A3,c3,e6⟩:=cU.form o6;obtain⟨A4,c4,e7⟩:=cU.form o7;rw[e6]at o6;rw[e7]at o7;have O6:=aa o6;have O7:=aa o7;clear hF o6 o7;refine bF rfl rfl ?_
    try dsimp only
    go_simp
    refine gn (hK (.agg #[.int .i64 x.k,.int .i64 x.n,.string x.p,.string x.l,.string x.u,.string x.t,.slice A3 x.ds.length c3,.slice A4 x.ats.length c4]) y ⟨_,_,rfl,O6.out,O7.out⟩ hG (ae _ _)) ?_;simp[kG,e0,e1,e2,e3,e4,e5,e6,e7]
   |n+23,hi=>exact absurd hi (by omega)
  case last =>
   intro f y hG hF K hK;obtain⟨vd',va',e0,ho1,ho2⟩:=hF 22 (by omega)
   obtain⟨A3,c3,rfl⟩:=cU.form ho1;obtain⟨A4,c4,rfl⟩:=cU.form ho2;have hry:y.heap[r]? = some (.cells #[.int .i64 0,.int .i64 0,.string ⟨#[]⟩,.string ⟨#[]⟩,.string ⟨#[]⟩,.string ⟨#[]⟩,.slice none 0 0,.slice none 0 0] 42):=(hG.block r hrl).trans hr;have hrc:∀j v,(#[Value.int .i64 0,Value.int .i64 0,Value.string ⟨#[]⟩,Value.string ⟨#[]⟩,Value.string ⟨#[]⟩,Value.string ⟨#[]⟩,Value.slice none 0 0,Value.slice none 0 0] : Array Value)[j]? = some v->y.cell? ⟨r,j,none⟩=some v:=fun j v hv=>by rw[ai y r j _ _ _ hry];exact hv
   have g0:=hrc 0 _ rfl;have g1:=hrc 1 _ rfl;have g2:=hrc 2 _ rfl;have g3:=hrc 3 _ rfl;have g4:=hrc 4 _ rfl;have g5:=hrc 5 _ rfl;have g6:=hrc 6 _ rfl;have g7:=hrc 7 _ rfl;have hfz:∀j,y.frozen? ⟨r,j,none⟩=false:=fun j=>by unfold World.frozen?;rw[hry];simp
   have HRY:=aa hry;have HO1:=aa ho1;have HO2:=aa ho2;refine bF rfl rfl ?_
   try dsimp only
   clear hrc hF hry ho1 ho2
   go_simp
   refine hK _ _ ?_
   go_wp2_with fail
   go_meet
   have hoth:∀g,g≠r->(((((((((y.setCell ⟨r,0,none⟩ (.int .i64 x.k)).setCell ⟨r,1,none⟩ (.int .i64 x.n)).setCell ⟨r,2,none⟩ (.string x.p)).setCell ⟨r,3,none⟩ (.string x.l)).setCell ⟨r,4,none⟩ (.string x.u)).setCell ⟨r,5,none⟩ (.string x.t)).setCell ⟨r,6,none⟩ (.slice A3 x.ds.length c3)).setCell ⟨r,7,none⟩ (.slice A4 x.ats.length c4))).heap[g]? = y.heap[g]?:=fun g hg=>(ao _ _ _ _ hg).trans ((ao _ _ _ _ hg).trans ((ao _ _ _ _ hg).trans ((ao _ _ _ _ hg).trans ((ao _ _ _ _ hg).trans ((ao _ _ _ _ hg).trans ((ao _ _ _ _ hg).trans (ao _ _ _ _ hg)))))));refine⟨.slice A3 x.ds.length c3,.slice A4 x.ats.length c4,aL (aL (aL (aL (aL (aL (aL (aL (HRY.out)))))))),cU.aside HO1.out HRY.out (by decide) hoth,cU.aside HO2.out HRY.out (by decide) hoth,(((((((((hWb.trans (hG.mono (be hql))).setCell (p:=⟨r,0,none⟩) hwr _).setCell (p:=⟨r,1,none⟩) hwr _).setCell (p:=⟨r,2,none⟩) hwr _).setCell (p:=⟨r,3,none⟩) hwr _).setCell (p:=⟨r,4,none⟩) hwr _).setCell (p:=⟨r,5,none⟩) hwr _).setCell (p:=⟨r,6,none⟩) hwr _).setCell (p:=⟨r,7,none⟩) hwr _)⟩
 case rest =>
  obtain⟨vd',va',hx,ho1,ho2,hb⟩:=hcut;have g0:wc.cell? ⟨r,0,none⟩=some (.int .i64 x.k):=by rw[ai wc r 0 _ _ _ hx];rfl
  have g1:wc.cell? ⟨r,1,none⟩=some (.int .i64 x.n):=by rw[ai wc r 1 _ _ _ hx];rfl
  have g2:wc.cell? ⟨r,2,none⟩=some (.string x.p):=by rw[ai wc r 2 _ _ _ hx];rfl
  have g3:wc.cell? ⟨r,3,none⟩=some (.string x.l):=by rw[ai wc r 3 _ _ _ hx];rfl
  have g4:wc.cell? ⟨r,4,none⟩=some (.string x.u):=by rw[ai wc r 4 _ _ _ hx];rfl
  have g5:wc.cell? ⟨r,5,none⟩=some (.string x.t):=by rw[ai wc r 5 _ _ _ hx];rfl
  have g6:wc.cell? ⟨r,6,none⟩=some vd':=by rw[ai wc r 6 _ _ _ hx];rfl
  have g7:wc.cell? ⟨r,7,none⟩=some va':=by rw[ai wc r 7 _ _ _ hx];rfl
  have HO1:=aa ho1;have HO2:=aa ho2;clear ho1 ho2;go_wp2;refine bodyPost_ret (v:=.agg #[.int .i64 x.k,.int .i64 x.n,.string x.p,.string x.l,.string x.u,.string x.t,vd',va']) (by simp[results,Tryz.results39,go_sem,g0,g1,g2,g3,g4,g5,g6,g7]) rfl ⟨_,_,rfl,by rw[HQE.out];exact HO1.out,by rw[HQE.out];exact HO2.out,by rw[HQE.out];exact hb⟩
end Go.Proofs.YteinegfbpfhflaaGreatDoor
