/-
  The Root, and nodes by their Kinds: whether they are formed by themselves; Texts side by side. Conditions: the tables lie as they are laid; the texts are not too long, the lists neither.
  doc.nodeCopy: a copy of a node, in new memory. Conditions: the node lies as it is; the texts are not too long, the lists neither.
-/
import Derived.Test.YtlgcigmolfhamaaGreatDoorK14
import Derived.Test.YtlgcigmolfhamaaGreatDoorK13
namespace Go.Proofs.YtlgcigmolfhamaaGreatDoor
open Go.RowKit
set_option linter.unusedVariables false
set_option maxRecDepth 100000
set_option maxHeartbeats 16000000
def S9(x:Nd):Bool:=(x.k==0)&&((x.n == -1)&&(N4 x.l []&&(N4 x.t []&&Q8 x)))
theorem b56(x:Nd)(v:Value)(w:World)(hv:NdV w w.heap.size v x):Calls Tryz.prog 122 #[v] w fun e w'=>e=.returned (.bool (S9 x))/\Below w.heap.size w w':=by
 have HB:Hid (∀w',Below w.heap.size w w'->Calls Tryz.prog 165 #[v] w' fun e w''=>e=.returned (.bool (Q8 x))/\Below w'.heap.size w' w''):=fun w' hb=>b1t x v w' (hv.later hb);obtain⟨vd,va,rfl,⟨A1,cap1,rfl,_⟩,⟨A2,cap2,rfl,_⟩⟩:=hv;unfold S9;generalize Q8 x=B at *;obtain⟨b1,e1,E1⟩:=a1N x.k 0;obtain⟨b2,e2,E2⟩:=a1N x.n (-1);obtain⟨b3,e3,E3⟩:=a0z x.l;obtain⟨b4,e4,E4⟩:=a0z x.t;rw[e1,e2,e3,e4];clear e1 e2 e3 e4;go_enter Tryz.func122,Tryz.ntmps122;have t1:=E1.out;cases b1 with
 |false =>
  go_wp2;go_ret;exact⟨rfl,(b8 _ _).alloc (c9 _) _⟩
 |true =>
  have t2:=E2.out;cases b2 with
  |false =>
   go_wp2;go_ret;exact⟨rfl,(b8 _ _).alloc (c9 _) _⟩
  |true =>
   obtain⟨t3,t3'⟩:=E3.out;cases b3 with
   |false =>
    go_wp2;go_ret;exact⟨rfl,(b8 _ _).alloc (c9 _) _⟩
   |true =>
    obtain⟨t4,t4'⟩:=E4.out;cases b4 with
    |false =>
     go_wp2;go_ret;exact⟨rfl,(b8 _ _).alloc (c9 _) _⟩
    |true =>
     go_wp2_with fail
     refine(HB.out _ ((b8 _ _).alloc (c9 _) _)).mono ?_;rintro e w1⟨rfl,D0⟩;have D1:=E8 D0;go_wp2;go_ret;exact⟨by simp,D1⟩
noncomputable def N0(x:Nd):Bool :=
 bif x.k==1 then a1z x else bif x.k==2 then Q8 x&&(N4 x.l []&&(!N4 x.t []&&tx x.t))else bif x.k==3 then Q8 x&&(N4 x.l []&&b2L x.t)else
 bif x.k==4 then Q8 x&&(a6f x.l&&b2d x.t)else false
theorem b6l(x:Nd)(v:Value)(hs:Sm x)(w:World)(hW:Wd w)(hv:NdV w w.heap.size v x):Calls Tryz.prog 124 #[v] w fun e w'=>e=.returned (.bool (N0 x))/\Below w.heap.size w w':=by
 have HB:Hid (∀w',Below w.heap.size w w'->Calls Tryz.prog 165 #[v] w' fun e w''=>e=.returned (.bool (Q8 x))/\Below w'.heap.size w' w''):=fun w' hb=>b1t x v w' (hv.later hb);have HE:Hid (∀w',Below w.heap.size w w'->Calls Tryz.prog 168 #[v] w' fun e w''=>e=.returned (.bool (a1z x))/\Below w'.heap.size w' w''):=fun w' hb=>b1e x v hs w' (hW.later hb) (hv.later hb);have HT:Hid (∀w',Below w.heap.size w w'->Calls Tryz.prog 169 #[.string x.t] w' fun e w''=>e=.returned (.bool (tx x.t))/\Below w'.heap.size w' w''):=fun w' hb=>a1j x.t hs.t w' (hW.later hb);have HC:Hid (∀w',Below w.heap.size w w'->Calls Tryz.prog 170 #[.string x.t] w' fun e w''=>e=.returned (.bool (b2L x.t))/\Below w'.heap.size w' w''):=fun w' hb=>b1l x.t hs.t w' (hW.later hb);have HG:Hid (∀w',Below w.heap.size w w'->Calls Tryz.prog 171 #[.string x.l] w' fun e w''=>e=.returned (.bool (a6f x.l))/\Below w'.heap.size w' w''):=fun w' hb=>b1R x.l hs.l w' (hW.later hb);have HI:Hid (∀w',Below w.heap.size w w'->Calls Tryz.prog 172 #[.string x.t] w' fun e w''=>e=.returned (.bool (b2d x.t))/\Below w'.heap.size w' w''):=fun w' hb=>a5y x.t hs.t w' (hW.later hb);obtain⟨vd,va,rfl,⟨A1,cap1,rfl,_⟩,⟨A2,cap2,rfl,_⟩⟩:=hv;unfold N0;generalize Q8 x=B at *;generalize a1z x=BE at *;generalize tx x.t=BT at *;generalize b2L x.t=BC at *;generalize a6f x.l=BG at *;generalize b2d x.t=BI at *;obtain⟨b1,e1,E1⟩:=a1N x.k 1;obtain⟨b2,e2,E2⟩:=a1N x.k 2;obtain⟨b3,e3,E3⟩:=a1N x.k 3;obtain⟨b4,e4,E4⟩:=a1N x.k 4;obtain⟨b5,e5,E5⟩:=a0z x.l;obtain⟨b6,e6,E6⟩:=a0z x.t;rw[e1,e2,e3,e4,e5,e6];clear e1 e2 e3 e4 e5 e6 hW hs;generalize x.k=K at *;go_enter Tryz.func124,Tryz.ntmps124;have t1:=E1.out;cases b1 with
 |false =>
  have t2:=E2.out;cases b2 with
  |false =>
   have t3:=E3.out;cases b3 with
   |false =>
    have t4:=E4.out;cases b4 with
    |false =>
     go_wp2;go_ret;exact⟨rfl,(b8 _ _).alloc (c9 _) _⟩
    |true =>
     go_wp2_with fail
     refine(HB.out _ ((b8 _ _).alloc (c9 _) _)).mono ?_;rintro e w1⟨rfl,D1⟩;have c0:=v8 (j:=0) D1 rfl;have c1:=v8 (j:=1) D1 rfl;have c2:=v8 (j:=2) D1 rfl;have c3:=v8 (j:=3) D1 rfl;have c4:=v8 (j:=4) D1 rfl;have c5:=v8 (j:=5) D1 rfl;have c6:=v8 (j:=6) D1 rfl;have c7:=v8 (j:=7) D1 rfl;have D0:=E8 D1;cases B with
     |false =>
      go_wp2;go_ret;exact⟨rfl,D0⟩
     |true =>
      go_wp2_with fail
      refine(Q5 D1.size D1 (HG.out _ D0)).mono ?_;rintro e w2⟨rfl,D2⟩;replace c0:=v8 (j:=0) D2 rfl;replace c1:=v8 (j:=1) D2 rfl;replace c2:=v8 (j:=2) D2 rfl;replace c3:=v8 (j:=3) D2 rfl;replace c4:=v8 (j:=4) D2 rfl;replace c5:=v8 (j:=5) D2 rfl;replace c6:=v8 (j:=6) D2 rfl;replace c7:=v8 (j:=7) D2 rfl;replace D0:=E8 D2;clear D1;cases BG with
      |false =>
       go_wp2;go_ret;exact⟨rfl,D0⟩
      |true =>
       go_wp2_with fail
       refine(Q5 D2.size D2 (HI.out _ D0)).mono ?_;rintro e w3⟨rfl,E0⟩;replace c0:=v8 (j:=0) E0 rfl;replace c1:=v8 (j:=1) E0 rfl;replace c2:=v8 (j:=2) E0 rfl;replace c3:=v8 (j:=3) E0 rfl;replace c4:=v8 (j:=4) E0 rfl;replace c5:=v8 (j:=5) E0 rfl;replace c6:=v8 (j:=6) E0 rfl;replace c7:=v8 (j:=7) E0 rfl;replace D0:=E8 E0;clear D2;go_wp2;go_ret;exact⟨by simp,D0⟩
   |true =>
    go_wp2_with fail
    refine(HB.out _ ((b8 _ _).alloc (c9 _) _)).mono ?_;rintro e w4⟨rfl,D3⟩;have c0:=v8 (j:=0) D3 rfl;have c1:=v8 (j:=1) D3 rfl;have c2:=v8 (j:=2) D3 rfl;have c3:=v8 (j:=3) D3 rfl;have c4:=v8 (j:=4) D3 rfl;have c5:=v8 (j:=5) D3 rfl;have c6:=v8 (j:=6) D3 rfl;have c7:=v8 (j:=7) D3 rfl;have D0:=E8 D3;cases B with
    |false =>
     go_wp2;go_ret;exact⟨rfl,D0⟩
    |true =>
     obtain⟨t5,t5'⟩:=E5.out;cases b5 with
     |false =>
      go_wp2;go_ret;exact⟨rfl,D0⟩
     |true =>
      go_wp2_with fail
      refine(Q5 D3.size D3 (HC.out _ D0)).mono ?_;rintro e w5⟨rfl,E7⟩;replace c0:=v8 (j:=0) E7 rfl;replace c1:=v8 (j:=1) E7 rfl;replace c2:=v8 (j:=2) E7 rfl;replace c3:=v8 (j:=3) E7 rfl;replace c4:=v8 (j:=4) E7 rfl;replace c5:=v8 (j:=5) E7 rfl;replace c6:=v8 (j:=6) E7 rfl;replace c7:=v8 (j:=7) E7 rfl;replace D0:=E8 E7;clear D3;go_wp2;go_ret;exact⟨by simp,D0⟩
  |true =>
   go_wp2_with fail
   refine(HB.out _ ((b8 _ _).alloc (c9 _) _)).mono ?_;rintro e w6⟨rfl,D9⟩;have c0:=v8 (j:=0) D9 rfl;have c1:=v8 (j:=1) D9 rfl;have c2:=v8 (j:=2) D9 rfl;have c3:=v8 (j:=3) D9 rfl;have c4:=v8 (j:=4) D9 rfl;have c5:=v8 (j:=5) D9 rfl;have c6:=v8 (j:=6) D9 rfl;have c7:=v8 (j:=7) D9 rfl;have D0:=E8 D9;cases B with
   |false =>
    go_wp2;go_ret;exact⟨rfl,D0⟩
   |true =>
    obtain⟨t5,t5'⟩:=E5.out;cases b5 with
    |false =>
     go_wp2;go_ret;exact⟨rfl,D0⟩
    |true =>
     obtain⟨t6,t6'⟩:=E6.out;cases b6 with
     |false =>
      go_wp2_with fail
      refine(Q5 D9.size D9 (HT.out _ D0)).mono ?_;rintro e w7⟨rfl,G0⟩;replace c0:=v8 (j:=0) G0 rfl;replace c1:=v8 (j:=1) G0 rfl;replace c2:=v8 (j:=2) G0 rfl;replace c3:=v8 (j:=3) G0 rfl;replace c4:=v8 (j:=4) G0 rfl;replace c5:=v8 (j:=5) G0 rfl;replace c6:=v8 (j:=6) G0 rfl;replace c7:=v8 (j:=7) G0 rfl;replace D0:=E8 G0;clear D9;go_wp2;go_ret;exact⟨by simp,D0⟩
     |true =>
      go_wp2;go_ret;exact⟨rfl,D0⟩
 |true =>
  go_wp2_with fail
  refine(HE.out _ ((b8 _ _).alloc (c9 _) _)).mono ?_;rintro e w8⟨rfl,G1⟩;have c0:=v8 (j:=0) G1 rfl;have c1:=v8 (j:=1) G1 rfl;have c2:=v8 (j:=2) G1 rfl;have c3:=v8 (j:=3) G1 rfl;have c4:=v8 (j:=4) G1 rfl;have c5:=v8 (j:=5) G1 rfl;have c6:=v8 (j:=6) G1 rfl;have c7:=v8 (j:=7) G1 rfl;have D0:=E8 G1;go_wp2;go_ret;exact⟨by simp,D0⟩
def a1A(w:World)(B:Nat)(v:Value)(ds:List Dc):Prop:=J8 w B 34 v ds.length (ds.flatMap C1)
def a1B(w:World)(B:Nat)(v:Value)(ats:List At):Prop:=J8 w B 103 v ats.length (ats.flatMap atC)
theorem J8.form{w:World}{B e n:Nat}{v:Value}{cs:List Value}(h:J8 w B e v n cs):∃A c,v=.slice A n c:=by
 rcases h with⟨rfl,rfl⟩|⟨g,rfl,_⟩
 ·exact⟨_,_,rfl⟩
 ·exact⟨_,_,rfl⟩
theorem J8.aside{w w':World}{B e n r e':Nat}{v:Value}{cs:List Value}{z:Array Value}(h:J8 w B e v n cs)(hr:w.heap[r]? = some (.cells z e' (0,0)))(he:e≠e')(D0:∀g,g≠r->w'.heap[g]? = w.heap[g]?):J8 w' B e v n cs:=by
 rcases h with h|⟨g,h1,h2,h3⟩
 ·exact .inl h
 ·refine .inr ⟨g,h1,h2,(D0 g (fun e1 => ?_)).trans h3⟩
  rw[e1,hr]at h3;simp at h3;exact he h3.2.symm
def ncF(q B:Nat)(x:Nd)(A1 A2:Option Addr)(c1 c2:Nat):Nat->Value->World->Prop
 |0,v,_=>v=.pointer (some ⟨q,0,none⟩)
 |1,v,_=>v=.int .i64 x.k
 |2,v,_=>v=.pointer (some ⟨q,1,none⟩)
 |3,v,_=>v=.int .i64 x.n
 |4,v,_=>v=.pointer (some ⟨q,2,none⟩)
 |5,v,_=>v=.string x.p
 |6,v,_=>v=.string x.p
 |7,v,_=>v=.pointer (some ⟨q,3,none⟩)
 |8,v,_=>v=.string x.l
 |9,v,_=>v=.string x.l
 |10,v,_=>v=.pointer (some ⟨q,4,none⟩)
 |11,v,_=>v=.string x.u
 |12,v,_=>v=.string x.u
 |13,v,_=>v=.pointer (some ⟨q,5,none⟩)
 |14,v,_=>v=.string x.t
 |15,v,_=>v=.string x.t
 |16,v,_=>v=.pointer (some ⟨q,6,none⟩)
 |17,v,_=>v=.slice A1 x.ds.length c1
 |18,v,w=>a1A w B v x.ds
 |19,v,_=>v=.pointer (some ⟨q,7,none⟩)
 |20,v,_=>v=.slice A2 x.ats.length c2
 |21,v,w=>a1B w B v x.ats
 |22,v,w => ∃vd va,v=.agg #[.int .i64 x.k,.int .i64 x.n,.string x.p,.string x.l,.string x.u,.string x.t,vd,va]/\a1A w B vd x.ds/\a1B w B va x.ats
 |_,_,_=>True
theorem b6y{q B:Nat}{x:Nd}{A1 A2:Option Addr}{c1 c2:Nat}(j:Nat)(v:Value)(w w':World)(h:ncF q B x A1 A2 c1 c2 j v w)(hb:Below w.heap.size w w'):ncF q B x A1 A2 c1 c2 j v w':=by
 match j,h with
 |0,h=>exact h
 |1,h=>exact h
 |2,h=>exact h
 |3,h=>exact h
 |4,h=>exact h
 |5,h=>exact h
 |6,h=>exact h
 |7,h=>exact h
 |8,h=>exact h
 |9,h=>exact h
 |10,h=>exact h
 |11,h=>exact h
 |12,h=>exact h
 |13,h=>exact h
 |14,h=>exact h
 |15,h=>exact h
 |16,h=>exact h
 |17,h=>exact h
 |18,h=>exact J8.later h hb
 |19,h=>exact h
 |20,h=>exact h
 |21,h=>exact J8.later h hb
 |22,h =>
  obtain⟨vd,va,e,h1,h2⟩:=h;exact⟨vd,va,e,J8.later h1 hb,J8.later h2 hb⟩
 |_+23,_=>exact trivial
theorem a36(x:Nd)(v:Value)(hs:Sm x)(w:World)(hv:NdV w w.heap.size v x):Calls Tryz.prog 60 #[v] w fun e w' => ∃vd va,e=.returned (.agg #[.int .i64 x.k,.int .i64 x.n,.string x.p,.string x.l,.string x.u,.string x.t,vd,va])/\a1A w' w.heap.size vd x.ds/\a1B w' w.heap.size va x.ats/\Below w.heap.size w w':=by
 obtain⟨vd,va,rfl,hd,ha⟩:=hv;have HD:Hid (a0P w w.heap.size vd x.ds):=hd;have HA:Hid (a23 w w.heap.size va x.ats):=ha;obtain⟨A1,c1,rfl,G7,G8,_⟩:=hd;obtain⟨A2,c2,rfl,G9,J1,_⟩:=ha;have HS:=a8 hs;have G1:Hid (∀w',Below w.heap.size w w'->Calls Tryz.prog 102 #[.slice A1 x.ds.length c1,.func (.func 103) #[] #[]] w' fun e w'' => ∃v',e=.returned v'/\J8 w'' w'.heap.size 34 v' x.ds.length (x.ds.flatMap C1)/\Below w'.heap.size w' w''):=fun w' hb=>b1h x.ds _ w' (R1.later HD.out hb) hs.nd hs.ds;have G4:Hid (∀w',Below w.heap.size w w'->Calls Tryz.prog 104 #[.slice A2 x.ats.length c2,.func (.func 105) #[] #[]] w' fun e w'' => ∃v',e=.returned v'/\J8 w'' w'.heap.size 103 v' x.ats.length (x.ats.flatMap atC)/\Below w'.heap.size w' w''):=fun w' hb=>b1B x.ats _ w' (R1.later HA.out hb) hs.na hs.ats;have H2:=a8 (fun w'=>M8 x.p hs.p w');have H3:=a8 (fun w'=>M8 x.l hs.l w');have H4:=a8 (fun w'=>M8 x.u hs.u w');have H5:=a8 (fun w'=>M8 x.t hs.t w');clear hs;go_enter Tryz.func60,Tryz.ntmps60
 go_wp2_with fail
 obtain⟨W0,D3⟩ : ∃W0,(w.alloc (Obj.cells #[.int .i64 x.k,.int .i64 x.n,.string x.p,.string x.l,.string x.u,.string x.t,.slice A1 x.ds.length c1,.slice A2 x.ats.length c2] 46)).alloc (Obj.cells #[.int .i64 0,.int .i64 0,.string ⟨#[]⟩,.string ⟨#[]⟩,.string ⟨#[]⟩,.string ⟨#[]⟩,.slice none 0 0,.slice none 0 0] 46)=W0:=⟨_,rfl⟩;have E4:Below w.heap.size w W0:=by rw[<-D3];exact((b8 _ _).alloc (c9 _) _).alloc (by simp) _
 have hq:∀j v,(#[Value.int .i64 x.k,Value.int .i64 x.n,Value.string x.p,Value.string x.l,Value.string x.u,Value.string x.t,Value.slice A1 x.ds.length c1,Value.slice A2 x.ats.length c2] : Array Value)[j]? = some v->W0.cell? ⟨w.heap.size,j,none⟩=some v:=fun j v hv=>by
  rw[<-D3];exact v8 (((b8 _ _).alloc (c9 _) _)) hv
 have hr:W0.heap[w.heap.size+1]? = some (.cells #[.int .i64 0,.int .i64 0,.string ⟨#[]⟩,.string ⟨#[]⟩,.string ⟨#[]⟩,.string ⟨#[]⟩,.slice none 0 0,.slice none 0 0] 46):=by
  rw[<-D3];have:=g9 (w.alloc (Obj.cells #[.int .i64 x.k,.int .i64 x.n,.string x.p,.string x.l,.string x.u,.string x.t,.slice A1 x.ds.length c1,.slice A2 x.ats.length c2] 46)) (Obj.cells #[.int .i64 0,.int .i64 0,.string ⟨#[]⟩,.string ⟨#[]⟩,.string ⟨#[]⟩,.string ⟨#[]⟩,.slice none 0 0,.slice none 0 0] 46);simpa using this
 have D9:w.heap.size<W0.heap.size:=by rw[<-D3];simp;omega
 have G6:w.heap.size+1<W0.heap.size:=by rw[<-D3];simp
 have D1:w.heap.size<=w.heap.size+1:=by omega
 rw[D3];clear D3;generalize w.heap.size+1=r at *;obtain⟨q,E5⟩ : ∃q,w.heap.size=q:=⟨_,rfl⟩;have E6:=a8 E5;rw[E5]at E4 hq D9 D1 G1 G4 ⊢;clear E5
 go_cut [] (fun wx => ∃vd va,wx.heap[r]? = some (.cells #[.int .i64 x.k,.int .i64 x.n,.string x.p,.string x.l,.string x.u,.string x.t,vd,va] 46)/\a1A wx q vd x.ds/\a1B wx q va x.ats/\Below q w wx)
 case first =>
  refine a2f (n:=23) (by kernel_rfl) rfl (by kernel_rfl) (by kernel_rfl) (fun f => { tmps:=#[.agg #[.int .i64 x.k,.int .i64 x.n,.string x.p,.string x.l,.string x.u,.string x.t,.slice A1 x.ds.length c1,.slice A2 x.ats.length c2],.pointer (some ⟨q,0,none⟩),.pointer (some ⟨r,0,none⟩),f 0,f 1,f 2,f 3,f 4,f 5,f 6,f 7,f 8,f 9,f 10,f 11,f 12,f 13,f 14,f 15,f 16,f 17,f 18,f 19,f 20,f 21,f 22],defers:=[] }) (ncF q q x A1 A2 c1 c2) (Below W0.heap.size W0) (fun _=>undef) W0 b6y (b8 _ _).drew ?step ?last
  case step =>
   intro i hi f y hG hF K hK;have hc:∀j v,W0.cell? ⟨q,j,none⟩=some v->y.cell? ⟨q,j,none⟩=some v:=fun j v h=>(hG.cell (p:=⟨q,j,none⟩) D9).trans h;have G5:Below q w y:=E4.trans (hG.mono (A6 D9))
   match i,hi with
   |0,_ =>
    clear hF;refine C6 rfl rfl ?_
    try dsimp only
    go_simp
    exact hK (.pointer (some ⟨q,0,none⟩)) y rfl hG (b8 _ _)
   |1,_ =>
    have e0:f 0=.pointer (some ⟨q,0,none⟩):=hF 0 (by kernel_rfl)
    have c0:=hc 0 _ (hq 0 _ rfl);clear hF;refine C6 rfl rfl ?_
    try dsimp only
    go_simp
    refine a0t (hK (.int .i64 x.k) y rfl hG (b8 _ _)) ?_;simp[upd,e0]
   |2,_ =>
    clear hF;refine C6 rfl rfl ?_
    try dsimp only
    go_simp
    exact hK (.pointer (some ⟨q,1,none⟩)) y rfl hG (b8 _ _)
   |3,_ =>
    have e0:f 2=.pointer (some ⟨q,1,none⟩):=hF 2 (by kernel_rfl)
    have c0:=hc 1 _ (hq 1 _ rfl);clear hF;refine C6 rfl rfl ?_
    try dsimp only
    go_simp
    refine a0t (hK (.int .i64 x.n) y rfl hG (b8 _ _)) ?_;simp[upd,e0]
   |4,_ =>
    clear hF;refine C6 rfl rfl ?_
    try dsimp only
    go_simp
    exact hK (.pointer (some ⟨q,2,none⟩)) y rfl hG (b8 _ _)
   |5,_ =>
    have e0:f 4=.pointer (some ⟨q,2,none⟩):=hF 4 (by kernel_rfl)
    have c0:=hc 2 _ (hq 2 _ rfl);clear hF;refine C6 rfl rfl ?_
    try dsimp only
    go_simp
    refine a0t (hK (.string x.p) y rfl hG (b8 _ _)) ?_;simp[upd,e0]
   |6,_ =>
    have e0:f 5=.string x.p:=hF 5 (by kernel_rfl)
    clear hF;refine C6 rfl rfl ?_
    try dsimp only
    go_simp
    refine(H2.out y).mono ?_;rintro e y1⟨rfl,D0⟩;dsimp only;refine a0t (hK (.string x.p) y1 rfl (hG.trans (D0.mono hG.size)) D0) ?_;simp[upd,e0]
   |7,_ =>
    clear hF;refine C6 rfl rfl ?_
    try dsimp only
    go_simp
    exact hK (.pointer (some ⟨q,3,none⟩)) y rfl hG (b8 _ _)
   |8,_ =>
    have e0:f 7=.pointer (some ⟨q,3,none⟩):=hF 7 (by kernel_rfl)
    have c0:=hc 3 _ (hq 3 _ rfl);clear hF;refine C6 rfl rfl ?_
    try dsimp only
    go_simp
    refine a0t (hK (.string x.l) y rfl hG (b8 _ _)) ?_;simp[upd,e0]
   |9,_ =>
    have e0:f 8=.string x.l:=hF 8 (by kernel_rfl)
    clear hF;refine C6 rfl rfl ?_
    try dsimp only
    go_simp
    refine(H3.out y).mono ?_;rintro e y1⟨rfl,D0⟩;dsimp only;refine a0t (hK (.string x.l) y1 rfl (hG.trans (D0.mono hG.size)) D0) ?_;simp[upd,e0]
   |10,_ =>
    clear hF;refine C6 rfl rfl ?_
    try dsimp only
    go_simp
    exact hK (.pointer (some ⟨q,4,none⟩)) y rfl hG (b8 _ _)
   |11,_ =>
    have e0:f 10=.pointer (some ⟨q,4,none⟩):=hF 10 (by kernel_rfl)
    have c0:=hc 4 _ (hq 4 _ rfl);clear hF;refine C6 rfl rfl ?_
    try dsimp only
    go_simp
    refine a0t (hK (.string x.u) y rfl hG (b8 _ _)) ?_;simp[upd,e0]
   |12,_ =>
    have e0:f 11=.string x.u:=hF 11 (by kernel_rfl)
    clear hF;refine C6 rfl rfl ?_
    try dsimp only
    go_simp
    refine(H4.out y).mono ?_;rintro e y1⟨rfl,D0⟩;dsimp only;refine a0t (hK (.string x.u) y1 rfl (hG.trans (D0.mono hG.size)) D0) ?_;simp[upd,e0]
   |13,_ =>
    clear hF;refine C6 rfl rfl ?_
    try dsimp only
    go_simp
    exact hK (.pointer (some ⟨q,5,none⟩)) y rfl hG (b8 _ _)
   |14,_ =>
    have e0:f 13=.pointer (some ⟨q,5,none⟩):=hF 13 (by kernel_rfl)
    have c0:=hc 5 _ (hq 5 _ rfl);clear hF;refine C6 rfl rfl ?_
    try dsimp only
    go_simp
    refine a0t (hK (.string x.t) y rfl hG (b8 _ _)) ?_;simp[upd,e0]
   |15,_ =>
    have e0:f 14=.string x.t:=hF 14 (by kernel_rfl)
    clear hF;refine C6 rfl rfl ?_
    try dsimp only
    go_simp
    refine(H5.out y).mono ?_;rintro e y1⟨rfl,D0⟩;dsimp only;refine a0t (hK (.string x.t) y1 rfl (hG.trans (D0.mono hG.size)) D0) ?_;simp[upd,e0]
   |16,_ =>
    clear hF;refine C6 rfl rfl ?_
    try dsimp only
    go_simp
    exact hK (.pointer (some ⟨q,6,none⟩)) y rfl hG (b8 _ _)
   |17,_ =>
    have e0:f 16=.pointer (some ⟨q,6,none⟩):=hF 16 (by kernel_rfl)
    have c0:=hc 6 _ (hq 6 _ rfl);clear hF;refine C6 rfl rfl ?_
    try dsimp only
    go_simp
    refine a0t (hK (.slice A1 x.ds.length c1) y rfl hG (b8 _ _)) ?_;simp[upd,e0]
   |18,_ =>
    have e0:f 17=.slice A1 x.ds.length c1:=hF 17 (by kernel_rfl)
    clear hF;refine C6 rfl rfl ?_
    try dsimp only
    go_simp
    refine(G1.out y G5).mono ?_;rintro e y1⟨v',rfl,ho,D0⟩;dsimp only;refine a0t (hK v' y1 (J8.mono ho (d8 (A6 D9) hG.size)) (hG.trans (D0.mono hG.size)) D0) ?_;simp[upd,e0]
   |19,_ =>
    clear hF;refine C6 rfl rfl ?_
    try dsimp only
    go_simp
    exact hK (.pointer (some ⟨q,7,none⟩)) y rfl hG (b8 _ _)
   |20,_ =>
    have e0:f 19=.pointer (some ⟨q,7,none⟩):=hF 19 (by kernel_rfl)
    have c0:=hc 7 _ (hq 7 _ rfl);clear hF;refine C6 rfl rfl ?_
    try dsimp only
    go_simp
    refine a0t (hK (.slice A2 x.ats.length c2) y rfl hG (b8 _ _)) ?_;simp[upd,e0]
   |21,_ =>
    have e0:f 20=.slice A2 x.ats.length c2:=hF 20 (by kernel_rfl)
    clear hF;refine C6 rfl rfl ?_
    try dsimp only
    go_simp
    refine(G4.out y G5).mono ?_;rintro e y1⟨v',rfl,ho,D0⟩;dsimp only;refine a0t (hK v' y1 (J8.mono ho (d8 (A6 D9) hG.size)) (hG.trans (D0.mono hG.size)) D0) ?_;simp[upd,e0]
   |22,_ =>
    have e0:f 1=.int .i64 x.k:=hF 1 (by kernel_rfl)
    have e1:f 3=.int .i64 x.n:=hF 3 (by kernel_rfl)
    have e2:f 6=.string x.p:=hF 6 (by kernel_rfl)
    have e3:f 9=.string x.l:=hF 9 (by kernel_rfl)
    have e4:f 12=.string x.u:=hF 12 (by kernel_rfl)
    have e5:f 15=.string x.t:=hF 15 (by kernel_rfl)
    have o6:a1A y q (f 18) x.ds:=hF 18 (by kernel_rfl)
    have o7:a1B y q (f 21) x.ats:=hF 21 (by kernel_rfl)
    obtain⟨A3,c3,e6⟩:=J8.form o6;obtain⟨A4,c4,e7⟩:=J8.form o7;rw[e6]at o6;rw[e7]at o7;have O6:=a8 o6;have O7:=a8 o7;clear hF o6 o7;refine C6 rfl rfl ?_
    try dsimp only
    go_simp
    refine a0t (hK (.agg #[.int .i64 x.k,.int .i64 x.n,.string x.p,.string x.l,.string x.u,.string x.t,.slice A3 x.ds.length c3,.slice A4 x.ats.length c4]) y ⟨_,_,rfl,O6.out,O7.out⟩ hG (b8 _ _)) ?_;simp[upd,e0,e1,e2,e3,e4,e5,e6,e7]
   |n+23,hi=>exact absurd hi (by omega)
  case last =>
   intro f y hG hF K hK;obtain⟨vd',va',e0,E0,E1⟩:=hF 22 (by omega)
   obtain⟨A3,c3,rfl⟩:=J8.form E0;obtain⟨A4,c4,rfl⟩:=J8.form E1;have E3:y.heap[r]? = some (.cells #[.int .i64 0,.int .i64 0,.string ⟨#[]⟩,.string ⟨#[]⟩,.string ⟨#[]⟩,.string ⟨#[]⟩,.slice none 0 0,.slice none 0 0] 46):=(hG.block r G6).trans hr;have D2:∀j v,(#[Value.int .i64 0,Value.int .i64 0,Value.string ⟨#[]⟩,Value.string ⟨#[]⟩,Value.string ⟨#[]⟩,Value.string ⟨#[]⟩,Value.slice none 0 0,Value.slice none 0 0] : Array Value)[j]? = some v->y.cell? ⟨r,j,none⟩=some v:=fun j v hv=>by rw[d9 y r j _ _ _ E3];exact hv
   have g0:=D2 0 _ rfl;have g1:=D2 1 _ rfl;have g2:=D2 2 _ rfl;have g3:=D2 3 _ rfl;have g4:=D2 4 _ rfl;have g5:=D2 5 _ rfl;have g6:=D2 6 _ rfl;have g7:=D2 7 _ rfl;have J2:∀j,y.frozen? ⟨r,j,none⟩=false:=fun j=>by unfold World.frozen?;rw[E3];simp
   have E7:=a8 E3;have E8:=a8 E0;have G0:=a8 E1;refine C6 rfl rfl ?_
   try dsimp only
   clear D2 hF E3 E0 E1
   go_simp
   refine hK _ _ ?_
   go_wp2_with fail
   go_meet
   have E2:∀g,g≠r->(((((((((y.setCell ⟨r,0,none⟩ (.int .i64 x.k)).setCell ⟨r,1,none⟩ (.int .i64 x.n)).setCell ⟨r,2,none⟩ (.string x.p)).setCell ⟨r,3,none⟩ (.string x.l)).setCell ⟨r,4,none⟩ (.string x.u)).setCell ⟨r,5,none⟩ (.string x.t)).setCell ⟨r,6,none⟩ (.slice A3 x.ds.length c3)).setCell ⟨r,7,none⟩ (.slice A4 x.ats.length c4))).heap[g]? = y.heap[g]?:=fun g hg=>(f7 _ _ _ _ hg).trans ((f7 _ _ _ _ hg).trans ((f7 _ _ _ _ hg).trans ((f7 _ _ _ _ hg).trans ((f7 _ _ _ _ hg).trans ((f7 _ _ _ _ hg).trans ((f7 _ _ _ _ hg).trans (f7 _ _ _ _ hg)))))));refine⟨.slice A3 x.ds.length c3,.slice A4 x.ats.length c4,o8 (o8 (o8 (o8 (o8 (o8 (o8 (o8 (E7.out)))))))),J8.aside E8.out E7.out (by decide) E2,J8.aside G0.out E7.out (by decide) E2,(((((((((E4.trans (hG.mono (A6 D9))).setCell (p:=⟨r,0,none⟩) D1 _).setCell (p:=⟨r,1,none⟩) D1 _).setCell (p:=⟨r,2,none⟩) D1 _).setCell (p:=⟨r,3,none⟩) D1 _).setCell (p:=⟨r,4,none⟩) D1 _).setCell (p:=⟨r,5,none⟩) D1 _).setCell (p:=⟨r,6,none⟩) D1 _).setCell (p:=⟨r,7,none⟩) D1 _)⟩
 case rest =>
  obtain⟨vd',va',hx,E0,E1,hb⟩:=hcut;have g0:wc.cell? ⟨r,0,none⟩=some (.int .i64 x.k):=by rw[d9 wc r 0 _ _ _ hx];rfl
  have g1:wc.cell? ⟨r,1,none⟩=some (.int .i64 x.n):=by rw[d9 wc r 1 _ _ _ hx];rfl
  have g2:wc.cell? ⟨r,2,none⟩=some (.string x.p):=by rw[d9 wc r 2 _ _ _ hx];rfl
  have g3:wc.cell? ⟨r,3,none⟩=some (.string x.l):=by rw[d9 wc r 3 _ _ _ hx];rfl
  have g4:wc.cell? ⟨r,4,none⟩=some (.string x.u):=by rw[d9 wc r 4 _ _ _ hx];rfl
  have g5:wc.cell? ⟨r,5,none⟩=some (.string x.t):=by rw[d9 wc r 5 _ _ _ hx];rfl
  have g6:wc.cell? ⟨r,6,none⟩=some vd':=by rw[d9 wc r 6 _ _ _ hx];rfl
  have g7:wc.cell? ⟨r,7,none⟩=some va':=by rw[d9 wc r 7 _ _ _ hx];rfl
  have E8:=a8 E0;have G0:=a8 E1;clear E0 E1;go_wp2;refine bodyPost_ret (v:=.agg #[.int .i64 x.k,.int .i64 x.n,.string x.p,.string x.l,.string x.u,.string x.t,vd',va']) (by simp[results,Tryz.results60,go_sem,g0,g1,g2,g3,g4,g5,g6,g7]) rfl ⟨_,_,rfl,by rw[E6.out];exact E8.out,by rw[E6.out];exact G0.out,by rw[E6.out];exact hb⟩
end Go.Proofs.YtlgcigmolfhamaaGreatDoor
