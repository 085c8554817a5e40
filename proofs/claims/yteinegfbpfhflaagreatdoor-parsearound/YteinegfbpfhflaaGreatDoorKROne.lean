/-
  apostilleref07.Ints, One and Same, of lists and nodes that are alike: they say so. Conditions: they lie as they are.
-/
import Derived.Test.YteinegfbpfhflaaGreatDoorK20
import Derived.Test.YteinegfbpfhflaaGreatDoorK12
import Derived.Test.YteinegfbpfhflaaGreatDoorK11
import Derived.Test.YteinegfbpfhflaaGreatDoorK00
import Derived.Deep.QuietTactic
import Derived.StillTailTactics
namespace Go.Proofs.YteinegfbpfhflaaGreatDoor
open Go.RowKit
set_option linter.unusedVariables false
set_option maxRecDepth 100000
set_option maxHeartbeats 8000000
theorem a27(w:World)(C1 C2:Array Value)(t1 t2:TypeId)(z1 z2:Nat×Nat)(j:Nat):((w.alloc (.cells C1 t1 z1)).alloc (.cells C2 t2 z2)).cell? ⟨w.heap.size,j,none⟩=C1[j]?/\((w.alloc (.cells C1 t1 z1)).alloc (.cells C2 t2 z2)).cell? ⟨w.heap.size+1,j,none⟩=C2[j]?:=by
 have h2:=g9 (w.alloc (.cells C1 t1 z1)) (.cells C2 t2 z2);rw[show(w.alloc (.cells C1 t1 z1)).heap.size=w.heap.size+1 by simp]at h2
 refine⟨?_,d9 _ (w.heap.size+1) j _ _ _ h2⟩;have hb:Below (w.alloc (.cells C1 t1 z1)).heap.size (w.alloc (.cells C1 t1 z1)) ((w.alloc (.cells C1 t1 z1)).alloc (.cells C2 t2 z2)):=(b8 _ _).alloc (c9 _) _;rw[hb.cell (p:=⟨w.heap.size,j,none⟩) (by simp)]
 exact d9 _ w.heap.size j _ _ _ (g9 w _)
def c04(w:World)(n:Nat)(vd va vd' va':Value)(i:Value)(wr:World):Prop:=∃k:Nat,k<=n/\i=.int .i64 k/\wr.cell? ⟨w.heap.size,6,none⟩=some vd/\wr.cell? ⟨w.heap.size,7,none⟩=some va/\wr.cell? ⟨w.heap.size+1,6,none⟩=some vd'/\wr.cell? ⟨w.heap.size+1,7,none⟩=some va'/\Below w.heap.size w wr
def c0Q(w:World)(n:Nat)(va va':Value)(i:Value)(wr:World):Prop:=∃k:Nat,k<=n/\i=.int .i64 k/\wr.cell? ⟨w.heap.size,7,none⟩=some va/\wr.cell? ⟨w.heap.size+1,7,none⟩=some va'/\Below w.heap.size w wr
theorem b8t(x:Nd)(va vb:Value)(w:World)(ha:NdV w w.heap.size va x)(hb:NdV w w.heap.size vb x) :
 Calls Tryz.prog 19 #[va,vb] w fun e w'=>e=.returned (.bool true)/\Below w.heap.size w w':=by
 obtain⟨d1,a1,rfl,E6,E7⟩:=ha;obtain⟨d2,a2,rfl,E8,G0⟩:=hb;have G5:=a8 E6;have G6:=a8 E8;have G7:=a8 E7;have G8:=a8 G0;obtain⟨D1,e1,rfl,_,_,_⟩:=E6;obtain⟨D2,e2,rfl,_,_,_⟩:=E8;obtain⟨T1,f1,rfl,_,_,_⟩:=E7;obtain⟨T2,f2,rfl,_,_,_⟩:=G0;obtain⟨nd,E4⟩ : ∃n,x.ds.length=n:=⟨_,rfl⟩;obtain⟨na,E5⟩ : ∃n,x.ats.length=n:=⟨_,rfl⟩;have G1:=a8 E4;have G4:=a8 E5;rw[E4,E5];have t1:(x.k != x.k)=false:=by simp
 have t2:(x.n != x.n)=false:=by simp
 have t3:((nd:Int) != (nd:Int))=false:=by simp
 have t4:((na:Int) != (na:Int))=false:=by simp
 clear E4 E5;go_enter Tryz.func19,Tryz.ntmps19;go_wp2
 go_loopw [68] (c04 w nd (.slice D1 nd e1) (.slice T1 na f1) (.slice D2 nd e2) (.slice T2 na f2)) (fun i _=>nd-(intOf i).toNat)
 case atStart=>exact⟨0,o4 _,rfl,(a27 _ _ _ _ _ _ _ 6).1,(a27 _ _ _ _ _ _ _ 7).1,(a27 _ _ _ _ _ _ _ 6).2,(a27 _ _ _ _ _ _ _ 7).2,((b8 _ _).alloc (c9 _) _).alloc (by simp) _⟩
 case round =>
  obtain⟨k,hk,rfl,q1,q2,q3,q4,hb⟩:=hrel;by_cases D9:k<nd
  ·have E0:k<x.ds.length:=by rw[G1.out];exact D9
   obtain⟨b1,o1,cap1,r1,_,_,D0,E1⟩:=G5.out.open (by omega)
   obtain⟨b2,o2,cap2,r2,_,_,D3,E2⟩:=G6.out.open (by omega)
   rw[G1.out]at r1 r2;simp only[o5]at r1 r2;obtain⟨rfl,_,rfl⟩:=r1;obtain⟨rfl,_,rfl⟩:=r2;obtain⟨m1,m2⟩:=E1 k E0;obtain⟨m3,m4⟩:=E2 k E0;replace m1:=(hb.cell (p:=⟨b1,o1+k*2,none⟩) D0).trans m1;replace m2:=(hb.cell (p:=⟨b1,o1+k*2+1,none⟩) D0).trans m2;replace m3:=(hb.cell (p:=⟨b2,o2+k*2,none⟩) D3).trans m3;replace m4:=(hb.cell (p:=⟨b2,o2+k*2+1,none⟩) D3).trans m4;clear E1 E2;generalize x.ds[k]=y at *;obtain⟨P,U⟩:=y;dsimp only at m1 m2 m3 m4;have E3:(k:Int)<(nd:Int):=by omega
   go_wp2_with fail
   go_quiet (fail)
   go_wp2
   go_roundw
   case rel=>exact⟨k+1,D9,by go_num,q1,q2,q3,q4,i7 hb _⟩
   case measure=>simp[intOf];omega
  ·have E3:¬(k:Int)<(nd:Int):=by omega
   clear q1 q3;go_wp2
   go_loopw [86] (c0Q w na (.slice T1 na f1) (.slice T2 na f2)) (fun i _=>na-(intOf i).toNat)
   case atStart=>exact⟨0,o4 _,rfl,q2,q4,hb⟩
   case round =>
    clear hb q2 q4 E3 D9 hk;obtain⟨k,hk,rfl,q2,q4,hb⟩:=hrel;by_cases D9:k<na
    ·have E0:k<x.ats.length:=by rw[G4.out];exact D9
     obtain⟨b1,o1,cap1,r1,_,_,D0,E1⟩:=G7.out.open (by omega)
     obtain⟨b2,o2,cap2,r2,_,_,D3,E2⟩:=G8.out.open (by omega)
     rw[G4.out]at r1 r2;simp only[o5]at r1 r2;obtain⟨rfl,_,rfl⟩:=r1;obtain⟨rfl,_,rfl⟩:=r2;obtain⟨m1,m2,m3,m4⟩:=E1 k E0;obtain⟨m5,m6,m7,m8⟩:=E2 k E0;replace m1:=(hb.cell (p:=⟨b1,o1+k*4,none⟩) D0).trans m1;replace m2:=(hb.cell (p:=⟨b1,o1+k*4+1,none⟩) D0).trans m2;replace m3:=(hb.cell (p:=⟨b1,o1+k*4+2,none⟩) D0).trans m3;replace m4:=(hb.cell (p:=⟨b1,o1+k*4+3,none⟩) D0).trans m4;replace m5:=(hb.cell (p:=⟨b2,o2+k*4,none⟩) D3).trans m5;replace m6:=(hb.cell (p:=⟨b2,o2+k*4+1,none⟩) D3).trans m6;replace m7:=(hb.cell (p:=⟨b2,o2+k*4+2,none⟩) D3).trans m7;replace m8:=(hb.cell (p:=⟨b2,o2+k*4+3,none⟩) D3).trans m8;clear E1 E2;generalize x.ats[k]=y at *;obtain⟨P,L,U,V⟩:=y;dsimp only at m1 m2 m3 m4 m5 m6 m7 m8;have E3:(k:Int)<(na:Int):=by omega
     go_wp2_with fail
     go_quiet (fail)
     go_wp2
     go_roundw
     case rel=>exact⟨k+1,D9,by go_num,q2,q4,i7 hb _⟩
     case measure=>simp[intOf];omega
    ·have E3:¬(k:Int)<(na:Int):=by omega
     go_wp2;go_ret;exact⟨rfl,hb⟩
def c02(w:World)(n:Nat)(i:Value)(wr:World):Prop:=∃k:Nat,k<=n/\i=.int .i64 k/\Below w.heap.size w wr
theorem b0j(l:List Nd)(v1 v2:Value)(w:World)(h1:S3 w w.heap.size v1 l)(h2:S3 w w.heap.size v2 l) :
 Calls Tryz.prog 14 #[v1,v2] w fun e w'=>e=.returned (.bool true)/\Below w.heap.size w w':=by
 have HO:Hid (∀x wr va vb,Below w.heap.size w wr->NdV w w.heap.size va x->NdV w w.heap.size vb x->Calls Tryz.prog 19 #[va,vb] wr fun e w'=>e=.returned (.bool true)/\Below wr.heap.size wr w'):=fun x wr va vb hb ha hb'=>b8t x va vb wr (ha.later hb) (hb'.later hb);have H1:=a8 h1;have H2:=a8 h2;obtain⟨A1,c1,rfl,E7,G4⟩:=h1.slice;obtain⟨A2,c2,rfl,E8,G5⟩:=h2.slice;obtain⟨n,E2⟩ : ∃n,l.length=n:=⟨_,rfl⟩;have HN:=a8 E2;rw[E2]at E7 E8 ⊢;have G6:((n:Int) != (n:Int))=false:=by simp
 clear h1 h2 E2;go_enter Tryz.func14,Tryz.ntmps14;go_wp2
 go_loopw [13] (c02 w n) (fun i _=>n-(intOf i).toNat)
 case atStart=>exact⟨0,o4 _,rfl,b8 _ _⟩
 case round =>
  obtain⟨k,hk,rfl,hb⟩:=hrel;by_cases E4:k<n
  ·have D2:k<l.length:=by rw[HN.out];exact E4
   obtain⟨b1,o1,cap1,r1,_,_,D0,D3⟩:=H1.out.open (by intro h;rw[h]at D2;simp at D2)
   obtain⟨b2,o2,cap2,r2,_,_,D1,D9⟩:=H2.out.open (by intro h;rw[h]at D2;simp at D2)
   simp only[o5]at r1 r2;obtain⟨rfl,_,rfl⟩:=r1;obtain⟨rfl,_,rfl⟩:=r2;obtain⟨vd,va,m0,m1,m2,m3,m4,m5,m6,m7,E5,E6⟩:=(D3 k D2).cells;obtain⟨vd',va',p0,p1,p2,p3,p4,p5,p6,p7,E0,E1⟩:=(D9 k D2).cells;have HC:Hid (∀wr,Below w.heap.size w wr->Calls Tryz.prog 19 #[.agg #[.int .i64 l[k].k,.int .i64 l[k].n,.string l[k].p,.string l[k].l,.string l[k].u,.string l[k].t,vd,va],.agg #[.int .i64 l[k].k,.int .i64 l[k].n,.string l[k].p,.string l[k].l,.string l[k].u,.string l[k].t,vd',va']] wr fun e w'=>e=.returned (.bool true)/\Below wr.heap.size wr w'):=fun wr hb=>HO.out l[k] wr _ _ hb ⟨vd,va,rfl,E5,E6⟩ ⟨vd',va',rfl,E0,E1⟩;obtain⟨T1,f1,rfl,-⟩:=E5;obtain⟨T2,f2,rfl,-⟩:=E6;obtain⟨T3,f3,rfl,-⟩:=E0;obtain⟨T4,f4,rfl,-⟩:=E1;replace m0:=(hb.cell (p:=⟨b1,o1+k*8,none⟩) D0).trans m0;replace m1:=(hb.cell (p:=⟨b1,o1+k*8+1,none⟩) D0).trans m1;replace m2:=(hb.cell (p:=⟨b1,o1+k*8+2,none⟩) D0).trans m2;replace m3:=(hb.cell (p:=⟨b1,o1+k*8+3,none⟩) D0).trans m3;replace m4:=(hb.cell (p:=⟨b1,o1+k*8+4,none⟩) D0).trans m4;replace m5:=(hb.cell (p:=⟨b1,o1+k*8+5,none⟩) D0).trans m5;replace m6:=(hb.cell (p:=⟨b1,o1+k*8+6,none⟩) D0).trans m6;replace m7:=(hb.cell (p:=⟨b1,o1+k*8+7,none⟩) D0).trans m7;replace p0:=(hb.cell (p:=⟨b2,o2+k*8,none⟩) D1).trans p0;replace p1:=(hb.cell (p:=⟨b2,o2+k*8+1,none⟩) D1).trans p1;replace p2:=(hb.cell (p:=⟨b2,o2+k*8+2,none⟩) D1).trans p2;replace p3:=(hb.cell (p:=⟨b2,o2+k*8+3,none⟩) D1).trans p3;replace p4:=(hb.cell (p:=⟨b2,o2+k*8+4,none⟩) D1).trans p4;replace p5:=(hb.cell (p:=⟨b2,o2+k*8+5,none⟩) D1).trans p5;replace p6:=(hb.cell (p:=⟨b2,o2+k*8+6,none⟩) D1).trans p6;replace p7:=(hb.cell (p:=⟨b2,o2+k*8+7,none⟩) D1).trans p7;generalize l[k]=x at *;clear D3 D9;have G0:(k:Int)<(n:Int):=by omega
   go_wp2_with fail
   go_still_tail 8,(by kernel_rfl)
   change wpList _ _ _ _ _ wr.drew;have E3:Below w.heap.size w wr.drew:=i7 hb 1;generalize wr.drew=w2 at *;clear m0 m1 m2 m3 m4 m5 m6 m7 p0 p1 p2 p3 p4 p5 p6 p7 hb
   go_wp2_with fail
   refine(HC.out _ E3).mono ?_;rintro e w3⟨rfl,G1⟩;go_wp2
   go_roundw
   case rel=>exact⟨k+1,E4,by go_num,E3.trans (G1.mono E3.size)⟩
   case measure=>simp[intOf];omega
  ·have G0:¬(k:Int)<(n:Int):=by omega
   go_wp2;go_ret;exact⟨rfl,hb⟩
end Go.Proofs.YteinegfbpfhflaaGreatDoor
