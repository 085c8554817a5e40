/-
  apostilleref07.Ints, One and Same, of lists and nodes that are alike: they say so. Conditions: they lie as they are.
-/
import Derived.Test.YteinegfbpfhflaaGreatDoorM20
import Derived.Test.YteinegfbpfhflaaGreatDoorM12
import Derived.Test.YteinegfbpfhflaaGreatDoorM11
import Derived.Test.YteinegfbpfhflaaGreatDoorM00
import Derived.Deep.QuietTactic
import Derived.StillTailTactics
namespace Go.Proofs.YteinegfbpfhflaaGreatDoor
open Go.RowKit
set_option linter.unusedVariables false
set_option maxRecDepth 100000
set_option maxHeartbeats 8000000
theorem kI(w:World)(C1 C2:Array Value)(t1 t2:TypeId)(z1 z2:Nat×Nat)(j:Nat):((w.alloc (.cells C1 t1 z1)).alloc (.cells C2 t2 z2)).cell? ⟨w.heap.size,j,none⟩=C1[j]?/\((w.alloc (.cells C1 t1 z1)).alloc (.cells C2 t2 z2)).cell? ⟨w.heap.size+1,j,none⟩=C2[j]?:=by
 have h2:=ar (w.alloc (.cells C1 t1 z1)) (.cells C2 t2 z2);rw[show(w.alloc (.cells C1 t1 z1)).heap.size=w.heap.size+1 by simp]at h2
 refine⟨?_,ai _ (w.heap.size+1) j _ _ _ h2⟩;have hb:Below (w.alloc (.cells C1 t1 z1)).heap.size (w.alloc (.cells C1 t1 z1)) ((w.alloc (.cells C1 t1 z1)).alloc (.cells C2 t2 z2)):=(ae _ _).alloc (af _) _;rw[hb.cell (p:=⟨w.heap.size,j,none⟩) (by simp)]
 exact ai _ w.heap.size j _ _ _ (ar w _)
def Ir(w:World)(n:Nat)(vd va vd' va':Value)(i:Value)(wr:World):Prop:=∃k:Nat,k<=n/\i=.int .i64 k/\wr.cell? ⟨w.heap.size,6,none⟩=some vd/\wr.cell? ⟨w.heap.size,7,none⟩=some va/\wr.cell? ⟨w.heap.size+1,6,none⟩=some vd'/\wr.cell? ⟨w.heap.size+1,7,none⟩=some va'/\Below w.heap.size w wr
def Hk(w:World)(n:Nat)(va va':Value)(i:Value)(wr:World):Prop:=∃k:Nat,k<=n/\i=.int .i64 k/\wr.cell? ⟨w.heap.size,7,none⟩=some va/\wr.cell? ⟨w.heap.size+1,7,none⟩=some va'/\Below w.heap.size w wr
theorem EU(x:Nd)(va vb:Value)(w:World)(ha:nH w w.heap.size va x)(hb:nH w w.heap.size vb x) :
 Calls Tryz.prog 19 #[va,vb] w fun e w'=>e=.returned (.bool true)/\Below w.heap.size w w':=by
 obtain⟨d1,a1,rfl,hd1,ha1⟩:=ha;obtain⟨d2,a2,rfl,hd2,ha2⟩:=hb;have HD1:=aa hd1;have HD2:=aa hd2;have HA1:=aa ha1;have HA2:=aa ha2;obtain⟨D1,e1,rfl,_,_,_⟩:=hd1;obtain⟨D2,e2,rfl,_,_,_⟩:=hd2;obtain⟨T1,f1,rfl,_,_,_⟩:=ha1;obtain⟨T2,f2,rfl,_,_,_⟩:=ha2;obtain⟨nd,hnd⟩ : ∃n,x.ds.length=n:=⟨_,rfl⟩;obtain⟨na,hna⟩ : ∃n,x.ats.length=n:=⟨_,rfl⟩;have HND:=aa hnd;have HNA:=aa hna;rw[hnd,hna];have t1:(x.k != x.k)=false:=by simp
 have t2:(x.n != x.n)=false:=by simp
 have t3:((nd:Int) != (nd:Int))=false:=by simp
 have t4:((na:Int) != (na:Int))=false:=by simp
 clear hnd hna;go_enter Tryz.func19,Tryz.ntmps19;go_wp2
 go_loopw [68] (Ir w nd (.slice D1 nd e1) (.slice T1 na f1) (.slice D2 nd e2) (.slice T2 na f2)) (fun i _=>nd-(intOf i).toNat)
 case atStart=>exact⟨0,aM _,rfl,(kI _ _ _ _ _ _ _ 6).1,(kI _ _ _ _ _ _ _ 7).1,(kI _ _ _ _ _ _ _ 6).2,(kI _ _ _ _ _ _ _ 7).2,((ae _ _).alloc (af _) _).alloc (by simp) _⟩
 case round =>
  obtain⟨k,hk,rfl,q1,q2,q3,q4,hb⟩:=hrel;by_cases hlt:k<nd
  ·have hkl:k<x.ds.length:=by rw[HND.out];exact hlt
   obtain⟨b1,o1,cap1,r1,_,_,hB1,hc1⟩:=HD1.out.open (by omega)
   obtain⟨b2,o2,cap2,r2,_,_,hB2,hc2⟩:=HD2.out.open (by omega)
   rw[HND.out]at r1 r2;simp only[aK]at r1 r2;obtain⟨rfl,_,rfl⟩:=r1;obtain⟨rfl,_,rfl⟩:=r2;obtain⟨m1,m2⟩:=hc1 k hkl;obtain⟨m3,m4⟩:=hc2 k hkl;replace m1:=(hb.cell (p:=⟨b1,o1+k*2,none⟩) hB1).trans m1;replace m2:=(hb.cell (p:=⟨b1,o1+k*2+1,none⟩) hB1).trans m2;replace m3:=(hb.cell (p:=⟨b2,o2+k*2,none⟩) hB2).trans m3;replace m4:=(hb.cell (p:=⟨b2,o2+k*2+1,none⟩) hB2).trans m4;clear hc1 hc2;generalize x.ds[k]=y at *;obtain⟨P,U⟩:=y;dsimp only at m1 m2 m3 m4;have hkz:(k:Int)<(nd:Int):=by omega
   go_wp2_with fail
   go_quiet (fail)
   go_wp2
   go_roundw
   case rel=>exact⟨k+1,hlt,by go_num,q1,q2,q3,q4,ay hb _⟩
   case measure=>simp[intOf];omega
  ·have hkz:¬(k:Int)<(nd:Int):=by omega
   clear q1 q3;go_wp2
   go_loopw [86] (Hk w na (.slice T1 na f1) (.slice T2 na f2)) (fun i _=>na-(intOf i).toNat)
   case atStart=>exact⟨0,aM _,rfl,q2,q4,hb⟩
   case round =>
    clear hb q2 q4 hkz hlt hk;obtain⟨k,hk,rfl,q2,q4,hb⟩:=hrel;by_cases hlt:k<na
    ·have hkl:k<x.ats.length:=by rw[HNA.out];exact hlt
     obtain⟨b1,o1,cap1,r1,_,_,hB1,hc1⟩:=HA1.out.open (by omega)
     obtain⟨b2,o2,cap2,r2,_,_,hB2,hc2⟩:=HA2.out.open (by omega)
     rw[HNA.out]at r1 r2;simp only[aK]at r1 r2;obtain⟨rfl,_,rfl⟩:=r1;obtain⟨rfl,_,rfl⟩:=r2;obtain⟨m1,m2,m3,m4⟩:=hc1 k hkl;obtain⟨m5,m6,m7,m8⟩:=hc2 k hkl;replace m1:=(hb.cell (p:=⟨b1,o1+k*4,none⟩) hB1).trans m1;replace m2:=(hb.cell (p:=⟨b1,o1+k*4+1,none⟩) hB1).trans m2;replace m3:=(hb.cell (p:=⟨b1,o1+k*4+2,none⟩) hB1).trans m3;replace m4:=(hb.cell (p:=⟨b1,o1+k*4+3,none⟩) hB1).trans m4;replace m5:=(hb.cell (p:=⟨b2,o2+k*4,none⟩) hB2).trans m5;replace m6:=(hb.cell (p:=⟨b2,o2+k*4+1,none⟩) hB2).trans m6;replace m7:=(hb.cell (p:=⟨b2,o2+k*4+2,none⟩) hB2).trans m7;replace m8:=(hb.cell (p:=⟨b2,o2+k*4+3,none⟩) hB2).trans m8;clear hc1 hc2;generalize x.ats[k]=y at *;obtain⟨P,L,U,V⟩:=y;dsimp only at m1 m2 m3 m4 m5 m6 m7 m8;have hkz:(k:Int)<(na:Int):=by omega
     go_wp2_with fail
     go_quiet (fail)
     go_wp2
     go_roundw
     case rel=>exact⟨k+1,hlt,by go_num,q2,q4,ay hb _⟩
     case measure=>simp[intOf];omega
    ·have hkz:¬(k:Int)<(na:Int):=by omega
     go_wp2;go_ret;exact⟨rfl,hb⟩
def Ip(w:World)(n:Nat)(i:Value)(wr:World):Prop:=∃k:Nat,k<=n/\i=.int .i64 k/\Below w.heap.size w wr
theorem Cl(l:List Nd)(v1 v2:Value)(w:World)(h1:eD w w.heap.size v1 l)(h2:eD w w.heap.size v2 l) :
 Calls Tryz.prog 14 #[v1,v2] w fun e w'=>e=.returned (.bool true)/\Below w.heap.size w w':=by
 have HO:Hid (∀x wr va vb,Below w.heap.size w wr->nH w w.heap.size va x->nH w w.heap.size vb x->Calls Tryz.prog 19 #[va,vb] wr fun e w'=>e=.returned (.bool true)/\Below wr.heap.size wr w'):=fun x wr va vb hb ha hb'=>EU x va vb wr (ha.later hb) (hb'.later hb);have H1:=aa h1;have H2:=aa h2;obtain⟨A1,c1,rfl,hl1,hm1⟩:=h1.slice;obtain⟨A2,c2,rfl,hl2,hm2⟩:=h2.slice;obtain⟨n,hnE⟩ : ∃n,l.length=n:=⟨_,rfl⟩;have HN:=aa hnE;rw[hnE]at hl1 hl2 ⊢;have hnn:((n:Int) != (n:Int))=false:=by simp
 clear h1 h2 hnE;go_enter Tryz.func14,Tryz.ntmps14;go_wp2
 go_loopw [13] (Ip w n) (fun i _=>n-(intOf i).toNat)
 case atStart=>exact⟨0,aM _,rfl,ae _ _⟩
 case round =>
  obtain⟨k,hk,rfl,hb⟩:=hrel;by_cases hlt:k<n
  ·have hkl:k<l.length:=by rw[HN.out];exact hlt
   obtain⟨b1,o1,cap1,r1,_,_,hB1,hnd1⟩:=H1.out.open (by intro h;rw[h]at hkl;simp at hkl)
   obtain⟨b2,o2,cap2,r2,_,_,hB2,hnd2⟩:=H2.out.open (by intro h;rw[h]at hkl;simp at hkl)
   simp only[aK]at r1 r2;obtain⟨rfl,_,rfl⟩:=r1;obtain⟨rfl,_,rfl⟩:=r2;obtain⟨vd,va,m0,m1,m2,m3,m4,m5,m6,m7,hds,has⟩:=(hnd1 k hkl).cells;obtain⟨vd',va',p0,p1,p2,p3,p4,p5,p6,p7,hds',has'⟩:=(hnd2 k hkl).cells;have HC:Hid (∀wr,Below w.heap.size w wr->Calls Tryz.prog 19 #[.agg #[.int .i64 l[k].k,.int .i64 l[k].n,.string l[k].p,.string l[k].l,.string l[k].u,.string l[k].t,vd,va],.agg #[.int .i64 l[k].k,.int .i64 l[k].n,.string l[k].p,.string l[k].l,.string l[k].u,.string l[k].t,vd',va']] wr fun e w'=>e=.returned (.bool true)/\Below wr.heap.size wr w'):=fun wr hb=>HO.out l[k] wr _ _ hb ⟨vd,va,rfl,hds,has⟩ ⟨vd',va',rfl,hds',has'⟩;obtain⟨T1,f1,rfl,-⟩:=hds;obtain⟨T2,f2,rfl,-⟩:=has;obtain⟨T3,f3,rfl,-⟩:=hds';obtain⟨T4,f4,rfl,-⟩:=has';replace m0:=(hb.cell (p:=⟨b1,o1+k*8,none⟩) hB1).trans m0;replace m1:=(hb.cell (p:=⟨b1,o1+k*8+1,none⟩) hB1).trans m1;replace m2:=(hb.cell (p:=⟨b1,o1+k*8+2,none⟩) hB1).trans m2;replace m3:=(hb.cell (p:=⟨b1,o1+k*8+3,none⟩) hB1).trans m3;replace m4:=(hb.cell (p:=⟨b1,o1+k*8+4,none⟩) hB1).trans m4;replace m5:=(hb.cell (p:=⟨b1,o1+k*8+5,none⟩) hB1).trans m5;replace m6:=(hb.cell (p:=⟨b1,o1+k*8+6,none⟩) hB1).trans m6;replace m7:=(hb.cell (p:=⟨b1,o1+k*8+7,none⟩) hB1).trans m7;replace p0:=(hb.cell (p:=⟨b2,o2+k*8,none⟩) hB2).trans p0;replace p1:=(hb.cell (p:=⟨b2,o2+k*8+1,none⟩) hB2).trans p1;replace p2:=(hb.cell (p:=⟨b2,o2+k*8+2,none⟩) hB2).trans p2;replace p3:=(hb.cell (p:=⟨b2,o2+k*8+3,none⟩) hB2).trans p3;replace p4:=(hb.cell (p:=⟨b2,o2+k*8+4,none⟩) hB2).trans p4;replace p5:=(hb.cell (p:=⟨b2,o2+k*8+5,none⟩) hB2).trans p5;replace p6:=(hb.cell (p:=⟨b2,o2+k*8+6,none⟩) hB2).trans p6;replace p7:=(hb.cell (p:=⟨b2,o2+k*8+7,none⟩) hB2).trans p7;generalize l[k]=x at *;clear hnd1 hnd2;have hkz:(k:Int)<(n:Int):=by omega
   go_wp2_with fail
   go_still_tail 8,(by kernel_rfl)
   change wpList _ _ _ _ _ wr.drew;have hbd:Below w.heap.size w wr.drew:=ay hb 1;generalize wr.drew=w2 at *;clear m0 m1 m2 m3 m4 m5 m6 m7 p0 p1 p2 p3 p4 p5 p6 p7 hb
   go_wp2_with fail
   refine(HC.out _ hbd).mono ?_;rintro e w3⟨rfl,hb3⟩;go_wp2
   go_roundw
   case rel=>exact⟨k+1,hlt,by go_num,hbd.trans (hb3.mono hbd.size)⟩
   case measure=>simp[intOf];omega
  ·have hkz:¬(k:Int)<(n:Int):=by omega
   go_wp2;go_ret;exact⟨rfl,hb⟩
end Go.Proofs.YteinegfbpfhflaaGreatDoor
