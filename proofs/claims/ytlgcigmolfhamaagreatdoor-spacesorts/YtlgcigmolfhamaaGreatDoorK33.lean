/-
  parse.reader: startTag. Conditions: the reader lies as it is; nothing is too long; upTo answers what it is to answer.
  parse.reader: endTag. Conditions: the reader lies as it is; nothing is too long.
  parse.reader: instruction. Conditions: the reader lies as it is, something is open; nothing is too long; the tables lie as they are laid; upTo answers so.
-/
import Derived.Test.YtlgcigmolfhamaaGreatDoorK32
import Derived.Test.YtlgcigmolfhamaaGreatDoorK20
import Derived.Test.YtlgcigmolfhamaaGreatDoorK27
namespace Go.Proofs.YtlgcigmolfhamaaGreatDoor
open Go.RowKit
set_option linter.unusedVariables false
set_option maxRecDepth 100000
set_option maxHeartbeats 32000000
theorem b3c{a:Option Nat}:a=none∨a≠(Value.slice none 0 0).ownBlock:=by
 cases a with
 |none=>exact .inl rfl
 |some b=>exact .inr (by simp[Value.ownBlock])
theorem b5p(st:Rd)(r:List UInt8)(o:Po)(x:Nd)(full:List UInt8):st.ds.length<=(a1s { st with rest:=r } o x full).ds.length:=by
 show st.ds.length<=(st.ds++x.ds).length
 rw[e8];omega
theorem b7s{st:Rd}{r:List UInt8}{o:Po}{x:Nd}{full:List UInt8}(D0:st.ns.length<=800000)(D1:st.op.length<=800000)(D2:st.ds.length<=800000)(D3:x.ds.length<=100000)(hr:r.length<=100000):a1J (a1s { st with rest:=r } o x full):=by
 refine⟨hr,?_,?_,?_,?_⟩
 ·have:=a4q { { st with rest:=r } with ds:=st.ds++x.ds } o
  show((Q1 { { st with rest:=r } with ds:=st.ds++x.ds } o).ns++[_]).length<=_
  rw[e8,j0];exact d8 (Nat.succ_le_succ this) (show st.ns.length+1+1<=900000 by omega)
 ·show(st.op++[_]).length<=_
  rw[e8,j0];omega
 ·show(st.ds++x.ds).length<=_
  rw[e8];omega
 ·exact o4 _
theorem b5P(hU:a0s)(w:World)(B rb:Nat)(st:Rd)(fr:List Po)(o:Po)(ho:st.op=fr++[o])(hr:st.rest.length<=100000)(N5:st.ns.length<=800000)(N6:st.op.length<=800000)(N7:st.ds.length<=800000)(N8:st.tx.length<=1000000)(h:O8 w B rb st)(hB : 8<=B)(hW:Wd w) :
 Calls Tryz.prog 120 #[.pointer (some ⟨rb,0,none⟩)] w fun e w'=>a2X (a1Q st o) B rb e w'/\Below B w w':=by
 obtain⟨vn,vo,vd,vt,ys,h⟩:=h;have D2:B<=w.heap.size:=d8 h.lo (A6 (i3 h.box));have L4:=a8 (hU st.rest y8 rb w h.curAt hr (.inr (.inr rfl)));have HU:=a8 hU;have H:=a8 h;have HW:=a8 hW;have ha:=a0S y8 st.rest;have hb:=a0R y8 st.rest;obtain⟨T,hT⟩ : ∃T,a1Q st o=T:=⟨_,rfl⟩;rw[hT];unfold a1Q at hT;have G4:∀r:List UInt8,r.length<=100000->a1J { st with rest:=r }:=fun r h=>⟨h,by show st.ns.length<=_;omega,by show st.op.length<=_;omega,by show st.ds.length<=_;omega,N8⟩
 have L9:=a8 G4;clear h G4 hU hW;cases hs:M4 (G9 y8 st.rest)with
 |none =>
  rw[hs]at hT;dsimp only at hT;have L5:Hid (∀w',Wd w'->_):=fun w' hw=>a6j (show(G9 y8 st.rest).length<=100000 by omega) hs w' hw
  have HT:=a8 hT.symm;clear hT hs;generalize G9 y8 st.rest=S1 at *;generalize J9 y8 st.rest=S2 at *;go_enter Tryz.func120,Tryz.ntmps120
  go_wp2_with fail
  refine L4.out.mono ?_;rintro e w1⟨rfl,J2⟩;have J1:=a8 (J2.below H.out.lo D2);clear J2
  go_wp2_with fail
  refine(L5.out w1 (HW.out.low hB J1.out)).mono ?_;rintro e w2⟨rfl,J3⟩;have J6:=a8 (J1.out.trans (J3.mono (d8 D2 J1.out.size)));clear J3;have N9:Hid (∀o,Below B w (w2.alloc o)):=fun o=>J6.out.alloc (d8 D2 J6.out.size) o
  go_wp2_with fail
  go_loopw [6] (fun(v:Value) (wr:World)=>v=.bool false/\Below B w wr) (fun _ _=>0)
  case atStart=>exact⟨rfl,N9.out _⟩
  case round =>
   obtain⟨rfl,hb⟩:=hrel;have HB:=a8 hb;clear hb;go_wp2;go_ret;exact⟨by rw[HT.out];rfl,HB.out⟩
 |some q =>
  obtain⟨p,l⟩:=q;rw[hs]at hT;dsimp only at hT;have L5:Hid (∀w',Wd w'->_):=fun w' hw=>a3F (show(G9 y8 st.rest).length<=100000 by omega) hs w' hw
  have HT:=a8 hT;clear hT hs;obtain⟨S1,M9⟩ : ∃S,G9 y8 st.rest=S:=⟨_,rfl⟩;obtain⟨S2,N0⟩ : ∃S,J9 y8 st.rest=S:=⟨_,rfl⟩;rw[M9]at L4 L5 HT ha;rw[N0]at L4 HT hb;clear M9 N0;go_enter Tryz.func120,Tryz.ntmps120
  go_wp2_with fail
  refine L4.out.mono ?_;rintro e w1⟨rfl,J2⟩;have J1:=a8 (J2.below H.out.lo D2);have H1:=a8 (H.out.cur J2);clear J2
  go_wp2_with fail
  refine(L5.out w1 (HW.out.low hB J1.out)).mono ?_;rintro e w2⟨rfl,J3⟩;have J6:=a8 (J1.out.trans (J3.mono (d8 D2 J1.out.size)));have H2:=a8 (H1.out.below J3);clear J3;have M0:B<=w2.heap.size:=d8 D2 J6.out.size
  go_upto_region 4 with fail
  obtain⟨xb,M1⟩ : ∃xb,w2.heap.size=xb:=⟨_,rfl⟩;obtain⟨w3,L6⟩ : ∃w3,w2.alloc (Obj.cells #[.int .i64 1,.int .i64 0,.string (ba p),.string (ba l),.string ⟨#[]⟩,.string ⟨#[]⟩,.slice none 0 0,.slice none 0 0] 46)=w3:=⟨_,rfl⟩;have M2:Below w2.heap.size w2 w3:=by rw[<-L6];exact(b8 _ _).alloc (c9 _) _
  have J7:w3.heap[xb]? = some (.cells #[.int .i64 1,.int .i64 0,.string (ba p),.string (ba l),.string ⟨#[]⟩,.string ⟨#[]⟩,.slice none 0 0,.slice none 0 0] 46 (0,0)):=by rw[<-L6,<-M1];exact g9 w2 _
  have M3:Hid (b7B w B rb xb st o vn vo vd vt ys S1 T (.bool true) w3):=.inl ⟨S2.length+1,S2,⟨1,0,ba p,ba l,⟨#[]⟩,⟨#[]⟩,[],[]⟩,rfl,Nat.lt_succ_self _,HT.out,⟨H2.out.below M2,by omega,fun e=>by have:=(H2.out.rn.lt xb e).2;omega,.slice none 0 0,.slice none 0 0,J7,r5 _ _ _ _,r5 _ _ _ _,.inl rfl,fun y hy=>b3c,fun y hy=>b3c⟩,by show S2.length+0+0<=_;omega,J6.out.trans (M2.mono M0)⟩
  clear M2 J7;rw[L6,M1];clear L6 M1;have P0:=a8 M0;clear M0
  go_loopw [6] (b7B w B rb xb st o vn vo vd vt ys S1 T) (fun v wr=>b4e rb v wr)
  case atStart=>exact M3.out
  case round =>
   rcases hrel with⟨n,r,x,rfl,hn,hT,L7,P1,hb⟩|⟨rfl,hT,hb⟩
   ·have E5:=a8 (D9 r rb _ L7.rd.curAt (by omega))
    have J8:=I0 r;have L0:=a8 L7;have HB:=a8 hb;have N1:b4e rb (.bool true) wr=r.length+1:=by show a3Q wr rb+1=_;rw[a5V L7.rd]
    have M5:=a8 N1;clear L7 hb N1;cases n with
    |zero=>omega
    |succ n =>
    rw[a2A]at hT;dsimp only at hT;cases h1:m9 [62] (n8 r)with
    |some r1 =>
     rw[h1]at hT;dsimp only at hT;have M6:=G5 h1;have E6:=a8 hT;have L1:Hid (∀w',n0 w' rb (ba (n8 r))->_):=fun w' hc=>F2 (n8 r) [62] r1 rb w' hc h1;clear hT h1;generalize decide ((n8 r).length<r.length)=Bz at *;obtain⟨Sb,E3⟩ : ∃S,n8 r=S:=⟨_,rfl⟩;rw[E3]at E5 L1 M6 J8;clear E3
     go_wp2_with fail
     refine E5.out.mono ?_;rintro e wa⟨rfl,D3⟩;have E4:=a8 (L0.out.cur D3);have D0:=a8 (D3.below H.out.lo (d8 D2 HB.out.size));clear D3
     go_wp2_with fail
     refine(L1.out wa E4.out.rd.curAt).mono ?_;rintro e wb⟨rfl,E1⟩;have G1:=a8 (E4.out.cur E1);have E7:=a8 (D0.out.trans (E1.below H.out.lo (d8 D2 (d8 HB.out.size D0.out.size))));clear E1;obtain⟨vD,vA,E0,L2⟩:=G1.out.at';have e0:=d9 wb xb 0 _ _ _ E0;have e1:=d9 wb xb 1 _ _ _ E0;have e2:=d9 wb xb 2 _ _ _ E0;have e3:=d9 wb xb 3 _ _ _ E0;have e4:=d9 wb xb 4 _ _ _ E0;have e5:=d9 wb xb 5 _ _ _ E0;have e6:=d9 wb xb 6 _ _ _ E0;have e7:=d9 wb xb 7 _ _ _ E0;simp only[List.getElem?_toArray,G3,C7]at e0 e1 e2 e3 e4 e5 e6 e7;have M7:=a8 (a6u wb B rb { st with rest:=r1 } vn vo vd vt ys fr o x vD vA S1 ho (L9.out r1 (by omega)) (by omega) (by omega) G1.out.rd L2)
     clear E0 L2
     go_wp2_with fail
     refine M7.out.mono ?_;rintro e wd⟨rfl,G6,E8⟩;clear e0 e1 e2 e3 e4 e5 e6 e7;have J4:=a8 G6;have HD:=a8 (HB.out.trans (E7.out.trans E8));clear G6 E8;go_wp2;go_ret;exact⟨by rw[<-E6.out];exact⟨rfl,J4.out⟩,HD.out⟩
    |none =>
     rw[h1]at hT;dsimp only at hT;have G7:Hid (∀w',n0 w' rb (ba (n8 r))->_):=fun w' hc=>K9 (n8 r) [62] rb w' hc h1;clear h1;cases h2:m9 [47,62] (n8 r)with
     |some r1 =>
     rw[h2]at hT;dsimp only at hT;have M6:=G5 h2;have E6:=a8 hT;have L1:Hid (∀w',n0 w' rb (ba (n8 r))->_):=fun w' hc=>F2 (n8 r) [47,62] r1 rb w' hc h2;clear hT h2;generalize decide ((n8 r).length<r.length)=Bz at *;obtain⟨Sb,E3⟩ : ∃S,n8 r=S:=⟨_,rfl⟩;rw[E3]at E5 L1 M6 J8 G7;clear E3
     go_wp2_with fail
     refine E5.out.mono ?_;rintro e wa⟨rfl,D3⟩;have E4:=a8 (L0.out.cur D3);have D0:=a8 (D3.below H.out.lo (d8 D2 HB.out.size));clear D3
     go_wp2_with fail
     refine(G7.out wa E4.out.rd.curAt).mono ?_;rintro e wc⟨rfl,E2⟩;have G0:=a8 (E4.out.cur E2);have D1:=a8 (D0.out.trans (E2.below H.out.lo (d8 D2 (d8 HB.out.size D0.out.size))));clear E2
     go_wp2_with fail
     refine(L1.out wc G0.out.rd.curAt).mono ?_;rintro e wb⟨rfl,E1⟩;have G1:=a8 (G0.out.cur E1);have E7:=a8 (D1.out.trans (E1.below H.out.lo (d8 D2 (d8 HB.out.size D1.out.size))));clear E1;obtain⟨vD,vA,E0,L2⟩:=G1.out.at';have e0:=d9 wb xb 0 _ _ _ E0;have e1:=d9 wb xb 1 _ _ _ E0;have e2:=d9 wb xb 2 _ _ _ E0;have e3:=d9 wb xb 3 _ _ _ E0;have e4:=d9 wb xb 4 _ _ _ E0;have e5:=d9 wb xb 5 _ _ _ E0;have e6:=d9 wb xb 6 _ _ _ E0;have e7:=d9 wb xb 7 _ _ _ E0;simp only[List.getElem?_toArray,G3,C7]at e0 e1 e2 e3 e4 e5 e6 e7;have M7:=a8 (a6u wb B rb { st with rest:=r1 } vn vo vd vt ys fr o x vD vA S1 ho (L9.out r1 (by omega)) (by omega) (by omega) G1.out.rd L2)
     clear E0 L2
     go_wp2_with fail
     refine M7.out.mono ?_;rintro e wd⟨rfl,G6,E8⟩;clear e0 e1 e2 e3 e4 e5 e6 e7;have J4:=a8 G6;have HD:=a8 (HB.out.trans (E7.out.trans E8));clear G6 E8
     have P2:Hid (Calls Tryz.prog 159 #[.pointer (some ⟨rb,0,none⟩)] wd fun e w'=>e=.returned (.tuple #[])/\O8 w' B rb (a5z (a1s { st with rest:=r1 } o x S1) st.op ⟨(Q1 { st with ds:=st.ds++x.ds } o).ns.length,S1,st.ds.length⟩)/\Below B wd w'):=by
      obtain⟨vn',vo',vd',vt',ys',M8⟩:=J4.out;exact b0s wd B rb (a1s { st with rest:=r1 } o x S1) vn' vo' vd' vt' ys' st.op ⟨(Q1 { st with ds:=st.ds++x.ds } o).ns.length,S1,st.ds.length⟩ rfl (b7s N5 N6 N7 (by omega) (by show r1.length<=_;omega)) (b5p st r1 o x S1) M8
     go_wp2_with fail
     refine P2.out.mono ?_;rintro e we⟨rfl,N2,N3⟩;have P3:=a8 N2;have P4:=a8 (HD.out.trans N3);clear N2 N3;go_wp2;go_ret;exact⟨by rw[<-E6.out];exact⟨rfl,P3.out⟩,P4.out⟩
     |none =>
     rw[h2]at hT;dsimp only at hT;have J5:Hid (∀w',n0 w' rb (ba (n8 r))->_):=fun w' hc=>K9 (n8 r) [47,62] rb w' hc h2;clear h2;by_cases G8:(n8 r).length<r.length
     ·rw[g8 G8]at hT
      have N4:=G8;rw[i6 G8]at E5;have L8:=a8 (L9.out (n8 r) (by omega))
      cases hm:T5 (n8 r) x with
      |none =>
       rw[hm]at hT;have E6:=a8 hT;have L3:Hid (∀w',Wd w'->RX w' B rb xb { st with rest:=n8 r } vn vo vd vt ys x->_):=fun w' hw hx=>b4K HU.out w' B rb xb { st with rest:=n8 r } vn vo vd vt ys x L8.out hx (by omega) (by omega) hB hw hm
       clear hT hm G8 N4;obtain⟨Sb,E3⟩ : ∃S,n8 r=S:=⟨_,rfl⟩;rw[E3]at E5 J8 G7 J5 L3 L8;clear E3
       go_wp2_with fail
       refine E5.out.mono ?_;rintro e wa⟨rfl,D3⟩;have E4:=a8 (L0.out.cur D3);have D0:=a8 (D3.below H.out.lo (d8 D2 HB.out.size));clear D3
       go_wp2_with fail
       refine(G7.out wa E4.out.rd.curAt).mono ?_;rintro e wc⟨rfl,E2⟩;have G0:=a8 (E4.out.cur E2);have D1:=a8 (D0.out.trans (E2.below H.out.lo (d8 D2 (d8 HB.out.size D0.out.size))));clear E2
       go_wp2_with fail
       refine(J5.out wc G0.out.rd.curAt).mono ?_;rintro e wb⟨rfl,E1⟩;have G1:=a8 (G0.out.cur E1);have E7:=a8 (HB.out.trans (D1.out.trans (E1.below H.out.lo (d8 D2 (d8 HB.out.size D1.out.size)))));clear E1
       go_wp2_with fail
       refine(L3.out wb (HW.out.low hB E7.out) G1.out).mono ?_;rintro e wd⟨rfl,E8⟩;have HD:=a8 (E7.out.trans E8);clear E8;go_wp2
       go_roundw
       case rel=>exact .inr ⟨rfl,E6.out.symm,HD.out⟩
       case measure=>rw[show b4e rb (.bool true) wr=_ from M5.out];exact Nat.succ_pos _
      |some q =>
       obtain⟨r2,x2⟩:=q;rw[hm]at hT;dsimp only at hT;have E6:=a8 hT;have P5:=a3g hm;have L3:Hid (∀w',Wd w'->RX w' B rb xb { st with rest:=n8 r } vn vo vd vt ys x->_):=fun w' hw hx=>b4I HU.out w' B rb xb { st with rest:=n8 r } vn vo vd vt ys x x2 r2 L8.out hx (by omega) (by omega) hB hw hm
       clear hT hm G8;obtain⟨Sb,E3⟩ : ∃S,n8 r=S:=⟨_,rfl⟩;rw[E3]at E5 J8 G7 J5 L3 L8 P5 N4;clear E3
       go_wp2_with fail
       refine E5.out.mono ?_;rintro e wa⟨rfl,D3⟩;have E4:=a8 (L0.out.cur D3);have D0:=a8 (D3.below H.out.lo (d8 D2 HB.out.size));clear D3
       go_wp2_with fail
       refine(G7.out wa E4.out.rd.curAt).mono ?_;rintro e wc⟨rfl,E2⟩;have G0:=a8 (E4.out.cur E2);have D1:=a8 (D0.out.trans (E2.below H.out.lo (d8 D2 (d8 HB.out.size D0.out.size))));clear E2
       go_wp2_with fail
       refine(J5.out wc G0.out.rd.curAt).mono ?_;rintro e wb⟨rfl,E1⟩;have G1:=a8 (G0.out.cur E1);have E7:=a8 (HB.out.trans (D1.out.trans (E1.below H.out.lo (d8 D2 (d8 HB.out.size D1.out.size)))));clear E1
       go_wp2_with fail
       refine(L3.out wb (HW.out.low hB E7.out) G1.out).mono ?_;rintro e wd⟨rfl,G6,E8⟩;have J4:=a8 G6;have HD:=a8 (E7.out.trans E8);clear G6 E8;go_wp2
       go_roundw
       case rel=>exact .inl ⟨n,r2,x2,rfl,by omega,E6.out,J4.out,by omega,HD.out⟩
       case measure=>rw[show b4e rb (.bool true) wr=_ from M5.out,show b4e rb (.bool true) wd=a3Q wd rb+1 from rfl,a5V J4.out.rd];show r2.length+1<_;omega
     ·rw[f6 G8]at hT
      rw[f8 G8]at E5;have E6:=a8 hT;clear hT G8;obtain⟨Sb,E3⟩ : ∃S,n8 r=S:=⟨_,rfl⟩;rw[E3]at E5 J8 G7 J5;clear E3
      go_wp2_with fail
      refine E5.out.mono ?_;rintro e wa⟨rfl,D3⟩;have E4:=a8 (L0.out.cur D3);have D0:=a8 (D3.below H.out.lo (d8 D2 HB.out.size));clear D3
      go_wp2_with fail
      refine(G7.out wa E4.out.rd.curAt).mono ?_;rintro e wc⟨rfl,E2⟩;have G0:=a8 (E4.out.cur E2);have D1:=a8 (D0.out.trans (E2.below H.out.lo (d8 D2 (d8 HB.out.size D0.out.size))));clear E2
      go_wp2_with fail
      refine(J5.out wc G0.out.rd.curAt).mono ?_;rintro e wb⟨rfl,E1⟩;have E7:=a8 (HB.out.trans (D1.out.trans (E1.below H.out.lo (d8 D2 (d8 HB.out.size D1.out.size)))));clear E1;go_wp2
      go_roundw
      case rel=>exact .inr ⟨rfl,E6.out.symm,E7.out⟩
      case measure=>rw[show b4e rb (.bool true) wr=_ from M5.out];exact Nat.succ_pos _
   ·have E6:=a8 hT
    have HB:=a8 hb;clear hT hb;go_wp2;go_ret;exact⟨by rw[E6.out];rfl,HB.out⟩
theorem b6Y(w:World)(B rb:Nat)(st:Rd)(h:O8 w B rb st)(h1:st.op.length=1):Calls Tryz.prog 119 #[.pointer (some ⟨rb,0,none⟩)] w fun e w'=>e=.returned (.bool false)/\Below B w w':=by
 have D0:B<=w.heap.size:=by obtain⟨vn,vo,vd,vt,ys,h⟩:=h;exact d8 h.lo (A6 (i3 h.box))
 have HO:Hid (∀n,Calls Tryz.prog 77 #[.pointer (some ⟨rb,0,none⟩)] (w.drewN n) fun e w''=>e=.returned (.bool true)/\w''=w.drewN n):=fun n=>by
  have:=U1 (w.drewN n) B rb st (h.below (i7 (b8 _ _) n));rw[h1]at this;exact this
 clear h h1;go_enter Tryz.func119,Tryz.ntmps119
 go_wp2_with fail
 go_quiet ((go_at_call 77;exact Calls.quiet_of_same (HO.out _)))
 go_wp2;go_ret;exact⟨rfl,i7 (b8 _ _) _⟩
def Z8(st:Rd)(fr:List Po)(o:Po):Option Rd :=
 if st.op.length=1 then none else
 match m9 o.full st.rest with
 |none=>none
 |some r=>match m9 [62] (n8 r)with
  |none=>none
  |some r'=>some { a5z { st with rest:=n8 r } fr o with rest:=r' }
theorem b43(w:World)(B rb:Nat)(st:Rd)(fr:List Po)(o:Po)(ho:st.op=fr++[o])(D3:fr.length<=1000000)(h:O8 w B rb st)(h1:st.op.length≠1)(hp:m9 o.full st.rest=none):Calls Tryz.prog 119 #[.pointer (some ⟨rb,0,none⟩)] w fun e w'=>e=.returned (.bool false)/\Below B w w':=by
 have D1:B<=w.heap.size:=by obtain⟨vn,vo,vd,vt,ys,h⟩:=h;exact d8 h.lo (A6 (i3 h.box))
 have D9:B<=rb:=by obtain⟨vn,vo,vd,vt,ys,h⟩:=h;exact h.lo
 have HO:Hid (∀w',Below w.heap.size w w'->Calls Tryz.prog 77 #[.pointer (some ⟨rb,0,none⟩)] w' fun e w''=>e=.returned (.bool false)/\w''=w'):=fun w' hb=>by
  have:=U1 w' B rb st (h.below hb);rw[f8 h1]at this;exact this
 have HI:Hid (∀w',Below w.heap.size w w'->_):=fun w' hb=>a0H w' B rb st fr o ho D3 (h.below hb);have HS:Hid (∀w',Below w.heap.size w w'->_):=fun w' hb=>K9 st.rest o.full rb w' (by obtain⟨vn,vo,vd,vt,ys,h⟩:=h.below hb;exact h.curAt) hp
 have E0:=a6Y o;clear h h1 ho hp;go_enter Tryz.func119,Tryz.ntmps119
 go_upto_region 1 with fail
 go_cut [14] (fun c wx=>c=.bool true/\Below B w wx)
 case first =>
  go_region_with (first
   |(go_at_call 77;refine(HO.out _ (by first|exact(b8 _ _).drew|exact b8 _ _)).mono ?_;rintro e w2 ⟨rfl,hw⟩;rw[hw];clear hw)
   |(go_at_call 158;refine(HI.out _ (by first|exact(b8 _ _).drew|exact b8 _ _)).mono ?_;rintro e w3 ⟨rfl,D0⟩)
   |(go_at_call 110;refine(HS.out w3 (((b8 _ _).drew).trans D0)).mono ?_;rintro e w4 ⟨rfl,D2⟩))
  all_goals
   have HB:=a8 (((b8 B w).drew.trans (D0.mono D1)).trans (D2.below D9 (d8 D1 D0.size)));clear D0 D2
   go_wp2_with fail
   go_meet
   exact⟨rfl,HB.out⟩
 case rest =>
  obtain⟨rfl,hb⟩:=hcut;go_wp2;go_ret;exact⟨rfl,hb⟩
theorem b6Z(w:World)(B rb:Nat)(st:Rd)(fr:List Po)(o:Po)(ho:st.op=fr++[o])(G7:fr.length<=1000000)(h:O8 w B rb st)(h1:st.op.length≠1)(r:List UInt8)(hp:m9 o.full st.rest=some r)(hf:a1J st)(G8:o.outer<=st.ds.length):Calls Tryz.prog 119 #[.pointer (some ⟨rb,0,none⟩)] w fun e w'=>a2X (Z8 st fr o) B rb e w'/\Below B w w':=by
 have D1:B<=w.heap.size:=by obtain⟨vn,vo,vd,vt,ys,h⟩:=h;exact d8 h.lo (A6 (i3 h.box))
 have D2:B<=rb:=by obtain⟨vn,vo,vd,vt,ys,h⟩:=h;exact h.lo
 have HO:Hid (∀w',Below w.heap.size w w'->Calls Tryz.prog 77 #[.pointer (some ⟨rb,0,none⟩)] w' fun e w''=>e=.returned (.bool false)/\w''=w'):=fun w' hb=>by
  have:=U1 w' B rb st (h.below hb);rw[f8 h1]at this;exact this
 have HI:Hid (∀w',Below w.heap.size w w'->_):=fun w' hb=>a0H w' B rb st fr o ho G7 (h.below hb);have HS:Hid (∀w',Below w.heap.size w w'->_):=fun w' hb=>F2 st.rest o.full r rb w' (by obtain⟨vn,vo,vd,vt,ys,h⟩:=h.below hb;exact h.curAt) hp
 have J4:=a6Y o;have J5:r.length<=100000:=by have:=G5 hp;have:=hf.rest;omega
 have J6:=I0 r;have HA:Hid (∀w' w'',Below w.heap.size w w'->N7 rb (ba r) w' w''->O8 w'' B rb { st with rest:=r }):=fun w' w'' hb hc=>by obtain⟨vn,vo,vd,vt,ys,h⟩:=h.below hb;exact⟨vn,vo,vd,vt,ys,h.cur hc⟩
 obtain⟨T,hT⟩ : ∃T,Z8 st fr o=T:=⟨_,rfl⟩;rw[hT];unfold Z8 at hT;rw[f6 h1,hp]at hT;dsimp only at hT;have E2:Hid (∀w',n0 w' rb (ba r)->_):=fun w' hc=>D9 r rb w' hc (by omega)
 have E3:Hid (∀w',O8 w' B rb { st with rest:=n8 r }->_):=fun w' ⟨vn,vo,vd,vt,ys,h⟩=>b0s w' B rb { st with rest:=n8 r } vn vo vd vt ys fr o ho ⟨by show(n8 r).length<=_;omega,hf.ns,hf.op,hf.ds,hf.tx⟩ G8 h
 have E4:Hid (∀w' s,O8 w' B rb s->n0 w' rb (ba s.rest)):=fun w' s ⟨_,_,_,_,_,h⟩=>h.curAt;have E5:Hid (∀w' w'' (s:Rd) r,O8 w' B rb s->N7 rb (ba r) w' w''->O8 w'' B rb { s with rest:=r }):=fun w' w'' s r ⟨vn,vo,vd,vt,ys,h⟩ hc=>⟨vn,vo,vd,vt,ys,h.cur hc⟩
 have E6:Hid (∀w',n0 w' rb (ba (n8 r))->Calls Tryz.prog 110 #[.pointer (some ⟨rb,0,none⟩),.string (ba [62])] w' fun e w''=>e=.returned (.bool (m9 [62] (n8 r)).isSome)/\N7 rb (ba ((m9 [62] (n8 r)).getD (n8 r))) w' w''):=fun w' hc=>by
  cases hg:m9 [62] (n8 r)with
  |none=>exact K9 (n8 r) [62] rb w' hc hg
  |some r'=>exact F2 (n8 r) [62] r' rb w' hc hg
 have E7:Hid (∀w',O8 w' B rb { a5z { st with rest:=n8 r } fr o with rest:=(m9 [62] (n8 r)).getD (n8 r) }->a2X T B rb (.returned (.bool (m9 [62] (n8 r)).isSome)) w'):=fun w' h=>by
  rw[<-hT];cases hg:m9 [62] (n8 r)with
  |none=>rfl
  |some r'=>rw[hg]at h;exact⟨rfl,h⟩
 clear h h1 ho hp hT hf;generalize decide ((n8 r).length<r.length)=Bz at *;generalize (m9 [62] (n8 r)).isSome=Bs at *;generalize (m9 [62] (n8 r)).getD (n8 r)=Sg at *;obtain⟨Sb,E8⟩ : ∃S,n8 r=S:=⟨_,rfl⟩;rw[E8]at E2 E3 E6 E7;clear E8;go_enter Tryz.func119,Tryz.ntmps119
 go_upto_region 1 with fail
 go_cut [14] (fun c wx=>c=.bool false/\Below B w wx/\O8 wx B rb { st with rest:=r })
 case first =>
  go_region_with (first
   |(go_at_call 77;refine(HO.out _ (by first|exact(b8 _ _).drew|exact b8 _ _)).mono ?_;rintro e w2 ⟨rfl,hw⟩;rw[hw];clear hw)
   |(go_at_call 158;refine(HI.out _ (by first|exact(b8 _ _).drew|exact b8 _ _)).mono ?_;rintro e w3 ⟨rfl,D0⟩)
   |(go_at_call 110;refine(HS.out w3 (((b8 _ _).drew).trans D0)).mono ?_;rintro e w4 ⟨rfl,D3⟩))
  all_goals
   have HB:=a8 (((b8 B w).drew.trans (D0.mono D1)).trans (D3.below D2 (d8 D1 D0.size)));have HR:=a8 (HA.out _ _ ((b8 _ _).drew.trans D0) D3);clear D0 D3
   go_wp2_with fail
   go_meet
   exact⟨rfl,HB.out,HR.out⟩
 case rest =>
  obtain⟨rfl,hb,hr⟩:=hcut;have HB:=a8 hb;have HR:=a8 hr;clear hb hr
  go_wp2_with fail
  refine(E2.out _ (E4.out _ _ HR.out)).mono ?_;rintro e w1⟨rfl,E0⟩;have G9:=a8 (E5.out _ _ _ _ HR.out E0);have J1:=a8 (HB.out.trans (E0.below D2 (d8 D1 HB.out.size)));clear E0
  go_wp2_with fail
  refine(E3.out _ G9.out).mono ?_;rintro e w2⟨rfl,G0,G1⟩;have G4:=a8 G0;have G6:=a8 (J1.out.trans G1);clear G0 G1
  go_wp2_with fail
  refine(E6.out _ (E4.out _ _ G4.out)).mono ?_;rintro e w3⟨rfl,E1⟩;have J2:=a8 (E5.out _ _ _ _ G4.out E1);have J3:=a8 (G6.out.trans (E1.below D2 (d8 D1 G6.out.size)));clear E1;go_wp2;go_ret;exact⟨E7.out _ J2.out,J3.out⟩
def a0Z(t x:List UInt8):Nd:=⟨4,0,⟨#[]⟩,ba t,⟨#[]⟩,ba x,[],[]⟩
theorem S7.curOther{w w':World}{B rb cb:Nat}{st:Rd}{vn vo vd vt:Value}{ys:List Ny}{R:ByteArray}{cs:Array Value}(h:S7 w B rb st vn vo vd vt ys)(hc:N7 cb R w w')(D1:w.heap[cb]? = some (.cells cs 114 (0,0))):S7 w' B rb st vn vo vd vt ys :=
 h.keep (hc.other rb (i3 h.box) (fun e=>by have hb:=h.box;rw[e,D1]at hb;simp at hb)) (fun b e cs' hb D0=>hc.other b (i3 D0) (fun e0=>by
  subst e0;rw[D1]at D0;simp only[f5,Obj.cells.injEq]at D0;obtain⟨_,he,_⟩:=D0;rcases hb with⟨_,h2⟩|⟨_,h2⟩|⟨_,h2⟩|⟨_,h2⟩|⟨y,_,⟨_,h2⟩|⟨_,h2⟩⟩<;>(rw[h2]at he;exact absurd he (by decide))))
theorem b3q(hU:a0s)(w:World)(B rb:Nat)(st:Rd)(fr:List Po)(o:Po)(ho:st.op=fr++[o])(hf:a1J st)(h:O8 w B rb st)(hW:Wd w)(ok:Bool)(p r:List UInt8)(hT:Calls Tryz.prog 155 #[.pointer (some ⟨rb,0,none⟩),.string ⟨#[63,62]⟩] w fun e w'=>e=.returned (.tuple #[.string (ba p),.bool ok])/\N7 rb (ba r) w w')(hp:p.length<=100000) :
 Calls Tryz.prog 118 #[.pointer (some ⟨rb,0,none⟩)] w fun e w'=>e=.returned (.bool ok)/\O8 w' B rb (a1o { st with rest:=r } o (a0Z (G9 [32,9,10] p) (n8 (J9 [32,9,10] p))))/\Below B w w':=by
 obtain⟨vn,vo,vd,vt,ys,h⟩:=h;have J4:fr.length<=1000000:=by have:=hf.op;rw[ho,e8]at this;simp at this;omega
 have D2:B<=w.heap.size:=d8 h.lo (A6 (i3 h.box));have HT:=a8 hT;have H:=a8 h;have J5:=a0R [32,9,10] p;have G4:Hid (∀w' cb,n0 w' cb (ba p)->_):=fun w' cb hc=>hU p [32,9,10] cb w' hc hp (.inr (.inl rfl));have E6:Hid (∀w' cb,n0 w' cb (ba (J9 [32,9,10] p))->_):=fun w' cb hc=>D9 (J9 [32,9,10] p) cb w' hc (by omega)
 have D0:Hid (∀w1,S7 w1 B rb { st with rest:=r } vn vo vd vt ys->_):=fun w1 h1=>a54 w1 B rb { st with rest:=r } vn vo vd vt ys fr o (a0Z (G9 [32,9,10] p) (n8 (J9 [32,9,10] p))) (.slice none 0 0) (.slice none 0 0) ho J4 hf.ns hf.tx h1 ⟨r5 _ _ _ _,r5 _ _ _ _⟩ (.inl rfl);clear h hW ho hT J5 hp;generalize decide ((n8 (J9 [32,9,10] p)).length<(J9 [32,9,10] p).length)=Bz at *;obtain⟨tA,G5⟩ : ∃t,G9 [32,9,10] p=t:=⟨_,rfl⟩;obtain⟨tB,E7⟩ : ∃t,J9 [32,9,10] p=t:=⟨_,rfl⟩;rw[G5,E7]at G4 D0 ⊢;rw[E7]at E6;obtain⟨tC,G6⟩ : ∃t,n8 tB=t:=⟨_,rfl⟩;rw[G6]at E6 D0 ⊢;clear G5 E7 G6;go_enter Tryz.func118,Tryz.ntmps118
 go_wp2_with fail
 refine HT.out.mono ?_;rintro e w1⟨rfl,E8⟩;have H1:=a8 (H.out.cur E8);have G0:=a8 (E8.below H.out.lo D2);clear E8
 go_wp2_with fail
 obtain⟨cb,E3⟩ : ∃cb,w1.heap.size=cb:=⟨_,rfl⟩;obtain⟨w2,E4⟩ : ∃w2,w1.alloc (Obj.cells #[.string (ba p)] 114)=w2:=⟨_,rfl⟩;have G1:Below w1.heap.size w1 w2:=by rw[<-E4];exact(b8 _ _).alloc (c9 _) _
 have D1:w2.heap[cb]? = some (.cells #[.string (ba p)] 114 (0,0)):=by rw[<-E4,<-E3];exact g9 w1 _
 have G7:n0 w2 cb (ba p):=⟨_,_,D1,rfl⟩;have H2:=a8 (H1.out.below G1);have D3:=a8 D1;have G8:=a8 G7;have J1:B<=cb:=by rw[<-E3];exact d8 D2 G0.out.size
 have J2:=a8 (G0.out.trans (G1.mono (d8 D2 G0.out.size)));rw[E4,E3];clear E4 E3 G1 D1 G7;refine(G4.out w2 cb G8.out).mono ?_;rintro e w3⟨rfl,E0⟩;have J6:=a8 E0;have H3:=a8 (H2.out.curOther E0 D3.out);have E1:Hid (w3.heap[cb]? = some (.cells #[.string (ba tB)] 114 (0,0))):=E0.cell _ _ D3.out;have J3:=a8 (J2.out.trans (E0.below J1 (d8 D2 (by have:=J2.out.size;omega))))
 clear E0
 go_wp2_with fail
 refine(E6.out w3 cb (J6.out.at G8.out)).mono ?_;rintro e w4⟨rfl,E5⟩;have H4:=a8 (H3.out.curOther E5 E1.out);have E2:w4.heap[cb]? = some (.cells #[.string (ba tC)] 114 (0,0)):=E5.cell _ _ E1.out;have q0:w4.cell? ⟨cb,0,none⟩=some (.string (ba tC)):=by rw[d9 w4 cb 0 _ _ _ E2];rfl
 have J7:=a8 (J3.out.trans (E5.below J1 (d8 D2 (by have:=J3.out.size;omega))))
 clear E5 E2
 go_wp2_with fail
 refine(D0.out w4 H4.out).mono ?_;rintro e w5⟨rfl,⟨vn',ys',hr,hg⟩,hb⟩;have HR:=a8 hr;have J8:=a8 (J7.out.trans hb);clear hr hg hb;go_wp2;go_ret;exact⟨rfl,⟨_,_,_,_,_,HR.out⟩,J8.out⟩
end Go.Proofs.YtlgcigmolfhamaaGreatDoor
