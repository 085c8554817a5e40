/-
  utf8.Valid of a slice of bytes. Conditions: the two tables of unicode/utf8 lie as they are laid.
-/
import Derived.Test.YtlgcigmolfhamaaGreatDoorK00
import Derived.Deep.LoopGhost
import Derived.Deep.DeepMust
import Derived.Deep.CutBlock
import Derived.Deep.DeepCutAuto
namespace Go.Proofs.YtlgcigmolfhamaaGreatDoor
open Go.RowKit
set_option maxHeartbeats 16000000
set_option maxRecDepth 1000000
theorem b34(A:Option Addr)(c:Nat)(bs:List UInt8)(w:World)(hT:a7k w)(hl:Q3 w w.heap.size A (P6 bs))(hc:bs.length<=c)(S5:c<=9223372036854775807) :
 Calls Tryz.prog 109 #[.slice A bs.length c] w fun e w'=>e=.returned (.bool (Lib.validD bs))/\Below w.heap.size w w':=by
 have h2:=hT.two;obtain⟨ANS,G0⟩ : ∃ANS,Lib.validD bs=ANS:=⟨_,rfl⟩;rw[G0];have HA:=a8 G0;clear G0;have P8:(bs.length:Int)<=c:=by omega
 go_enter Tryz.func109,Tryz.ntmps109;go_wp2
 go_loopg [0] (bs.length+1) (b2U w bs.length ANS)
 case atStart=>exact⟨b8 _ _,A,bs,rfl,hl,HA.out,by omega,c9 _⟩
 case round =>
  obtain⟨D0,A1,ts,rfl,N4,hv,hg,P9⟩:=hrel;clear hl HA P8;have HV:=a8 hv;clear hv;by_cases h0:0<ts.length
  ·obtain⟨g',rfl⟩ : ∃g',gk=g'+1:=⟨gk-1,by omega⟩
   obtain⟨b,o,rfl,E4,E5⟩:=a2l N4 h0;have N5:=hT.below (B:=w.heap.size) h2 D0;have HT:=a8 N5;clear N5 N4;have E0:=a8 E5;have c0:=a8o E5 0 h0;rw[Nat.add_zero]at c0;clear E5;obtain⟨x0,L7⟩ : ∃x0,ts.getD 0 0=x0:=⟨_,rfl⟩;rw[L7]at c0;have G6:=a8 L7;clear L7;obtain⟨m,hn⟩ : ∃m,ts.length=m+1:=⟨ts.length-1,by omega⟩
   have HN:=a8 hn;rw[hn]at P9 hg ⊢;clear hn h0;have G7:x0.toNat<256:=x0.toNat_lt;by_cases L8:x0.toNat<128
   ·have G8:(x0.toNat:Int)<128:=by omega
    clear HT
    have N6:Lib.validD (ts.drop 1)=ANS:=a2a HV.out 1 (by
     intro x hx;rw[b5M (by have:=HN.out;omega),G6.out]at hx
     simp at hx;rw[hx];exact L8)
    have G9:=a8 N6;clear N6;by_cases c8:8<m
    ·obtain⟨m8,rfl⟩ : ∃m8,m=m8+8:=⟨m-8,by omega⟩
     have L9:¬m8=0:=by omega
     have S6:(0:Int)<(m8:Int):=by omega
     have M0:(ts.drop 1).length=m8+8:=by rw[B6,HN.out];omega
     obtain⟨W1,Z1,k1,m1,z1⟩:=c0W b (o+1) (m8+8) (m8+8) (ts.drop 1) wr (by omega) M0 (by omega) (V9 1 E0.out)
     have N7:=a8 M0;clear M0;have K1:=a8 k1;clear k1;have Hz:=a8 z1;clear z1;by_cases L1:Z1=0
     ·as_aux_lemma =>
       have J1:((Z1:Int)==0)=true:=by simp[L1]
       have N8:=a8 (a2a G9.out 8 (Hz.out L1));clear Hz L1
       go_wp2_with (go_at_call 149;refine(K1.out 0).mono ?_;rintro e w' ⟨rfl,q1,rfl⟩)
       have J2:Below w.heap.size w (wr.drewN q1):=i7 D0 q1;have L2:∀j (hj:j<((ts.drop 1).drop 8).length),(wr.drewN q1).cell? ⟨b,o+1+8+j,none⟩=some (.int .u8 (((ts.drop 1).drop 8)[j].toNat:Int)):=V9 8 (V9 1 E0.out);have M1:((ts.drop 1).drop 8).length=m8:=by rw[B6,N7.out];omega
       generalize wr.drewN q1=wq at J2 L2 ⊢;have G1:=N8.out;generalize (ts.drop 1).drop 8=t9 at L2 M1 G1;have J3:=a8 L2;clear L2;have G5:=a8 M1;clear M1;have L3:=a8 G1;clear G1 N8;clear K1 N7 m1 J1;by_cases c16:16<m8
       ·obtain⟨m24,rfl⟩ : ∃m24,m8=m24+16:=⟨m8-16,by omega⟩
        have R1:¬m24=0:=by omega
        have R2:(0:Int)<(m24:Int):=by omega
        have c16z:(16:Int)<(m24:Int)+16:=by omega
        obtain⟨W2,W3,O2,Z2,k2,k3,o2,_,a2,z2⟩:=b6f b (o+1+8) (m24+16) (m24+16) (m24+8) (m24+8) t9 wq (by rw[G5.out];omega) G5.out (by omega) (by omega) J3.out
        rename_i lo2;clear lo2;have K2:=a8 k2;clear k2;have K3:=a8 k3;clear k3;have M2:=a8 z2;clear z2;by_cases L4:Z2=0
        ·as_aux_lemma =>
          have J4:((Z2:Int)==0)=true:=by simp[L4]
          have J5:=a8 (a2a L3.out 16 (M2.out L4));clear M2 L4
          go_quiet ((first|(go_at_call 149;with_reducible refine Calls.quiet_of (K2.out _))|(go_at_call 149;with_reducible refine Calls.quiet_of (K3.out _))))
          go_wp2;have M3:Below w.heap.size w (wq.drewN nq):=i7 J2 nq;have G4:∀j (hj:j<(t9.drop 16).length),(wq.drewN nq).cell? ⟨b,o+1+8+16+j,none⟩=some (.int .u8 ((t9.drop 16)[j].toNat:Int)):=V9 16 J3.out;have J6:(t9.drop 16).length=m24:=by rw[B6,G5.out];omega
          generalize wq.drewN nq=wq2 at M3 G4 ⊢;have R0:=a25 (g:=m24+1) (N:=m24) M3 E4 J6 G4 J5.out (by omega) (c9 _)
          clear G4 J6 J5 K2 K3 o2 a2 J4 J3 G5 L3 E0 HN HV G9 G6 c0 M3 J2 D0
          go_loopg [0] (m24+1) (b2U w m24 ANS)
          case atStart=>exact R0
          case round =>
           clear R0;obtain⟨M4,A3,us,rfl,M5,N9,R3,R4⟩:=hrel;have M6:=a8 N9;clear N9;by_cases c32:32<us.length
           ·obtain⟨g3,rfl⟩ : ∃g3,gk=g3+1:=⟨gk-1,by omega⟩
            obtain⟨b2,p,rfl,J7,P0⟩:=a2l M5 (by omega)
            have M7:=a8 P0;clear P0 M5;obtain⟨m5,M8⟩ : ∃m5,us.length=m5+32:=⟨us.length-32,by omega⟩
            have L5:=a8 M8;rw[M8]at c32 R3 R4 ⊢;clear M8;have R5:¬m5=0:=by omega
            have R6:(0:Int)<(m5:Int):=by omega
            have c32z:(32:Int)<(m5:Int)+32:=by omega
            obtain⟨W0,W1',W2',W3',P1,P2,P3,Z3,k0,k1,k2,k3,o1,o2,o3,a3,z3⟩:=c0V b2 p (m5+32) (m5+32) (m5+24) (m5+24) (m5+16) (m5+16) (m5+8) (m5+8) us wr (by rw[L5.out];omega) L5.out (by omega) (by omega) (by omega) (by omega) M7.out
            have K0:=a8 k0;clear k0;have K1:=a8 k1;clear k1;have K2:=a8 k2;clear k2;have K3:=a8 k3;clear k3;have M9:=a8 z3;clear z3;by_cases L6:Z3=0
            ·as_aux_lemma =>
              have N0:((Z3:Int)==0)=true:=by simp[L6]
              have R7:=a8 (a2a M6.out 32 (M9.out L6));clear M9 L6
              go_wp2_with fail
              go_quiet ((first|(go_at_call 149;with_reducible refine Calls.quiet_of (K0.out _))|(go_at_call 149;with_reducible refine Calls.quiet_of (K1.out _))|(go_at_call 149;with_reducible refine Calls.quiet_of (K2.out _))|(go_at_call 149;with_reducible refine Calls.quiet_of (K3.out _))))
              go_wp2
              go_roundg g3
              case measure=>omega
              case rel=>exact U9 (k:=32) (i7 M4 nq) J7 L5.out M7.out R7.out (fun _=>rfl) (by omega) (by omega) (by omega)
            ·as_aux_lemma =>
              have N0:((Z3:Int)==0)=false:=by simp;omega
              clear M9 L6
              go_wp2_with fail
              go_quiet ((first|(go_at_call 149;with_reducible refine Calls.quiet_of (K0.out _))|(go_at_call 149;with_reducible refine Calls.quiet_of (K1.out _))|(go_at_call 149;with_reducible refine Calls.quiet_of (K2.out _))|(go_at_call 149;with_reducible refine Calls.quiet_of (K3.out _))))
              go_wp2
              go_roundg g'
              case measure=>omega
              case rel=>exact a25 (i7 M4 nq) J7 L5.out M7.out M6.out (by omega) (by omega)
           ·as_aux_lemma =>
             have c32z:¬((32:Int)<(us.length:Int)):=by omega
             have c32b:decide ((32:Int)<(us.length:Int))=false:=f8 c32z
             go_wp2_with fail
             go_quiet (fail)
             go_wp2
             go_roundg g'
             case measure=>omega
             case rel=>exact⟨i7 M4 nq,A3,us,rfl,M5,M6.out,by omega,by omega⟩
        ·as_aux_lemma =>
          have J4:((Z2:Int)==0)=false:=by simp;omega
          clear M2 L4
          go_quiet ((first|(go_at_call 149;with_reducible refine Calls.quiet_of (K2.out _))|(go_at_call 149;with_reducible refine Calls.quiet_of (K3.out _))))
          go_wp2
          go_roundg g'
          case measure=>omega
          case rel=>exact a25 (i7 J2 nq) E4 G5.out J3.out L3.out (by omega) (by omega)
       ·as_aux_lemma =>
         have c16z:¬((16:Int)<(m8:Int)):=by omega
         have c16b:decide ((16:Int)<(m8:Int))=false:=f8 c16z
         go_quiet (fail)
         go_wp2
         go_roundg g'
         case measure=>omega
         case rel=>exact a25 (i7 J2 nq) E4 G5.out J3.out L3.out (by omega) (by omega)
     ·as_aux_lemma =>
       have J1:((Z1:Int)==0)=false:=by simp;omega
       clear Hz L1
       go_wp2_with (go_at_call 149;refine(K1.out 0).mono ?_;rintro e w' ⟨rfl,q1,rfl⟩)
       go_roundg g'
       case measure=>omega
       case rel=>exact U9 (k:=1) (i7 D0 q1) E4 HN.out E0.out G9.out (fun _=>rfl) (by omega) (by omega) (by omega)
    ·as_aux_lemma =>
      have c8z:¬(8:Int)<(m:Int):=by omega
      by_cases h1:m=0
      ·subst h1
       go_wp2
       go_roundg g'
       case measure=>omega
       case rel=>exact U9 (k:=1) D0 E4 HN.out E0.out G9.out (fun h=>by omega) (by omega) (by omega) (by omega)
      ·go_wp2
       go_roundg g'
       case measure=>omega
       case rel=>exact U9 (k:=1) D0 E4 HN.out E0.out G9.out (fun _=>rfl) (by omega) (by omega) (by omega)
   ·have R8:128<=x0.toNat:=by omega
    have G8:¬((x0.toNat:Int)<128):=by omega
    have L9:ts≠[]:=fun h=>by have:=HN.out;rw[h]at this;simp at this
    have D9:=Lib.validD_lead ts L9 (by rw[G6.out];exact R8)
    rw[G6.out,HN.out,HV.out]at D9;obtain⟨x1,N1⟩ : ∃x1,ts.getD 1 0=x1:=⟨_,rfl⟩;obtain⟨x2,N2⟩ : ∃x2,ts.getD 2 0=x2:=⟨_,rfl⟩;obtain⟨x3,N3⟩ : ∃x3,ts.getD 3 0=x3:=⟨_,rfl⟩;rw[N1,N2,N3]at D9;have hd:∀j,j<m+1->wr.cell? ⟨b,o+j,none⟩=some (.int .u8 ((ts.getD j 0).toNat:Int)):=fun j hj=>a8o E0.out j (by rw[HN.out];exact hj)
    have d1:1<m+1->∀O,(wr.alloc O).cell? ⟨b,o+1,none⟩=some (.int .u8 (x1.toNat:Int)):=fun hj O=>by rw[B0 wr O _ (by have:=D0.size;show b<_;omega),hd 1 hj,N1]
    have d2:2<m+1->∀O,(wr.alloc O).cell? ⟨b,o+2,none⟩=some (.int .u8 (x2.toNat:Int)):=fun hj O=>by rw[B0 wr O _ (by have:=D0.size;show b<_;omega),hd 2 hj,N2]
    have d3:3<m+1->∀O,(wr.alloc O).cell? ⟨b,o+3,none⟩=some (.int .u8 (x3.toNat:Int)):=fun hj O=>by rw[B0 wr O _ (by have:=D0.size;show b<_;omega),hd 3 hj,N3]
    have l1:=x1.toNat_lt;have l2:=x2.toNat_lt;have l3:=x3.toNat_lt
    have R9:=HT.out.1 x0.toNat G7
    have J8:Lib.firstT x0.toNat<256:=by unfold Lib.firstT;repeat' split
                                        all_goals omega
    obtain⟨X,hX⟩ : ∃X,Lib.firstT x0.toNat=X:=⟨_,rfl⟩;rw[hX]at R9 J8 D9;have h7:=c1B ⟨X,J8⟩;simp only at h7;have S0:wr.cell? ⟨1,X/16*2,none⟩=some (.int .u8 (Lib.accLo (X/16))):=by rw[Nat.mul_comm];exact(HT.out.2 (X/16) (by omega)).1
    have S1:wr.cell? ⟨1,X/16*2+1,none⟩=some (.int .u8 (Lib.accHi (X/16))):=by rw[Nat.mul_comm];exact(HT.out.2 (X/16) (by omega)).2
    obtain⟨LO,P4⟩ : ∃LO,Lib.accLo (X/16)=LO:=⟨_,rfl⟩;obtain⟨HI,P5⟩ : ∃HI,Lib.accHi (X/16)=HI:=⟨_,rfl⟩;rw[P4]at S0 D9;rw[P5]at S1 D9;obtain⟨SZ,P7⟩ : ∃SZ,X%8=SZ:=⟨_,rfl⟩;rw[P7]at D9;have D1:=a8 d1;have D2:=a8 d2;have D3:=a8 d3
    clear hX P4 P5 L9 hd d1 d2 d3 N1 N2 N3 HT HV G6;by_cases s2:SZ=2
    ·subst s2
     have J9:(X:Int)%8=2:=by omega
     simp only[Lib.checkN,Nat.reduceEqDiff,if_true,if_false]at D9;have E2:=a8 D9;clear D9
     go_upto_region 18 with fail
     go_cut [103]from 85 to 103 (fun c wx=>c=.bool (decide (m+1<2∨x1.toNat<LO∨HI<x1.toNat))/\Below w.heap.size w wx/\∀j (hj:j<ts.length),wx.cell? ⟨b,o+j,none⟩=some (.int .u8 (ts[j].toNat:Int)))
     case first =>
      as_aux_lemma =>
       by_cases q0:m+1<2
       ·have q0z:(m:Int)+1<2:=by omega
        go_quiet (fail)
        go_wp2
        go_meet
        exact⟨congrArg Value.bool (i6 (p:=m+1<2∨x1.toNat<LO∨HI<x1.toNat) (by omega)).symm,i7 (D0.alloc D0.size _) _,fun j hj=>(B0 wr _ _ (by have:=D0.size;show b<_;omega)).trans (E0.out j hj)⟩
       ·have q0z:¬((m:Int)+1<2):=by omega
        have z1:(1:Int)<(m:Int)+1:=by omega
        have e1:=D1.out (by omega)
        by_cases q1:x1.toNat<LO
        ·have q1z:(x1.toNat:Int)<(LO:Int):=by omega
         go_quiet (fail)
         go_wp2
         go_meet
         exact⟨congrArg Value.bool (i6 (p:=m+1<2∨x1.toNat<LO∨HI<x1.toNat) (by omega)).symm,i7 (D0.alloc D0.size _) _,fun j hj=>(B0 wr _ _ (by have:=D0.size;show b<_;omega)).trans (E0.out j hj)⟩
        ·have q1z:¬((x1.toNat:Int)<(LO:Int)):=by omega
         by_cases q2:HI<x1.toNat
         ·have q2z:(HI:Int)<(x1.toNat:Int):=by omega
          go_quiet (fail)
          go_wp2
          go_meet
          exact⟨congrArg Value.bool (i6 (p:=m+1<2∨x1.toNat<LO∨HI<x1.toNat) (by omega)).symm,i7 (D0.alloc D0.size _) _,fun j hj=>(B0 wr _ _ (by have:=D0.size;show b<_;omega)).trans (E0.out j hj)⟩
         ·have q2z:¬((HI:Int)<(x1.toNat:Int)):=by omega
          go_quiet (fail)
          go_wp2
          go_meet
          exact⟨congrArg Value.bool (f8 (p:=m+1<2∨x1.toNat<LO∨HI<x1.toNat) (by omega)).symm,i7 (D0.alloc D0.size _) _,fun j hj=>(B0 wr _ _ (by have:=D0.size;show b<_;omega)).trans (E0.out j hj)⟩
     case rest =>
      obtain⟨rfl,E6,E7⟩:=hcut;have E8:=a8 E7;clear E7;by_cases hb:m+1<2∨x1.toNat<LO∨HI<x1.toNat
      ·as_aux_lemma =>
        have L0:decide (m+1<2∨x1.toNat<LO∨HI<x1.toNat)=true:=i6 hb;have E1:=E2.out;rw[g8 hb]at E1;have E3:=a8 E1;clear E1 E2;go_wp2
        all_goals (go_ret;exact⟨by rw[E3.out];rfl,E6⟩)
      ·as_aux_lemma =>
        have L0:decide (m+1<2∨x1.toNat<LO∨HI<x1.toNat)=false:=f8 hb;have E1:=E2.out;rw[f6 hb]at E1;have E3:=a8 E1.symm;clear E1 E2;by_cases hq:m+1=2
        ·obtain rfl:m=1:=by omega
         go_wp2
         go_roundg g'
         case measure=>omega
         case rel=>exact U9 (k:=2) E6 E4 HN.out E8.out E3.out (fun h=>by omega) (by omega) (by omega) (by omega)
        ·have S2:(2:Int)<(m:Int)+1:=by omega
         go_wp2
         go_roundg g'
         case measure=>omega
         case rel=>exact U9 (k:=2) E6 E4 HN.out E8.out E3.out (fun _=>rfl) (by omega) (by omega) (by omega)
    by_cases s3:SZ=3
    ·subst s3
     have J9:(X:Int)%8=3:=by omega
     simp only[Lib.checkN,Nat.reduceEqDiff,if_true,if_false]at D9;have E2:=a8 D9;clear D9
     go_upto_region 22 with fail
     go_cut [138]from 108 to 138 (fun c wx=>c=.bool (decide (m+1<3∨x1.toNat<LO∨HI<x1.toNat∨x2.toNat<128∨191<x2.toNat))/\Below w.heap.size w wx/\∀j (hj:j<ts.length),wx.cell? ⟨b,o+j,none⟩=some (.int .u8 (ts[j].toNat:Int)))
     case first =>
      as_aux_lemma =>
       by_cases q0:m+1<3
       ·have q0z:(m:Int)+1<3:=by omega
        go_quiet (fail)
        go_wp2
        go_meet
        exact⟨congrArg Value.bool (i6 (p:=m+1<3∨x1.toNat<LO∨HI<x1.toNat∨x2.toNat<128∨191<x2.toNat) (by omega)).symm,i7 (D0.alloc D0.size _) _,fun j hj=>(B0 wr _ _ (by have:=D0.size;show b<_;omega)).trans (E0.out j hj)⟩
       ·have q0z:¬((m:Int)+1<3):=by omega
        have z1:(1:Int)<(m:Int)+1:=by omega
        have e1:=D1.out (by omega)
        have z2:(2:Int)<(m:Int)+1:=by omega
        have e2:=D2.out (by omega)
        by_cases q1:x1.toNat<LO
        ·have q1z:(x1.toNat:Int)<(LO:Int):=by omega
         go_quiet (fail)
         go_wp2
         go_meet
         exact⟨congrArg Value.bool (i6 (p:=m+1<3∨x1.toNat<LO∨HI<x1.toNat∨x2.toNat<128∨191<x2.toNat) (by omega)).symm,i7 (D0.alloc D0.size _) _,fun j hj=>(B0 wr _ _ (by have:=D0.size;show b<_;omega)).trans (E0.out j hj)⟩
        ·have q1z:¬((x1.toNat:Int)<(LO:Int)):=by omega
         by_cases q2:HI<x1.toNat
         ·have q2z:(HI:Int)<(x1.toNat:Int):=by omega
          go_quiet (fail)
          go_wp2
          go_meet
          exact⟨congrArg Value.bool (i6 (p:=m+1<3∨x1.toNat<LO∨HI<x1.toNat∨x2.toNat<128∨191<x2.toNat) (by omega)).symm,i7 (D0.alloc D0.size _) _,fun j hj=>(B0 wr _ _ (by have:=D0.size;show b<_;omega)).trans (E0.out j hj)⟩
         ·have q2z:¬((HI:Int)<(x1.toNat:Int)):=by omega
          by_cases q3:x2.toNat<128
          ·have q3z:(x2.toNat:Int)<128:=by omega
           go_quiet (fail)
           go_wp2
           go_meet
           exact⟨congrArg Value.bool (i6 (p:=m+1<3∨x1.toNat<LO∨HI<x1.toNat∨x2.toNat<128∨191<x2.toNat) (by omega)).symm,i7 (D0.alloc D0.size _) _,fun j hj=>(B0 wr _ _ (by have:=D0.size;show b<_;omega)).trans (E0.out j hj)⟩
          ·have q3z:¬((x2.toNat:Int)<128):=by omega
           by_cases q4:191<x2.toNat
           ·have q4z:(191:Int)<(x2.toNat:Int):=by omega
            go_quiet (fail)
            go_wp2
            go_meet
            exact⟨congrArg Value.bool (i6 (p:=m+1<3∨x1.toNat<LO∨HI<x1.toNat∨x2.toNat<128∨191<x2.toNat) (by omega)).symm,i7 (D0.alloc D0.size _) _,fun j hj=>(B0 wr _ _ (by have:=D0.size;show b<_;omega)).trans (E0.out j hj)⟩
           ·have q4z:¬((191:Int)<(x2.toNat:Int)):=by omega
            go_quiet (fail)
            go_wp2
            go_meet
            exact⟨congrArg Value.bool (f8 (p:=m+1<3∨x1.toNat<LO∨HI<x1.toNat∨x2.toNat<128∨191<x2.toNat) (by omega)).symm,i7 (D0.alloc D0.size _) _,fun j hj=>(B0 wr _ _ (by have:=D0.size;show b<_;omega)).trans (E0.out j hj)⟩
     case rest =>
      obtain⟨rfl,E6,E7⟩:=hcut;have E8:=a8 E7;clear E7;by_cases hb:m+1<3∨x1.toNat<LO∨HI<x1.toNat∨x2.toNat<128∨191<x2.toNat
      ·as_aux_lemma =>
        have L0:decide (m+1<3∨x1.toNat<LO∨HI<x1.toNat∨x2.toNat<128∨191<x2.toNat)=true:=i6 hb;have E1:=E2.out;rw[g8 hb]at E1;have E3:=a8 E1;clear E1 E2;go_wp2
        all_goals (go_ret;exact⟨by rw[E3.out];rfl,E6⟩)
      ·as_aux_lemma =>
        have L0:decide (m+1<3∨x1.toNat<LO∨HI<x1.toNat∨x2.toNat<128∨191<x2.toNat)=false:=f8 hb;have E1:=E2.out;rw[f6 hb]at E1;have E3:=a8 E1.symm;clear E1 E2;by_cases hq:m+1=3
        ·obtain rfl:m=2:=by omega
         go_wp2
         go_roundg g'
         case measure=>omega
         case rel=>exact U9 (k:=3) E6 E4 HN.out E8.out E3.out (fun h=>by omega) (by omega) (by omega) (by omega)
        ·have S3:(3:Int)<(m:Int)+1:=by omega
         go_wp2
         go_roundg g'
         case measure=>omega
         case rel=>exact U9 (k:=3) E6 E4 HN.out E8.out E3.out (fun _=>rfl) (by omega) (by omega) (by omega)
    by_cases s4:SZ=4
    ·subst s4
     have J9:(X:Int)%8=4:=by omega
     simp only[Lib.checkN,Nat.reduceEqDiff,if_true,if_false]at D9;have E2:=a8 D9;clear D9
     go_upto_region 26 with fail
     go_cut [185]from 143 to 185 (fun c wx=>c=.bool (decide (m+1<4∨x1.toNat<LO∨HI<x1.toNat∨x2.toNat<128∨191<x2.toNat∨x3.toNat<128∨191<x3.toNat))/\Below w.heap.size w wx/\∀j (hj:j<ts.length),wx.cell? ⟨b,o+j,none⟩=some (.int .u8 (ts[j].toNat:Int)))
     case first =>
      as_aux_lemma =>
       by_cases q0:m+1<4
       ·have q0z:(m:Int)+1<4:=by omega
        go_quiet (fail)
        go_wp2
        go_meet
        exact⟨congrArg Value.bool (i6 (p:=m+1<4∨x1.toNat<LO∨HI<x1.toNat∨x2.toNat<128∨191<x2.toNat∨x3.toNat<128∨191<x3.toNat) (by omega)).symm,i7 (D0.alloc D0.size _) _,fun j hj=>(B0 wr _ _ (by have:=D0.size;show b<_;omega)).trans (E0.out j hj)⟩
       ·have q0z:¬((m:Int)+1<4):=by omega
        have z1:(1:Int)<(m:Int)+1:=by omega
        have e1:=D1.out (by omega)
        have z2:(2:Int)<(m:Int)+1:=by omega
        have e2:=D2.out (by omega)
        have z3:(3:Int)<(m:Int)+1:=by omega
        have e3:=D3.out (by omega)
        by_cases q1:x1.toNat<LO
        ·have q1z:(x1.toNat:Int)<(LO:Int):=by omega
         go_quiet (fail)
         go_wp2
         go_meet
         exact⟨congrArg Value.bool (i6 (p:=m+1<4∨x1.toNat<LO∨HI<x1.toNat∨x2.toNat<128∨191<x2.toNat∨x3.toNat<128∨191<x3.toNat) (by omega)).symm,i7 (D0.alloc D0.size _) _,fun j hj=>(B0 wr _ _ (by have:=D0.size;show b<_;omega)).trans (E0.out j hj)⟩
        ·have q1z:¬((x1.toNat:Int)<(LO:Int)):=by omega
         by_cases q2:HI<x1.toNat
         ·have q2z:(HI:Int)<(x1.toNat:Int):=by omega
          go_quiet (fail)
          go_wp2
          go_meet
          exact⟨congrArg Value.bool (i6 (p:=m+1<4∨x1.toNat<LO∨HI<x1.toNat∨x2.toNat<128∨191<x2.toNat∨x3.toNat<128∨191<x3.toNat) (by omega)).symm,i7 (D0.alloc D0.size _) _,fun j hj=>(B0 wr _ _ (by have:=D0.size;show b<_;omega)).trans (E0.out j hj)⟩
         ·have q2z:¬((HI:Int)<(x1.toNat:Int)):=by omega
          by_cases q3:x2.toNat<128
          ·have q3z:(x2.toNat:Int)<128:=by omega
           go_quiet (fail)
           go_wp2
           go_meet
           exact⟨congrArg Value.bool (i6 (p:=m+1<4∨x1.toNat<LO∨HI<x1.toNat∨x2.toNat<128∨191<x2.toNat∨x3.toNat<128∨191<x3.toNat) (by omega)).symm,i7 (D0.alloc D0.size _) _,fun j hj=>(B0 wr _ _ (by have:=D0.size;show b<_;omega)).trans (E0.out j hj)⟩
          ·have q3z:¬((x2.toNat:Int)<128):=by omega
           by_cases q4:191<x2.toNat
           ·have q4z:(191:Int)<(x2.toNat:Int):=by omega
            go_quiet (fail)
            go_wp2
            go_meet
            exact⟨congrArg Value.bool (i6 (p:=m+1<4∨x1.toNat<LO∨HI<x1.toNat∨x2.toNat<128∨191<x2.toNat∨x3.toNat<128∨191<x3.toNat) (by omega)).symm,i7 (D0.alloc D0.size _) _,fun j hj=>(B0 wr _ _ (by have:=D0.size;show b<_;omega)).trans (E0.out j hj)⟩
           ·have q4z:¬((191:Int)<(x2.toNat:Int)):=by omega
            by_cases q5:x3.toNat<128
            ·have q5z:(x3.toNat:Int)<128:=by omega
             go_quiet (fail)
             go_wp2
             go_meet
             exact⟨congrArg Value.bool (i6 (p:=m+1<4∨x1.toNat<LO∨HI<x1.toNat∨x2.toNat<128∨191<x2.toNat∨x3.toNat<128∨191<x3.toNat) (by omega)).symm,i7 (D0.alloc D0.size _) _,fun j hj=>(B0 wr _ _ (by have:=D0.size;show b<_;omega)).trans (E0.out j hj)⟩
            ·have q5z:¬((x3.toNat:Int)<128):=by omega
             by_cases q6:191<x3.toNat
             ·have q6z:(191:Int)<(x3.toNat:Int):=by omega
              go_quiet (fail)
              go_wp2
              go_meet
              exact⟨congrArg Value.bool (i6 (p:=m+1<4∨x1.toNat<LO∨HI<x1.toNat∨x2.toNat<128∨191<x2.toNat∨x3.toNat<128∨191<x3.toNat) (by omega)).symm,i7 (D0.alloc D0.size _) _,fun j hj=>(B0 wr _ _ (by have:=D0.size;show b<_;omega)).trans (E0.out j hj)⟩
             ·have q6z:¬((191:Int)<(x3.toNat:Int)):=by omega
              go_quiet (fail)
              go_wp2
              go_meet
              exact⟨congrArg Value.bool (f8 (p:=m+1<4∨x1.toNat<LO∨HI<x1.toNat∨x2.toNat<128∨191<x2.toNat∨x3.toNat<128∨191<x3.toNat) (by omega)).symm,i7 (D0.alloc D0.size _) _,fun j hj=>(B0 wr _ _ (by have:=D0.size;show b<_;omega)).trans (E0.out j hj)⟩
     case rest =>
      obtain⟨rfl,E6,E7⟩:=hcut;have E8:=a8 E7;clear E7;by_cases hb:m+1<4∨x1.toNat<LO∨HI<x1.toNat∨x2.toNat<128∨191<x2.toNat∨x3.toNat<128∨191<x3.toNat
      ·as_aux_lemma =>
        have L0:decide (m+1<4∨x1.toNat<LO∨HI<x1.toNat∨x2.toNat<128∨191<x2.toNat∨x3.toNat<128∨191<x3.toNat)=true:=i6 hb;have E1:=E2.out;rw[g8 hb]at E1;have E3:=a8 E1;clear E1 E2;go_wp2
        all_goals (go_ret;exact⟨by rw[E3.out];rfl,E6⟩)
      ·as_aux_lemma =>
        have L0:decide (m+1<4∨x1.toNat<LO∨HI<x1.toNat∨x2.toNat<128∨191<x2.toNat∨x3.toNat<128∨191<x3.toNat)=false:=f8 hb;have E1:=E2.out;rw[f6 hb]at E1;have E3:=a8 E1.symm;clear E1 E2;by_cases hq:m+1=4
        ·obtain rfl:m=3:=by omega
         go_wp2
         go_roundg g'
         case measure=>omega
         case rel=>exact U9 (k:=4) E6 E4 HN.out E8.out E3.out (fun h=>by omega) (by omega) (by omega) (by omega)
        ·have S4:(4:Int)<(m:Int)+1:=by omega
         go_wp2
         go_roundg g'
         case measure=>omega
         case rel=>exact U9 (k:=4) E6 E4 HN.out E8.out E3.out (fun _=>rfl) (by omega) (by omega) (by omega)
    have S7:((X:Int)%8==2)=false:=by rw[e9];omega
    have S8:((X:Int)%8==3)=false:=by rw[e9];omega
    have S9:((X:Int)%8==4)=false:=by rw[e9];omega
    simp only[Lib.checkN,f6 s2,f6 s3,f6 s4]at D9;have E2:=a8 D9;clear D9;clear P7;go_wp2;go_ret;exact⟨by rw[E2.out];rfl,D0.alloc D0.size _⟩
  ·as_aux_lemma =>
    have e0:ts=[]:=j8 (by omega)
    subst e0;go_wp2;go_ret;exact⟨by rw[<-HV.out];rfl,D0⟩
end Go.Proofs.YtlgcigmolfhamaaGreatDoor
