/-
  utf8.Valid of a slice of bytes. Conditions: the two tables of unicode/utf8 lie as they are laid.
-/
import Derived.Test.YteinegfbpfhflaaGreatDoorM00
import Derived.Deep.LoopGhost
import Derived.Deep.DeepMust
import Derived.Deep.CutBlock
import Derived.Deep.DeepCutAuto
namespace Go.Proofs.YteinegfbpfhflaaGreatDoor
open Go.RowKit
set_option maxHeartbeats 16000000
set_option maxRecDepth 1000000
theorem zB(A:Option Addr)(c:Nat)(bs:List UInt8)(w:World)(hT:qw w)(hl:en w w.heap.size A (ec bs))(hc:bs.length<=c)(hcm:c<=9223372036854775807) :
 Calls Tryz.prog 81 #[.slice A bs.length c] w fun e w'=>e=.returned (.bool (Lib.validD bs))/\Below w.heap.size w w':=by
 have h2:=hT.two;obtain⟨ANS,hANS⟩ : ∃ANS,Lib.validD bs=ANS:=⟨_,rfl⟩;rw[hANS];have HA:=aa hANS;clear hANS;have hbz:(bs.length:Int)<=c:=by omega
 go_enter Tryz.func81,Tryz.ntmps81;go_wp2
 go_loopg [0] (bs.length+1) (yh w bs.length ANS)
 case atStart=>exact⟨ae _ _,A,bs,rfl,hl,HA.out,by omega,af _⟩
 case round =>
  obtain⟨hbw,A1,ts,rfl,hlt,hv,hg,hts⟩:=hrel;clear hl HA hbz;have HV:=aa hv;clear hv;by_cases h0:0<ts.length
  ·obtain⟨g',rfl⟩ : ∃g',gk=g'+1:=⟨gk-1,by omega⟩
   obtain⟨b,o,rfl,hbB,hcell⟩:=jG hlt h0;have hTr:=hT.below (B:=w.heap.size) h2 hbw;have HT:=aa hTr;clear hTr hlt;have HCe:=aa hcell;have c0:=rZ hcell 0 h0;rw[Nat.add_zero]at c0;clear hcell;obtain⟨x0,hx0⟩ : ∃x0,ts.getD 0 0=x0:=⟨_,rfl⟩;rw[hx0]at c0;have HX0:=aa hx0;clear hx0;obtain⟨m,hn⟩ : ∃m,ts.length=m+1:=⟨ts.length-1,by omega⟩
   have HN:=aa hn;rw[hn]at hts hg ⊢;clear hn h0;have hx0lt:x0.toNat<256:=x0.toNat_lt;by_cases hasc:x0.toNat<128
   ·have hascz:(x0.toNat:Int)<128:=by omega
    clear HT
    have hv1:Lib.validD (ts.drop 1)=ANS:=jv HV.out 1 (by
     intro x hx;rw[Ca (by have:=HN.out;omega),HX0.out]at hx
     simp at hx;rw[hx];exact hasc)
    have HV1:=aa hv1;clear hv1;by_cases c8:8<m
    ·obtain⟨m8,rfl⟩ : ∃m8,m=m8+8:=⟨m-8,by omega⟩
     have hne:¬m8=0:=by omega
     have hnz:(0:Int)<(m8:Int):=by omega
     have hl1:(ts.drop 1).length=m8+8:=by rw[bq,HN.out];omega
     obtain⟨W1,Z1,k1,m1,z1⟩:=Hw b (o+1) (m8+8) (m8+8) (ts.drop 1) wr (by omega) hl1 (by omega) (fi 1 HCe.out)
     have Hl1:=aa hl1;clear hl1;have K1:=aa k1;clear k1;have Hz:=aa z1;clear z1;by_cases hz1:Z1=0
     ·as_aux_lemma =>
       have hz1b:((Z1:Int)==0)=true:=by simp[hz1]
       have HV9:=aa (jv HV1.out 8 (Hz.out hz1));clear Hz hz1
       go_wp2_with (go_at_call 121;refine(K1.out 0).mono ?_;rintro e w' ⟨rfl,q1,rfl⟩)
       have hb1:Below w.heap.size w (wr.drewN q1):=ay hbw q1;have hc9:∀j (hj:j<((ts.drop 1).drop 8).length),(wr.drewN q1).cell? ⟨b,o+1+8+j,none⟩=some (.int .u8 (((ts.drop 1).drop 8)[j].toNat:Int)):=fi 8 (fi 1 HCe.out);have hl9:((ts.drop 1).drop 8).length=m8:=by rw[bq,Hl1.out];omega
       generalize wr.drewN q1=wq at hb1 hc9 ⊢;have HV9':=HV9.out;generalize (ts.drop 1).drop 8=t9 at hc9 hl9 HV9';have HC9:=aa hc9;clear hc9;have HL9:=aa hl9;clear hl9;have HW9:=aa HV9';clear HV9' HV9;clear K1 Hl1 m1 hz1b;by_cases c16:16<m8
       ·obtain⟨m24,rfl⟩ : ∃m24,m8=m24+16:=⟨m8-16,by omega⟩
        have hne4:¬m24=0:=by omega
        have hnz4:(0:Int)<(m24:Int):=by omega
        have c16z:(16:Int)<(m24:Int)+16:=by omega
        obtain⟨W2,W3,O2,Z2,k2,k3,o2,_,a2,z2⟩:=CB b (o+1+8) (m24+16) (m24+16) (m24+8) (m24+8) t9 wq (by rw[HL9.out];omega) HL9.out (by omega) (by omega) HC9.out
        rename_i lo2;clear lo2;have K2:=aa k2;clear k2;have K3:=aa k3;clear k3;have Hz2:=aa z2;clear z2;by_cases hz2:Z2=0
        ·as_aux_lemma =>
          have hz2b:((Z2:Int)==0)=true:=by simp[hz2]
          have HV25:=aa (jv HW9.out 16 (Hz2.out hz2));clear Hz2 hz2
          go_quiet ((first|(go_at_call 121;with_reducible refine Calls.quiet_of (K2.out _))|(go_at_call 121;with_reducible refine Calls.quiet_of (K3.out _))))
          go_wp2;have hb2:Below w.heap.size w (wq.drewN nq):=ay hb1 nq;have hc25:∀j (hj:j<(t9.drop 16).length),(wq.drewN nq).cell? ⟨b,o+1+8+16+j,none⟩=some (.int .u8 ((t9.drop 16)[j].toNat:Int)):=fi 16 HC9.out;have hl25:(t9.drop 16).length=m24:=by rw[bq,HL9.out];omega
          generalize wq.drewN nq=wq2 at hb2 hc25 ⊢;have R0:=kF (g:=m24+1) (N:=m24) hb2 hbB hl25 hc25 HV25.out (by omega) (af _)
          clear hc25 hl25 HV25 K2 K3 o2 a2 hz2b HC9 HL9 HW9 HCe HN HV HV1 HX0 c0 hb2 hb1 hbw
          go_loopg [0] (m24+1) (yh w m24 ANS)
          case atStart=>exact R0
          case round =>
           clear R0;obtain⟨hbu,A3,us,rfl,hlu,hvu,hgu,hus⟩:=hrel;have HVU:=aa hvu;clear hvu;by_cases c32:32<us.length
           ·obtain⟨g3,rfl⟩ : ∃g3,gk=g3+1:=⟨gk-1,by omega⟩
            obtain⟨b2,p,rfl,hbB2,hcu⟩:=jG hlu (by omega)
            have HCU:=aa hcu;clear hcu hlu;obtain⟨m5,hm5⟩ : ∃m5,us.length=m5+32:=⟨us.length-32,by omega⟩
            have HLU:=aa hm5;rw[hm5]at c32 hgu hus ⊢;clear hm5;have hne5:¬m5=0:=by omega
            have hnz5:(0:Int)<(m5:Int):=by omega
            have c32z:(32:Int)<(m5:Int)+32:=by omega
            obtain⟨W0,W1',W2',W3',P1,P2,P3,Z3,k0,k1,k2,k3,o1,o2,o3,a3,z3⟩:=Hv b2 p (m5+32) (m5+32) (m5+24) (m5+24) (m5+16) (m5+16) (m5+8) (m5+8) us wr (by rw[HLU.out];omega) HLU.out (by omega) (by omega) (by omega) (by omega) HCU.out
            have K0:=aa k0;clear k0;have K1:=aa k1;clear k1;have K2:=aa k2;clear k2;have K3:=aa k3;clear k3;have Hz3:=aa z3;clear z3;by_cases hz3:Z3=0
            ·as_aux_lemma =>
              have hz3b:((Z3:Int)==0)=true:=by simp[hz3]
              have HV3:=aa (jv HVU.out 32 (Hz3.out hz3));clear Hz3 hz3
              go_wp2_with fail
              go_quiet ((first|(go_at_call 121;with_reducible refine Calls.quiet_of (K0.out _))|(go_at_call 121;with_reducible refine Calls.quiet_of (K1.out _))|(go_at_call 121;with_reducible refine Calls.quiet_of (K2.out _))|(go_at_call 121;with_reducible refine Calls.quiet_of (K3.out _))))
              go_wp2
              go_roundg g3
              case measure=>omega
              case rel=>exact eX (k:=32) (ay hbu nq) hbB2 HLU.out HCU.out HV3.out (fun _=>rfl) (by omega) (by omega) (by omega)
            ·as_aux_lemma =>
              have hz3b:((Z3:Int)==0)=false:=by simp;omega
              clear Hz3 hz3
              go_wp2_with fail
              go_quiet ((first|(go_at_call 121;with_reducible refine Calls.quiet_of (K0.out _))|(go_at_call 121;with_reducible refine Calls.quiet_of (K1.out _))|(go_at_call 121;with_reducible refine Calls.quiet_of (K2.out _))|(go_at_call 121;with_reducible refine Calls.quiet_of (K3.out _))))
              go_wp2
              go_roundg g'
              case measure=>omega
              case rel=>exact kF (ay hbu nq) hbB2 HLU.out HCU.out HVU.out (by omega) (by omega)
           ·as_aux_lemma =>
             have c32z:¬((32:Int)<(us.length:Int)):=by omega
             have c32b:decide ((32:Int)<(us.length:Int))=false:=ap c32z
             go_wp2_with fail
             go_quiet (fail)
             go_wp2
             go_roundg g'
             case measure=>omega
             case rel=>exact⟨ay hbu nq,A3,us,rfl,hlu,HVU.out,by omega,by omega⟩
        ·as_aux_lemma =>
          have hz2b:((Z2:Int)==0)=false:=by simp;omega
          clear Hz2 hz2
          go_quiet ((first|(go_at_call 121;with_reducible refine Calls.quiet_of (K2.out _))|(go_at_call 121;with_reducible refine Calls.quiet_of (K3.out _))))
          go_wp2
          go_roundg g'
          case measure=>omega
          case rel=>exact kF (ay hb1 nq) hbB HL9.out HC9.out HW9.out (by omega) (by omega)
       ·as_aux_lemma =>
         have c16z:¬((16:Int)<(m8:Int)):=by omega
         have c16b:decide ((16:Int)<(m8:Int))=false:=ap c16z
         go_quiet (fail)
         go_wp2
         go_roundg g'
         case measure=>omega
         case rel=>exact kF (ay hb1 nq) hbB HL9.out HC9.out HW9.out (by omega) (by omega)
     ·as_aux_lemma =>
       have hz1b:((Z1:Int)==0)=false:=by simp;omega
       clear Hz hz1
       go_wp2_with (go_at_call 121;refine(K1.out 0).mono ?_;rintro e w' ⟨rfl,q1,rfl⟩)
       go_roundg g'
       case measure=>omega
       case rel=>exact eX (k:=1) (ay hbw q1) hbB HN.out HCe.out HV1.out (fun _=>rfl) (by omega) (by omega) (by omega)
    ·as_aux_lemma =>
      have c8z:¬(8:Int)<(m:Int):=by omega
      by_cases h1:m=0
      ·subst h1
       go_wp2
       go_roundg g'
       case measure=>omega
       case rel=>exact eX (k:=1) hbw hbB HN.out HCe.out HV1.out (fun h=>by omega) (by omega) (by omega) (by omega)
      ·go_wp2
       go_roundg g'
       case measure=>omega
       case rel=>exact eX (k:=1) hbw hbB HN.out HCe.out HV1.out (fun _=>rfl) (by omega) (by omega) (by omega)
   ·have hge:128<=x0.toNat:=by omega
    have hascz:¬((x0.toNat:Int)<128):=by omega
    have hne:ts≠[]:=fun h=>by have:=HN.out;rw[h]at this;simp at this
    have hlead:=Lib.validD_lead ts hne (by rw[HX0.out];exact hge)
    rw[HX0.out,HN.out,HV.out]at hlead;obtain⟨x1,hx1⟩ : ∃x1,ts.getD 1 0=x1:=⟨_,rfl⟩;obtain⟨x2,hx2⟩ : ∃x2,ts.getD 2 0=x2:=⟨_,rfl⟩;obtain⟨x3,hx3⟩ : ∃x3,ts.getD 3 0=x3:=⟨_,rfl⟩;rw[hx1,hx2,hx3]at hlead;have hd:∀j,j<m+1->wr.cell? ⟨b,o+j,none⟩=some (.int .u8 ((ts.getD j 0).toNat:Int)):=fun j hj=>rZ HCe.out j (by rw[HN.out];exact hj)
    have d1:1<m+1->∀O,(wr.alloc O).cell? ⟨b,o+1,none⟩=some (.int .u8 (x1.toNat:Int)):=fun hj O=>by rw[bk wr O _ (by have:=hbw.size;show b<_;omega),hd 1 hj,hx1]
    have d2:2<m+1->∀O,(wr.alloc O).cell? ⟨b,o+2,none⟩=some (.int .u8 (x2.toNat:Int)):=fun hj O=>by rw[bk wr O _ (by have:=hbw.size;show b<_;omega),hd 2 hj,hx2]
    have d3:3<m+1->∀O,(wr.alloc O).cell? ⟨b,o+3,none⟩=some (.int .u8 (x3.toNat:Int)):=fun hj O=>by rw[bk wr O _ (by have:=hbw.size;show b<_;omega),hd 3 hj,hx3]
    have l1:=x1.toNat_lt;have l2:=x2.toNat_lt;have l3:=x3.toNat_lt
    have hc0:=HT.out.1 x0.toNat hx0lt
    have hXlt:Lib.firstT x0.toNat<256:=by unfold Lib.firstT;repeat' split
                                          all_goals omega
    obtain⟨X,hX⟩ : ∃X,Lib.firstT x0.toNat=X:=⟨_,rfl⟩;rw[hX]at hc0 hXlt hlead;have h7:=Ji ⟨X,hXlt⟩;simp only at h7;have ha0:wr.cell? ⟨1,X/16*2,none⟩=some (.int .u8 (Lib.accLo (X/16))):=by rw[Nat.mul_comm];exact(HT.out.2 (X/16) (by omega)).1
    have ha1:wr.cell? ⟨1,X/16*2+1,none⟩=some (.int .u8 (Lib.accHi (X/16))):=by rw[Nat.mul_comm];exact(HT.out.2 (X/16) (by omega)).2
    obtain⟨LO,hLO⟩ : ∃LO,Lib.accLo (X/16)=LO:=⟨_,rfl⟩;obtain⟨HI,hHI⟩ : ∃HI,Lib.accHi (X/16)=HI:=⟨_,rfl⟩;rw[hLO]at ha0 hlead;rw[hHI]at ha1 hlead;obtain⟨SZ,hSZ⟩ : ∃SZ,X%8=SZ:=⟨_,rfl⟩;rw[hSZ]at hlead;have D1:=aa d1;have D2:=aa d2;have D3:=aa d3
    clear hX hLO hHI hne hd d1 d2 d3 hx1 hx2 hx3 HT HV HX0;by_cases s2:SZ=2
    ·subst s2
     have hSZz:(X:Int)%8=2:=by omega
     simp only[Lib.checkN,Nat.reduceEqDiff,if_true,if_false]at hlead;have HLd:=aa hlead;clear hlead
     go_upto_region 18 with fail
     go_cut [103]from 85 to 103 (fun c wx=>c=.bool (decide (m+1<2∨x1.toNat<LO∨HI<x1.toNat))/\Below w.heap.size w wx/\∀j (hj:j<ts.length),wx.cell? ⟨b,o+j,none⟩=some (.int .u8 (ts[j].toNat:Int)))
     case first =>
      as_aux_lemma =>
       by_cases q0:m+1<2
       ·have q0z:(m:Int)+1<2:=by omega
        go_quiet (fail)
        go_wp2
        go_meet
        exact⟨congrArg Value.bool (ax (p:=m+1<2∨x1.toNat<LO∨HI<x1.toNat) (by omega)).symm,ay (hbw.alloc hbw.size _) _,fun j hj=>(bk wr _ _ (by have:=hbw.size;show b<_;omega)).trans (HCe.out j hj)⟩
       ·have q0z:¬((m:Int)+1<2):=by omega
        have z1:(1:Int)<(m:Int)+1:=by omega
        have e1:=D1.out (by omega)
        by_cases q1:x1.toNat<LO
        ·have q1z:(x1.toNat:Int)<(LO:Int):=by omega
         go_quiet (fail)
         go_wp2
         go_meet
         exact⟨congrArg Value.bool (ax (p:=m+1<2∨x1.toNat<LO∨HI<x1.toNat) (by omega)).symm,ay (hbw.alloc hbw.size _) _,fun j hj=>(bk wr _ _ (by have:=hbw.size;show b<_;omega)).trans (HCe.out j hj)⟩
        ·have q1z:¬((x1.toNat:Int)<(LO:Int)):=by omega
         by_cases q2:HI<x1.toNat
         ·have q2z:(HI:Int)<(x1.toNat:Int):=by omega
          go_quiet (fail)
          go_wp2
          go_meet
          exact⟨congrArg Value.bool (ax (p:=m+1<2∨x1.toNat<LO∨HI<x1.toNat) (by omega)).symm,ay (hbw.alloc hbw.size _) _,fun j hj=>(bk wr _ _ (by have:=hbw.size;show b<_;omega)).trans (HCe.out j hj)⟩
         ·have q2z:¬((HI:Int)<(x1.toNat:Int)):=by omega
          go_quiet (fail)
          go_wp2
          go_meet
          exact⟨congrArg Value.bool (ap (p:=m+1<2∨x1.toNat<LO∨HI<x1.toNat) (by omega)).symm,ay (hbw.alloc hbw.size _) _,fun j hj=>(bk wr _ _ (by have:=hbw.size;show b<_;omega)).trans (HCe.out j hj)⟩
     case rest =>
      obtain⟨rfl,hbc,hcc⟩:=hcut;have HCC:=aa hcc;clear hcc;by_cases hb:m+1<2∨x1.toNat<LO∨HI<x1.toNat
      ·as_aux_lemma =>
        have hbd:decide (m+1<2∨x1.toNat<LO∨HI<x1.toNat)=true:=ax hb;have hld:=HLd.out;rw[av hb]at hld;have HLf:=aa hld;clear hld HLd;go_wp2
        all_goals (go_ret;exact⟨by rw[HLf.out];rfl,hbc⟩)
      ·as_aux_lemma =>
        have hbd:decide (m+1<2∨x1.toNat<LO∨HI<x1.toNat)=false:=ap hb;have hld:=HLd.out;rw[am hb]at hld;have HLf:=aa hld.symm;clear hld HLd;by_cases hq:m+1=2
        ·obtain rfl:m=1:=by omega
         go_wp2
         go_roundg g'
         case measure=>omega
         case rel=>exact eX (k:=2) hbc hbB HN.out HCC.out HLf.out (fun h=>by omega) (by omega) (by omega) (by omega)
        ·have hge2:(2:Int)<(m:Int)+1:=by omega
         go_wp2
         go_roundg g'
         case measure=>omega
         case rel=>exact eX (k:=2) hbc hbB HN.out HCC.out HLf.out (fun _=>rfl) (by omega) (by omega) (by omega)
    by_cases s3:SZ=3
    ·subst s3
     have hSZz:(X:Int)%8=3:=by omega
     simp only[Lib.checkN,Nat.reduceEqDiff,if_true,if_false]at hlead;have HLd:=aa hlead;clear hlead
     go_upto_region 22 with fail
     go_cut [138]from 108 to 138 (fun c wx=>c=.bool (decide (m+1<3∨x1.toNat<LO∨HI<x1.toNat∨x2.toNat<128∨191<x2.toNat))/\Below w.heap.size w wx/\∀j (hj:j<ts.length),wx.cell? ⟨b,o+j,none⟩=some (.int .u8 (ts[j].toNat:Int)))
     case first =>
      as_aux_lemma =>
       by_cases q0:m+1<3
       ·have q0z:(m:Int)+1<3:=by omega
        go_quiet (fail)
        go_wp2
        go_meet
        exact⟨congrArg Value.bool (ax (p:=m+1<3∨x1.toNat<LO∨HI<x1.toNat∨x2.toNat<128∨191<x2.toNat) (by omega)).symm,ay (hbw.alloc hbw.size _) _,fun j hj=>(bk wr _ _ (by have:=hbw.size;show b<_;omega)).trans (HCe.out j hj)⟩
       ·have q0z:¬((m:Int)+1<3):=by omega
        have z1:(1:Int)<(m:Int)+1:=by omega
        have e1:=D1.out (by omega)
        have z2:(2:Int)<(m:Int)+1:=by omega
        have e2:=D2.out (by omega)
        by_cases q1:x1.toNat<LO
        ·have q1z:(x1.toNat:Int)<(LO:Int):=by omega
         go_quiet (fail)
         go_wp2
         go_meet
         exact⟨congrArg Value.bool (ax (p:=m+1<3∨x1.toNat<LO∨HI<x1.toNat∨x2.toNat<128∨191<x2.toNat) (by omega)).symm,ay (hbw.alloc hbw.size _) _,fun j hj=>(bk wr _ _ (by have:=hbw.size;show b<_;omega)).trans (HCe.out j hj)⟩
        ·have q1z:¬((x1.toNat:Int)<(LO:Int)):=by omega
         by_cases q2:HI<x1.toNat
         ·have q2z:(HI:Int)<(x1.toNat:Int):=by omega
          go_quiet (fail)
          go_wp2
          go_meet
          exact⟨congrArg Value.bool (ax (p:=m+1<3∨x1.toNat<LO∨HI<x1.toNat∨x2.toNat<128∨191<x2.toNat) (by omega)).symm,ay (hbw.alloc hbw.size _) _,fun j hj=>(bk wr _ _ (by have:=hbw.size;show b<_;omega)).trans (HCe.out j hj)⟩
         ·have q2z:¬((HI:Int)<(x1.toNat:Int)):=by omega
          by_cases q3:x2.toNat<128
          ·have q3z:(x2.toNat:Int)<128:=by omega
           go_quiet (fail)
           go_wp2
           go_meet
           exact⟨congrArg Value.bool (ax (p:=m+1<3∨x1.toNat<LO∨HI<x1.toNat∨x2.toNat<128∨191<x2.toNat) (by omega)).symm,ay (hbw.alloc hbw.size _) _,fun j hj=>(bk wr _ _ (by have:=hbw.size;show b<_;omega)).trans (HCe.out j hj)⟩
          ·have q3z:¬((x2.toNat:Int)<128):=by omega
           by_cases q4:191<x2.toNat
           ·have q4z:(191:Int)<(x2.toNat:Int):=by omega
            go_quiet (fail)
            go_wp2
            go_meet
            exact⟨congrArg Value.bool (ax (p:=m+1<3∨x1.toNat<LO∨HI<x1.toNat∨x2.toNat<128∨191<x2.toNat) (by omega)).symm,ay (hbw.alloc hbw.size _) _,fun j hj=>(bk wr _ _ (by have:=hbw.size;show b<_;omega)).trans (HCe.out j hj)⟩
           ·have q4z:¬((191:Int)<(x2.toNat:Int)):=by omega
            go_quiet (fail)
            go_wp2
            go_meet
            exact⟨congrArg Value.bool (ap (p:=m+1<3∨x1.toNat<LO∨HI<x1.toNat∨x2.toNat<128∨191<x2.toNat) (by omega)).symm,ay (hbw.alloc hbw.size _) _,fun j hj=>(bk wr _ _ (by have:=hbw.size;show b<_;omega)).trans (HCe.out j hj)⟩
     case rest =>
      obtain⟨rfl,hbc,hcc⟩:=hcut;have HCC:=aa hcc;clear hcc;by_cases hb:m+1<3∨x1.toNat<LO∨HI<x1.toNat∨x2.toNat<128∨191<x2.toNat
      ·as_aux_lemma =>
        have hbd:decide (m+1<3∨x1.toNat<LO∨HI<x1.toNat∨x2.toNat<128∨191<x2.toNat)=true:=ax hb;have hld:=HLd.out;rw[av hb]at hld;have HLf:=aa hld;clear hld HLd;go_wp2
        all_goals (go_ret;exact⟨by rw[HLf.out];rfl,hbc⟩)
      ·as_aux_lemma =>
        have hbd:decide (m+1<3∨x1.toNat<LO∨HI<x1.toNat∨x2.toNat<128∨191<x2.toNat)=false:=ap hb;have hld:=HLd.out;rw[am hb]at hld;have HLf:=aa hld.symm;clear hld HLd;by_cases hq:m+1=3
        ·obtain rfl:m=2:=by omega
         go_wp2
         go_roundg g'
         case measure=>omega
         case rel=>exact eX (k:=3) hbc hbB HN.out HCC.out HLf.out (fun h=>by omega) (by omega) (by omega) (by omega)
        ·have hge3:(3:Int)<(m:Int)+1:=by omega
         go_wp2
         go_roundg g'
         case measure=>omega
         case rel=>exact eX (k:=3) hbc hbB HN.out HCC.out HLf.out (fun _=>rfl) (by omega) (by omega) (by omega)
    by_cases s4:SZ=4
    ·subst s4
     have hSZz:(X:Int)%8=4:=by omega
     simp only[Lib.checkN,Nat.reduceEqDiff,if_true,if_false]at hlead;have HLd:=aa hlead;clear hlead
     go_upto_region 26 with fail
     go_cut [185]from 143 to 185 (fun c wx=>c=.bool (decide (m+1<4∨x1.toNat<LO∨HI<x1.toNat∨x2.toNat<128∨191<x2.toNat∨x3.toNat<128∨191<x3.toNat))/\Below w.heap.size w wx/\∀j (hj:j<ts.length),wx.cell? ⟨b,o+j,none⟩=some (.int .u8 (ts[j].toNat:Int)))
     case first =>
      as_aux_lemma =>
       by_cases q0:m+1<4
       ·have q0z:(m:Int)+1<4:=by omega
        go_quiet (fail)
        go_wp2
        go_meet
        exact⟨congrArg Value.bool (ax (p:=m+1<4∨x1.toNat<LO∨HI<x1.toNat∨x2.toNat<128∨191<x2.toNat∨x3.toNat<128∨191<x3.toNat) (by omega)).symm,ay (hbw.alloc hbw.size _) _,fun j hj=>(bk wr _ _ (by have:=hbw.size;show b<_;omega)).trans (HCe.out j hj)⟩
       ·have q0z:¬((m:Int)+1<4):=by omega
        have z1:(1:Int)<(m:Int)+1:=by omega
        have e1:=D1.out (by omega)
        have z2:(2:Int)<(m:Int)+1:=by omega
        have e2:=D2.out (by omega)
        have z3:(3:Int)<(m:Int)+1:=by omega
        have e3:=D3.out (by omega)
        by_cases q1:x1.toNat<LO
        ·have q1z:(x1.toNat:Int)<(LO:Int):=by omega
         go_quiet (fail)
         go_wp2
         go_meet
         exact⟨congrArg Value.bool (ax (p:=m+1<4∨x1.toNat<LO∨HI<x1.toNat∨x2.toNat<128∨191<x2.toNat∨x3.toNat<128∨191<x3.toNat) (by omega)).symm,ay (hbw.alloc hbw.size _) _,fun j hj=>(bk wr _ _ (by have:=hbw.size;show b<_;omega)).trans (HCe.out j hj)⟩
        ·have q1z:¬((x1.toNat:Int)<(LO:Int)):=by omega
         by_cases q2:HI<x1.toNat
         ·have q2z:(HI:Int)<(x1.toNat:Int):=by omega
          go_quiet (fail)
          go_wp2
          go_meet
          exact⟨congrArg Value.bool (ax (p:=m+1<4∨x1.toNat<LO∨HI<x1.toNat∨x2.toNat<128∨191<x2.toNat∨x3.toNat<128∨191<x3.toNat) (by omega)).symm,ay (hbw.alloc hbw.size _) _,fun j hj=>(bk wr _ _ (by have:=hbw.size;show b<_;omega)).trans (HCe.out j hj)⟩
         ·have q2z:¬((HI:Int)<(x1.toNat:Int)):=by omega
          by_cases q3:x2.toNat<128
          ·have q3z:(x2.toNat:Int)<128:=by omega
           go_quiet (fail)
           go_wp2
           go_meet
           exact⟨congrArg Value.bool (ax (p:=m+1<4∨x1.toNat<LO∨HI<x1.toNat∨x2.toNat<128∨191<x2.toNat∨x3.toNat<128∨191<x3.toNat) (by omega)).symm,ay (hbw.alloc hbw.size _) _,fun j hj=>(bk wr _ _ (by have:=hbw.size;show b<_;omega)).trans (HCe.out j hj)⟩
          ·have q3z:¬((x2.toNat:Int)<128):=by omega
           by_cases q4:191<x2.toNat
           ·have q4z:(191:Int)<(x2.toNat:Int):=by omega
            go_quiet (fail)
            go_wp2
            go_meet
            exact⟨congrArg Value.bool (ax (p:=m+1<4∨x1.toNat<LO∨HI<x1.toNat∨x2.toNat<128∨191<x2.toNat∨x3.toNat<128∨191<x3.toNat) (by omega)).symm,ay (hbw.alloc hbw.size _) _,fun j hj=>(bk wr _ _ (by have:=hbw.size;show b<_;omega)).trans (HCe.out j hj)⟩
           ·have q4z:¬((191:Int)<(x2.toNat:Int)):=by omega
            by_cases q5:x3.toNat<128
            ·have q5z:(x3.toNat:Int)<128:=by omega
             go_quiet (fail)
             go_wp2
             go_meet
             exact⟨congrArg Value.bool (ax (p:=m+1<4∨x1.toNat<LO∨HI<x1.toNat∨x2.toNat<128∨191<x2.toNat∨x3.toNat<128∨191<x3.toNat) (by omega)).symm,ay (hbw.alloc hbw.size _) _,fun j hj=>(bk wr _ _ (by have:=hbw.size;show b<_;omega)).trans (HCe.out j hj)⟩
            ·have q5z:¬((x3.toNat:Int)<128):=by omega
             by_cases q6:191<x3.toNat
             ·have q6z:(191:Int)<(x3.toNat:Int):=by omega
              go_quiet (fail)
              go_wp2
              go_meet
              exact⟨congrArg Value.bool (ax (p:=m+1<4∨x1.toNat<LO∨HI<x1.toNat∨x2.toNat<128∨191<x2.toNat∨x3.toNat<128∨191<x3.toNat) (by omega)).symm,ay (hbw.alloc hbw.size _) _,fun j hj=>(bk wr _ _ (by have:=hbw.size;show b<_;omega)).trans (HCe.out j hj)⟩
             ·have q6z:¬((191:Int)<(x3.toNat:Int)):=by omega
              go_quiet (fail)
              go_wp2
              go_meet
              exact⟨congrArg Value.bool (ap (p:=m+1<4∨x1.toNat<LO∨HI<x1.toNat∨x2.toNat<128∨191<x2.toNat∨x3.toNat<128∨191<x3.toNat) (by omega)).symm,ay (hbw.alloc hbw.size _) _,fun j hj=>(bk wr _ _ (by have:=hbw.size;show b<_;omega)).trans (HCe.out j hj)⟩
     case rest =>
      obtain⟨rfl,hbc,hcc⟩:=hcut;have HCC:=aa hcc;clear hcc;by_cases hb:m+1<4∨x1.toNat<LO∨HI<x1.toNat∨x2.toNat<128∨191<x2.toNat∨x3.toNat<128∨191<x3.toNat
      ·as_aux_lemma =>
        have hbd:decide (m+1<4∨x1.toNat<LO∨HI<x1.toNat∨x2.toNat<128∨191<x2.toNat∨x3.toNat<128∨191<x3.toNat)=true:=ax hb;have hld:=HLd.out;rw[av hb]at hld;have HLf:=aa hld;clear hld HLd;go_wp2
        all_goals (go_ret;exact⟨by rw[HLf.out];rfl,hbc⟩)
      ·as_aux_lemma =>
        have hbd:decide (m+1<4∨x1.toNat<LO∨HI<x1.toNat∨x2.toNat<128∨191<x2.toNat∨x3.toNat<128∨191<x3.toNat)=false:=ap hb;have hld:=HLd.out;rw[am hb]at hld;have HLf:=aa hld.symm;clear hld HLd;by_cases hq:m+1=4
        ·obtain rfl:m=3:=by omega
         go_wp2
         go_roundg g'
         case measure=>omega
         case rel=>exact eX (k:=4) hbc hbB HN.out HCC.out HLf.out (fun h=>by omega) (by omega) (by omega) (by omega)
        ·have hge4:(4:Int)<(m:Int)+1:=by omega
         go_wp2
         go_roundg g'
         case measure=>omega
         case rel=>exact eX (k:=4) hbc hbB HN.out HCC.out HLf.out (fun _=>rfl) (by omega) (by omega) (by omega)
    have hn2:((X:Int)%8==2)=false:=by rw[ak];omega
    have hn3:((X:Int)%8==3)=false:=by rw[ak];omega
    have hn4:((X:Int)%8==4)=false:=by rw[ak];omega
    simp only[Lib.checkN,am s2,am s3,am s4]at hlead;have HLd:=aa hlead;clear hlead;clear hSZ;go_wp2;go_ret;exact⟨by rw[HLd.out];rfl,hbw.alloc hbw.size _⟩
  ·as_aux_lemma =>
    have e0:ts=[]:=aD (by omega)
    subst e0;go_wp2;go_ret;exact⟨by rw[<-HV.out];rfl,hbw⟩
end Go.Proofs.YteinegfbpfhflaaGreatDoor
