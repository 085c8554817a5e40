/-
  apostillelaw09.SpaceBelow. Conditions: the tables lie as they are laid; awake answers as it is to.
-/
import Derived.BigQuiet
import Derived.Test.YtlgcigmolfhamaaGreatDoorKS8
import Derived.Test.YtlgcigmolfhamaaGreatDoorKTell
namespace Go.Proofs.YtlgcigmolfhamaaGreatDoor
open Go.RowKit
set_option linter.unusedVariables false
set_option maxRecDepth 100000
set_option maxHeartbeats 32000000
theorem c6j{L:List Dc}{s:List UInt8}{u:ByteArray}(h:a0b L s=some u)(hu:N4 u []=false):c41 L s=(u,true):=by
 unfold c41;rw[h];simp[hu]
theorem c5F{l:List Nd}{n p:Nat}(hn:n<l.length)(hk:l[n].k=1)(hp:pa l n=(p:Int))(D1:p<n){a:Dc}(ha:a∈c4X (scD l (p:Int)))(D2:∀d∈l[n].ds,d.p.data.toList≠a.p.data.toList):c41 (scD l (n:Int)) a.p.data.toList=(a.u,true):=by
 have D3:p<l.length:=by omega
 have e1:scD l (n:Int)=c48 l n:=by
  unfold scD;rw[dif_pos (by simp;exact hn)]
  simp only[J0];rw[g8 hk]
 have e2:scD l (p:Int)=if l[p].k=1 then c48 l p else[]:=by
  unfold scD;rw[dif_pos (by simp;exact D3)]
  simp only[J0]
 rw[e2]at ha;by_cases D0:l[p].k=1
 ·rw[g8 D0]at ha
  obtain⟨h1,h2⟩:=((c5C (c48 l p)).1 a).1 ha;rw[e1];refine c6j ?_ h2;unfold c48 at h1 ⊢;rw[c4Z]at h1 ⊢;by_cases hx:c43.p.data.toList=a.p.data.toList
  ·rw[g8 hx]at h1 ⊢;exact h1
  ·rw[f6 hx]at h1 ⊢
   rw[c5w hp D1,c5k,a49 hn,c40.2 D2];exact h1
 ·rw[f6 D0]at ha
  exact absurd ha (by simp[c4X,c46])
def c6C(ds:List Dc)(P:List UInt8)(W:World)(i o:Value)(wr:World):Prop:=∃k:Nat,k<=ds.length/\i=.int .i64 (k:Int)/\o=.bool ((ds.take k).any (fun d=>decide (d.p.data.toList=P)))/\wr=W
theorem c5W(HA:c6c)(A:Option Addr)(c:Nat)(bs:List UInt8)(z:Int)(wz:(Lit.int .i64 z).wf=true)(w:World)(hB : 8<=w.heap.size)(hW:Wd w)(hl:Q3 w w.heap.size A (P6 bs))(hc:bs.length<=c)(J9:c<=9223372036854775807) :
 Calls Tryz.prog 5 #[.slice A bs.length c,.int .i64 z] w fun e w'=>e=.returned (.bool true)/\Below w.heap.size w w':=by
 have L0:Hid (∀w1,Below w.heap.size w w1->Calls Tryz.prog 10 #[] w1 fun e w'=>e=.returned (.bool true)/\Below w1.heap.size w1 w'):=fun w1 hb=>HA w1 (d8 hB hb.size) (hW.low hB hb);by_cases hn:bs.length<=1500
 ·have h0:¬(1500:Int)<(bs.length:Int):=by omega
  have L1:=f8 h0;have HP:Hid (∀w1,Below w.heap.size w w1->Calls Tryz.prog 11 #[.slice A bs.length c] w1 fun e w'=>b1G (X4 bs) w1.heap.size e w'/\Below w1.heap.size w1 w'):=fun w1 hb=>a32 A c bs w1 (d8 hB hb.size) (hW.low hB hb) ((hl.below hb).mono hb.size) hc J9 (by omega)
  cases hD:X4 bs with
  |inl E =>
   rw[hD]at HP;have T8:(E != 0)=true:=by rcases b1g hD with rfl|rfl<;>rfl
   have T9:(E==0)=false:=by rcases b1g hD with rfl|rfl<;>rfl
   obtain⟨k,hk⟩ : ∃k,bs.length=k:=⟨_,rfl⟩;rw[hk]at HP L1 h0 ⊢;clear hl hc J9 hk hn hD hW hB;go_enter Tryz.func5,Tryz.ntmps5
   go_wp2_with fail
   refine(L0.out _ (b8 _ _)).mono ?_;rintro e w1⟨rfl,D1⟩;have D9:=a8 D1;have G6:=a8 (HP.out w1 D1);clear D1
   go_wp2_with fail
   refine G6.out.mono ?_;rintro e w2⟨he,E0⟩;have he':e=.returned (.tuple #[.pointer none,.int .i64 E]):=he;subst he';have G4:=a8 (D9.out.trans (E0.mono D9.out.size));clear E0 he;go_wp2;go_ret;exact⟨rfl,G4.out⟩
  |inr l =>
   rw[hD]at HP;obtain⟨N6,N7,L2⟩:=a2R hD;have G5:∀x∈l,Sm x:=a4v (bs:=bs) (by omega) N6
   obtain⟨R3,L8,L9,_⟩:=a5q N7;have R4:l.length<=4000:=by unfold J6 at L2;exact(of_decide_eq_true L2).1
   have R5:Hid (∀z,(scD l z).length<=1000000):=fun z=>c5G L2 z;obtain⟨k,hk⟩ : ∃k,bs.length=k:=⟨_,rfl⟩;rw[hk]at HP L1 h0 ⊢;clear hl hc J9 hk hn hD hW hB N6 N7 L2 R3;go_enter Tryz.func5,Tryz.ntmps5
   go_wp2_with fail
   refine(L0.out _ (b8 _ _)).mono ?_;rintro e w1⟨rfl,D1⟩;have D9:=a8 D1;have G6:=a8 (HP.out w1 D1);clear D1
   go_wp2_with fail
   refine G6.out.mono ?_;rintro e w2⟨⟨d,B',V0,rfl,E5⟩,E0⟩;have G4:=a8 (D9.out.trans (E0.mono D9.out.size));have HD:=a8 E5;have M0:=a8 (c2D w2 E5 (by omega) G5)
   clear E0 E5
   go_wp2_with fail
   refine M0.out.mono ?_;rintro e w3⟨rfl,M1⟩;have E6:=a8 (G4.out.trans (M1.mono G4.out.size));have L3:=a8 (HD.out.later M1);clear M1;obtain⟨T,hT⟩ : ∃T,c1V l=T:=⟨_,rfl⟩;rw[hT];by_cases N8:z<=(T:Int)
   ·have R6:=i6 N8
    go_wp2;go_ret;exact⟨rfl,E6.out⟩
   ·have R6:=f8 N8
    have R7:=c53;by_cases R8:z<(l.length:Int)
    ·obtain⟨n,rfl⟩ : ∃n:Nat,z=(n:Int):=⟨z.toNat,by omega⟩
     have L4:n<l.length:=by omega
     have G7:=a8 (fun w' hb=>b6k n w' (L3.out.later hb) (by omega) G5 L4)
     have M2:=Z5 L4;by_cases E1:l[n].k=1
     ·obtain⟨p,N9,M3⟩ : ∃p:Nat,pa l n=(p:Int)/\p<n:=by
       rcases a6w (L9.mono (show n+1<=l.length by omega)) L8 (c9 n)with⟨h1,_⟩|h1
       ·omega
       ·exact h1
      rw[N9]at M2;have R9:Hid (∀a∈c4X (scD l (p:Int)),(∀d∈l[n].ds,d.p.data.toList≠a.p.data.toList)->c41 (scD l (n:Int)) a.p.data.toList=(a.u,true)):=fun a ha S0=>c5F L4 E1 N9 M3 ha S0;have S1:Hid (∀w',Below w3.heap.size w3 w'->Calls Tryz.prog 16 #[.pointer (some ⟨d,0,none⟩),.int .i64 (p:Int)] w' fun e w'' => ∃v ds,e=.returned v/\ds.Perm (c4X (scD l (p:Int)))/\c3F ds/\a0P w'' w''.heap.size v ds/\Below w'.heap.size w' w''):=fun w' hb=>c5s (p:Int) w' (L3.out.later hb) (by omega) G5 L9 L8 (R5.out _)
      have S2:Hid (∀w' q,Below w3.heap.size w3 w'->Calls Tryz.prog 14 #[.pointer (some ⟨d,0,none⟩),.int .i64 (n:Int),.string q] w' fun e w''=>e=.returned (.tuple #[.string (c41 (scD l (n:Int)) q.data.toList).1,.bool (c41 (scD l (n:Int)) q.data.toList).2])/\Below w'.heap.size w' w''):=fun w' q hb=>c55 (n:Int) q w' (L3.out.later hb) (by omega) G5 L9 L8
      rw[E1]at G7;have G8:l[n].n=(p:Int):=M2.symm;rw[G8]at G7;have S3:=a8 (G5 _ (o0 L4));generalize l[n]=X at *;clear M2 G8 E1
      go_wp2_with fail
      refine(G7.out w3 (b8 _ _)).mono ?_;rintro e w4⟨vd,va,rfl,G9,J1,E2⟩;obtain⟨A5,c5,rfl⟩:=J8.form G9;obtain⟨Az6,cz6,rfl⟩:=J8.form J1;have E7:=a8 E2;clear G9 J1 E2
      go_wp2_with fail
      refine(G7.out w4 E7.out).mono ?_;rintro e w5⟨vd,va,rfl,M4,P0,P1⟩;obtain⟨Az7,cz7,rfl⟩:=J8.form M4;obtain⟨Az8,cz8,rfl⟩:=J8.form P0;have S4:=a8 M4;have P2:=a8 (E7.out.trans (P1.mono E7.out.size));clear M4 P0 P1
      go_wp2_with fail
      have M5:Below w5.heap.size w5 (w5.alloc (.cells #[.int .i64 1,.int .i64 (p:Int),.string X.p,.string X.l,.string X.u,.string X.t,.slice Az7 X.ds.length cz7,.slice Az8 X.ats.length cz8] 46)):=(b8 _ _).alloc (c9 _) _;have E8:=g9 w5 (.cells #[.int .i64 1,.int .i64 (p:Int),.string X.p,.string X.l,.string X.u,.string X.t,.slice Az7 X.ds.length cz7,.slice Az8 X.ats.length cz8] 46);have M6:=a8 (P2.out.trans (M5.mono P2.out.size));have J2:J8 (w5.alloc (.cells #[.int .i64 1,.int .i64 (p:Int),.string X.p,.string X.l,.string X.u,.string X.t,.slice Az7 X.ds.length cz7,.slice Az8 X.ats.length cz8] 46)) w4.heap.size 34 (.slice Az7 X.ds.length cz7) X.ds.length (X.ds.flatMap C1):=J8.later S4.out M5;refine(S1.out _ M6.out).mono ?_;rintro e w7⟨v,ab,rfl,P3,_,P4,L5⟩;have S5:=a8 P3;have P5:=a8 ((L5.block _ (i3 E8)).trans E8);have M7:=a8 (J8.later J2 L5);have S6:=a8 P4;have L6:=a8 (M6.out.trans (L5.mono M6.out.size));obtain⟨Az9,cz9,rfl,P7,S7,_⟩:=P4;clear M5 E8 J2 L5 P3;obtain⟨m,M8⟩ : ∃m,ab.length=m:=⟨_,rfl⟩;have HM:=a8 M8;obtain⟨nd,G0⟩ : ∃nd,X.ds.length=nd:=⟨_,rfl⟩;have D2:=a8 G0;have S8:X.ds.length<=2000000:=S3.out.nd;rw[G0]at S8 ⊢;rw[M8]at P7 ⊢;have V1:m<=9223372036854775807:=d8 P7 S7;clear M8 G0
      go_wp2_with fail
      go_loopw [57] (fun i wr => ∃k:Nat,k<=m/\i=.int .i64 (k:Int)/\Below w7.heap.size w7 wr) (fun i _=>m-(intOf i).toNat)
      case atStart=>exact⟨0,o4 _,rfl,b8 _ _⟩
      case round =>
       obtain⟨k1,V2,rfl,D0⟩:=hrel;by_cases G1:k1<m
       ·have S9:(k1:Int)<(m:Int):=by omega
        have P8:k1<ab.length:=by rw[HM.out];exact G1
        obtain⟨b,o,cap',e,_,_,P9,E3⟩:=a0P.open S6.out (by omega)
        simp only[o5]at e;obtain⟨rfl,_,rfl⟩:=e;obtain⟨ca0,ca1⟩:=E3 k1 P8;have T0:Hid (ab[k1]∈c4X (scD l (p:Int))):=a8 (S5.out.mem_iff.1 (o0 P8));generalize ab[k1]=a at *;have T1:=a8 (R9.out a T0.out);have T2:=a8 D0
        have M9:Hid (∀wx,Below w7.heap.size w7 wx->wx.cell? ⟨b,o+k1*2,none⟩=some (.string a.p)/\wx.cell? ⟨b,o+k1*2+1,none⟩=some (.string a.u)/\wx.cell? ⟨w5.heap.size,6,none⟩=some (.slice Az7 nd cz7)):=fun wx hb=>by
         have N0:=(hb.block _ (i3 P5.out)).trans P5.out;exact⟨(hb.cell (p:=⟨b,o+k1*2,none⟩) P9).trans ca0,(hb.cell (p:=⟨b,o+k1*2+1,none⟩) P9).trans ca1,by rw[d9 _ _ _ _ _ _ N0,<-D2.out];rfl⟩
        obtain⟨d0,d1,cx6⟩:=M9.out wr D0;clear E3 D0 ca0 ca1
        go_wp2_with fail
        go_loopw [10,63] (fun oo i wr => ∃k:Nat,k<=nd/\i=.int .i64 (k:Int)/\oo=.bool ((X.ds.take k).any (fun d=>decide (d.p.data.toList=a.p.data.toList)))/\Below w7.heap.size w7 wr) (fun _ i _=>nd-(intOf i).toNat)
        case atStart=>exact⟨0,o4 _,rfl,rfl,T2.out⟩
        case round =>
         obtain⟨k,hk,rfl,rfl,D0⟩:=hrel;obtain⟨d0,d1,cx6⟩:=M9.out wr D0;by_cases N1:k<nd
         ·have R0:k<X.ds.length:=by rw[D2.out];exact N1
          have T3:(k:Int)<(nd:Int):=by omega
          have N2:Hid ((X.ds.take (k+1)).any (fun d=>decide (d.p.data.toList=a.p.data.toList))=((X.ds.take k).any (fun d=>decide (d.p.data.toList=a.p.data.toList))||decide (X.ds[k].p.data.toList=a.p.data.toList))):=a8 (by rw[l8 R0,List.any_append];simp)
          obtain⟨h0',_⟩|⟨g2,e2,V3,E4⟩:=M7.out
          ·omega
          ·have J3:=(D0.block _ (i3 E4)).trans E4
           have T4:(X.ds.flatMap C1)[k*2+0]? = (C1 X.ds[k])[0]?:=Q6 (f:=C1) (c:=2) (fun _=>rfl) X.ds k 0 R0 (by omega)
           have e0:wr.cell? ⟨g2,k*2,none⟩=some (.string X.ds[k].p):=by rw[d9 wr g2 (k*2) _ _ _ J3,List.getElem?_toArray,<-Nat.add_zero (k*2),T4];rfl
           rw[D2.out]at e2;simp only[o5]at e2;obtain⟨rfl,_,rfl⟩:=e2;generalize X.ds[k]=x at *;obtain⟨ob,J4⟩ : ∃ob,(X.ds.take k).any (fun d=>decide (d.p.data.toList=a.p.data.toList))=ob:=⟨_,rfl⟩;obtain⟨xb,R1⟩ : ∃xb,(x.p.toList==a.p.toList)=xb:=⟨_,rfl⟩
           have T5:Hid (decide (x.p.data.toList=a.p.data.toList)=xb):=a8 (by
            cases xb with
            |true=>exact i6 (c5K R1)
            |false=>exact f8 (c5J R1))
           rw[J4,T5.out]at N2;rw[J4];have J5:Hid (∀q,Below w7.heap.size w7 (wr.drewN q)):=fun q=>⟨D0.os,D0.tape,D0.output,D0.size,D0.block⟩;cases ob with
           |true =>
            go_upto_region 15 with fail
            go_quiet (fail)
            go_wp2
            go_roundw
            case rel=>exact⟨k+1,N1,by first|rfl|simp,by rw[N2.out];rfl,J5.out _⟩
            case measure=>simp[intOf];omega
           |false =>
            go_upto_region 15 with fail
            go_quiet (fail)
            go_wp2
            go_roundw
            case rel=>exact⟨k+1,N1,by first|rfl|simp,by rw[N2.out];rfl,J5.out _⟩
            case measure=>simp[intOf];omega
         ·have E1:k=nd:=by omega
          subst E1;have T6:¬(k:Int)<(k:Int):=by omega
          have N3:Below w3.heap.size w3 wr:=L6.out.trans (D0.mono L6.out.size);have N4:=a8 (S2.out wr a.p N3);have D3:=a8 D0;have N5:X.ds.take k=X.ds:=by rw[<-D2.out];exact I1
          rw[N5];obtain⟨ob,J4⟩ : ∃ob,X.ds.any (fun d=>decide (d.p.data.toList=a.p.data.toList))=ob:=⟨_,rfl⟩;rw[J4];cases ob with
          |true =>
           go_wp2_with fail
           refine N4.out.mono ?_;rintro e w8⟨rfl,J7⟩;have L7:=a8 (D3.out.trans (J7.mono D3.out.size));clear J7;go_wp2
           go_roundw
           case rel=>exact⟨k1+1,G1,by first|rfl|simp,L7.out⟩
           case measure=>simp[intOf];omega
          |false =>
           have T7:c41 (scD l (n:Int)) a.p.data.toList=(a.u,true):=T1.out (by
            intro d' hd' he;have:=List.any_eq_false.1 J4 d' hd';simp[he]at this)
           rw[T7]at N4
           go_wp2_with fail
           refine N4.out.mono ?_;rintro e w8⟨rfl,J7⟩;have L7:=a8 (D3.out.trans (J7.mono D3.out.size));obtain⟨f0',f1',f2'⟩:=M9.out w8 L7.out;clear J7;go_wp2
           go_roundw
           case rel=>exact⟨k1+1,G1,by first|rfl|simp,L7.out⟩
           case measure=>simp[intOf];omega
       ·have E1:k1=m:=by omega
        subst E1;have S9:¬(k1:Int)<(k1:Int):=by omega
        have HF:=a8 (E6.out.trans ((L6.out.trans (D0.mono L6.out.size)).mono E6.out.size));go_wp2;go_ret;exact⟨rfl,HF.out⟩
     ·have V4:(l[n].k != 1)=true:=by simpa using E1
      generalize l[n]=X at *
      go_wp2_with fail
      refine(G7.out w3 (b8 _ _)).mono ?_;rintro e w4⟨vd,va,rfl,G9,J1,E2⟩;obtain⟨A5,c5,rfl⟩:=J8.form G9;obtain⟨Az6,cz6,rfl⟩:=J8.form J1;have E7:=a8 (E6.out.trans (E2.mono E6.out.size));clear G9 J1 E2;go_wp2;go_ret;exact⟨rfl,E7.out⟩
    ·have R2:=a8 (c5B z w3 L3.out (by omega) G5 (fun h=>R8 h.2))
     unfold c4f at R2
     go_wp2_with fail
     refine R2.out.mono ?_;rintro e w4⟨rfl,E2⟩;have E7:=a8 (E6.out.trans (E2.mono E6.out.size));clear E2;go_wp2;go_ret;exact⟨rfl,E7.out⟩
 ·have h0:(1500:Int)<(bs.length:Int):=by omega
  have L1:=i6 h0;obtain⟨k,hk⟩ : ∃k,bs.length=k:=⟨_,rfl⟩;rw[hk]at L1 h0 ⊢;clear hl hc J9 hk hn hW hB;go_enter Tryz.func5,Tryz.ntmps5
  go_wp2_with fail
  refine(L0.out _ (b8 _ _)).mono ?_;rintro e w1⟨rfl,D1⟩;have G6:=a8 (L0.out w1 D1);have D9:=a8 D1;clear D1
  go_wp2_with fail
  refine G6.out.mono ?_;rintro e w2⟨rfl,E0⟩;have G4:=a8 (D9.out.trans (E0.mono D9.out.size));clear E0;go_wp2;go_ret;exact⟨rfl,G4.out⟩
end Go.Proofs.YtlgcigmolfhamaaGreatDoor
