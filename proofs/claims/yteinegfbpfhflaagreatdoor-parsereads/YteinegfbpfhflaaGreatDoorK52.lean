/-
  apostilleref08: small, said. Conditions: the reader lies as it is; the texts are not too long.
  apostilleref08.Reader: declaration. Conditions: the reader lies at a text's beginning; the text is not too long.
  apostilleref08.Parse: what it stands on. Conditions: none.
-/
import Derived.Test.YteinegfbpfhflaaGreatDoorK50
import Derived.Test.YteinegfbpfhflaaGreatDoorK35
import Derived.Test.YteinegfbpfhflaaGreatDoorK41
namespace Go.Proofs.YteinegfbpfhflaaGreatDoor
open Go.RowKit
set_option linter.unusedVariables false
set_option maxRecDepth 100000
set_option maxHeartbeats 64000000
def b7D(w:World)(s:List UInt8)(v i:Value)(wr:World):Prop :=
 ∃k:Nat,k<=s.length/\i=.int .i64 (k:Int)/\Own wr w.heap.size v (a2B (s.take k))/\Below w.heap.size w wr
theorem b5R{s:List UInt8}{k:Nat}(h:k<s.length):a2B (s.take (k+1))=a2B (s.take k)++[b4i s[k]]:=by
 unfold a2B;rw[l8 h,List.map_append];rfl
theorem b4h(S:ByteArray)(E5:S.size<=1000000)(w:World):Calls Tryz.prog 61 #[.string S] w fun e w'=>e=.returned (.string (ba (a2B S.data.toList)))/\Below w.heap.size w w':=by
 obtain⟨N,hN⟩ : ∃N,S.size=N:=⟨_,rfl⟩;have G1:S.data.toList.length=N:=by rw[<-j9];exact hN
 have E4:=a8 G1;rw[hN]at E5;obtain⟨R,hR⟩ : ∃R:ByteArray,ba (a2B S.data.toList)=R:=⟨_,rfl⟩;rw[hR];have HR:=a8 hR;clear G1 hR;go_enter Tryz.func61,Tryz.ntmps61;go_wp2
 go_loopw [3,8] (b7D w S.data.toList) (fun _ i _=>N-(intOf i).toNat)
 case atStart=>exact⟨0,o4 _,rfl,Own.nil _ _,b8 _ _⟩
 case round =>
  obtain⟨k,hk,rfl,hO,hb⟩:=hrel;rw[E4.out]at hk;have HB:=a8 hb;have E6:=hb.size;by_cases G4:k<N
  ·have E7:k<S.data.toList.length:=by rw[E4.out];exact G4
   have J5:=G7 S E7;have G5:=b5R E7;have G6:(k:Int)<(N:Int):=by omega
   have J6:(a2B (S.data.toList.take k)).length<=k:=by unfold a2B;rw[C9,u0];omega
   obtain⟨O,G8⟩ : ∃O,a2B (S.data.toList.take k)=O:=⟨_,rfl⟩;rw[G8]at hO G5 J6;have HO:=a8 hO;have E8:O.length+1<=1000000000000:=by omega
   generalize S.data.toList[k]=c at *;have D1:b4i c=if 65<=c.toNat/\c.toNat<=90 then c+32 else c:=rfl
   have D2:c.toNat<=90->(c+32).toNat=c.toNat+32:=fun h=>by
    rw[UInt8.toNat_add]
    show(c.toNat+32)%256=_
    omega
   obtain⟨x,hx⟩ : ∃x,c.toNat=x:=⟨_,rfl⟩;rw[hx]at D1 J5 D2;have HX:=a8 hx;have G9:x<256:=by rw[<-hx];exact c.toNat_lt
   clear hb G8 hO hx E7;have D0:Hid (∀y,b4i c=y->∀v3 w3,Own w3 w.heap.size v3 (O++[y])->Below w.heap.size wr w3->b7D w S.data.toList v3 (.int .i64 ((k+1:Nat):Int)) w3):=fun y hy v3 w3 h3 D3=>⟨k+1,by rw[E4.out];exact G4,rfl,by rw[G5,hy];exact h3,HB.out.trans D3⟩
   by_cases J1:65<=x
   ·have E1:(65:Int)<=(x:Int):=by omega
    by_cases G0:x<=90
    ·have E2:(x:Int)<=(90:Int):=by omega
     rw[g8 ⟨J1,G0⟩]at D1;have HC:=a8 (D0.out (c+32) D1);have J2:((x:Int)+32)=(((c+32).toNat:Nat):Int):=by rw[D2 G0];omega
     have J3:=a8 J2;clear D1 D2 J2 D0
     go_wp2_with (at_builtin;refine P8 rfl _ _ rfl w.heap.size O u3 rfl HO.out E6 (c+32) _ (by first|exact J3.out|(rw[<-J3.out];simp;omega)) rfl E8 ?_;intro v3 w3 D9 D3)
     have E3:=a8 (HC.out v3 w3 D9 D3);clear D9 D3;go_wp2
     go_roundw
     case rel=>exact(show Value.int .i64 ((k+1:Nat):Int)=_ by go_num) ▸ E3.out
     case measure=>simp[intOf];omega
    ·have E2:¬(x:Int)<=(90:Int):=by omega
     have J7:=f8 E2;rw[f6 (fun h=>G0 h.2)]at D1;have HC:=a8 (D0.out c D1);clear D1 D2 D0
     go_wp2_with (at_builtin;refine P8 rfl _ _ rfl w.heap.size O u3 rfl HO.out E6 c _ (by rw[HX.out]) rfl E8 ?_;intro v3 w3 D9 D3)
     have E3:=a8 (HC.out v3 w3 D9 D3);clear D9 D3;go_wp2
     go_roundw
     case rel=>exact(show Value.int .i64 ((k+1:Nat):Int)=_ by go_num) ▸ E3.out
     case measure=>simp[intOf];omega
   ·have E1:¬(65:Int)<=(x:Int):=by omega
    have J8:=f8 E1;rw[f6 (fun h=>J1 h.1)]at D1;have HC:=a8 (D0.out c D1);clear D1 D2 D0
    go_wp2_with (at_builtin;refine P8 rfl _ _ rfl w.heap.size O u3 rfl HO.out E6 c _ (by rw[HX.out]) rfl E8 ?_;intro v3 w3 D9 D3)
    have E3:=a8 (HC.out v3 w3 D9 D3);clear D9 D3;go_wp2
    go_roundw
    case rel=>exact(show Value.int .i64 ((k+1:Nat):Int)=_ by go_num) ▸ E3.out
    case measure=>simp[intOf];omega
  ·have G6:¬(k:Int)<(N:Int):=by omega
   have J9:=f8 G6;have E0:=hO;rw[C0 (by rw[E4.out];omega)]at E0
   obtain⟨A',cap',hv,L1,D1,J4⟩:=E0.lies;have L0:=I4 cap' J4;rw[show(⟨(a2B S.data.toList).toArray⟩ : ByteArray)=R from HR.out]at L0;generalize (a2B S.data.toList).length=n at *;subst hv;clear J4 E0 hO hb;go_wp2;go_ret;exact⟨rfl,HB.out⟩
theorem a6l(S key:ByteArray)(b:Nat)(v:Value)(s:Rf)(k:Nat)(w:World)(h:U5 w b S v s k)(hS:S.size<=1000000)(hK:key.size<=1000000) :
 Calls Tryz.prog 60 #[.pointer (some ⟨b,0,none⟩),.string key] w fun e w'=>e=.returned (.tuple #[.bool (Q0 key.data.toList s).1.isSome,.string (ba ((Q0 key.data.toList s).1.getD []))])/\M3 b S v (Q0 key.data.toList s).2 w w':=by
 have E4:=a8 (U2 S b v s k w h hS);have E3:Hid (∀w' k',U5 w' b S v (C8 s) k'->_):=fun w' k' hm=>O3 S key b v (C8 s) k' w' hm hS hK;have E5:Hid (∀w' k',U5 w' b S v (C8 s) k'->_):=fun w' k' hm=>U7 S key b v (C8 s) k' w' hm hS hK;have E6:Hid (∀w' k',U5 w' b S v (D0 key.data.toList (C8 s)) k'->_):=fun w' k' hm=>a5j S b v (D0 key.data.toList (C8 s)) k' w' hm hS;obtain⟨c0,c1,_,c3⟩:=h.cells;have G5:=h.lt;have hk:=h.le
 have D1:Hid (∀w1 w2:World,M3 b S v (C8 s) w w1->M3 b S v (C8 s) w1 w2->M3 b S v s w (w2.setCell ⟨b,1,none⟩ (.int .i64 (k:Int)))):=fun w1 w2 h1 h2=>by
  obtain⟨k2,D9⟩:=h2.at';have h3:=M3.go D9 (j:=k) hk;have e:(C8 s).to (S.data.toList.drop k)=s:=by rw[<-h.rest];rfl
  rw[e]at h3;exact(h1.trans h2).trans h3
 have J4:=a8 G5;by_cases hz:Y6 s=0
 ·have hR:Q0 key.data.toList s=(none,s):=by unfold Q0;rw[g8 (.inl hz)]
  rw[hR];rw[hz]at E4;clear h hR c0 c3 E3 E5 E6 hz;go_enter Tryz.func60,Tryz.ntmps60
  go_wp2_with fail
  refine E4.out.mono ?_;rintro e w1⟨rfl,D2⟩;obtain⟨k1,D3⟩:=D2.at';have d1:=D3.cells.2.1;have df:=D3.frozen 1;have dl:=D3.lt;have E0:=a8 (D1.out w1 w1 D2 (M3.of D3 (b8 _ _)));clear D2 D3 D1 c1;go_wp2
  go_ret2
  exact⟨rfl,E0.out⟩
 ·have G6:((Y6 s:Nat):Int)≠0:=by omega
  have J5:(((Y6 s:Nat):Int)==0)=false:=by rw[e9];exact G6
  generalize hB:Y6 s=N8 at *;cases E2:F3 key.data.toList (C8 s)with
  |false =>
   have hR:Q0 key.data.toList s=(none,s):=by unfold Q0;rw[g8 (.inr E2)]
   rw[hR];rw[E2]at E3;clear h hR c0 c3 E5 E6 E2 hB;go_enter Tryz.func60,Tryz.ntmps60
   go_wp2_with fail
   refine E4.out.mono ?_;rintro e w1⟨rfl,D2⟩;obtain⟨k1,D3⟩:=D2.at';have E7:=a8 (E3.out w1 k1 D3);have E8:=a8 D2;clear D2 D3
   go_wp2_with fail
   refine E7.out.mono ?_;rintro e w2⟨rfl,E1⟩;obtain⟨k2,D9⟩:=E1.at';have d1:=D9.cells.2.1;have df:=D9.frozen 1;have dl:=D9.lt;have E0:=a8 (D1.out w1 w2 E8.out E1);clear E1 D9 D1 c1;go_wp2
   go_ret2
   exact⟨rfl,E0.out⟩
  |true =>
   have hR:Q0 key.data.toList s=(some (M1 (D0 key.data.toList (C8 s))).1,(M1 (D0 key.data.toList (C8 s))).2):=by
    have G7:¬(Y6 s=0∨F3 key.data.toList (C8 s)=false):=fun h=>h.elim (fun h1=>hz (hB.symm.trans h1)) (fun h2=>by rw[E2]at h2;cases h2)
    unfold Q0;rw[f6 G7]
   rw[hR];rw[E2]at E3;clear h hR c0 c3 E2 D1 hB;go_enter Tryz.func60,Tryz.ntmps60
   go_wp2_with fail
   refine E4.out.mono ?_;rintro e w1⟨rfl,D2⟩;obtain⟨k1,D3⟩:=D2.at';have E7:=a8 (E3.out w1 k1 D3);have E8:=a8 D2;clear D2 D3
   go_wp2_with fail
   refine E7.out.mono ?_;rintro e w2⟨rfl,E1⟩;obtain⟨k2,D9⟩:=E1.at';have G8:=a8 (E5.out w2 k2 D9);have G9:=a8 (E8.out.trans E1);clear E1 D9 c1
   go_wp2_with fail
   refine G8.out.mono ?_;rintro e w3⟨rfl,G0⟩;obtain⟨k3,G1⟩:=G0.at';have J1:=a8 (E6.out w3 k3 G1);have J2:=a8 (G9.out.trans G0);clear G0 G1
   go_wp2_with fail
   refine J1.out.mono ?_;rintro e w4⟨rfl,G4⟩;have J3:=a8 (J2.out.trans G4);clear G4;go_wp2
   go_ret2
   exact⟨rfl,J3.out⟩
theorem b9S{key:List UInt8}{s:Rf}{n:Nat}(h:s.rest.length<=n):((Q0 key s).1.getD []).length<=n:=by
 unfold Q0;split
 ·exact o4 _
 ·show(M1 (D0 key (C8 s))).1.length<=n
  have h1:=a6r (D0 key (C8 s));have h2:=((I8 s).trans (G8 key (C8 s))).len;omega
theorem a2p{v l:List UInt8}(h:v≠l):((ba v).toList==l)=false:=by
 rw[f9,e9];exact fun e=>h e
theorem a2q(v:List UInt8):((ba v).toList==v)=true:=by
 rw[f9,x8];rfl
theorem b7b(S:ByteArray)(b:Nat)(v:Value)(s:Rf)(w:World)(h:U5 w b S v s 0)(hS:S.size<=1000000)(hd:a1k s.rest=false) :
 Calls Tryz.prog 33 #[.pointer (some ⟨b,0,none⟩)] w fun e w'=>e=.returned (.tuple #[])/\M3 b S v s w w':=by
 have D1:Hid (Calls Tryz.prog 57 #[.pointer (some ⟨b,0,none⟩),.string ⟨#[60,63,120,109,108]⟩] w fun e w'=>e=.returned (.bool (F3 [60,63,120,109,108] s))/\M3 b S v s w w'):=O3 S ⟨#[60,63,120,109,108]⟩ b v s 0 w h hS (by decide)
 have E0:s.rest=S.data.toList:=by rw[h.rest,List.drop_zero]
 cases hp:m9 [60,63,120,109,108] s.rest with
 |none =>
  rw[Q9 hp]at D1;clear hd E0 hp;go_enter Tryz.func33,Tryz.ntmps33
  go_wp2_with fail
  refine D1.out.mono ?_;rintro e w1⟨rfl,D0⟩;have D2:=a8 D0;clear D0;go_wp2;refine bodyPost_ret (results_none rfl _ _ _) rfl ?_;exact⟨rfl,D2.out⟩
 |some r =>
  rw[L8 hp]at D1;have D3:S.data.toList=[60,63,120,109,108]++r:=by rw[<-E0];exact I6 hp
  cases r with
  |nil =>
   have E3:S.size=5:=by rw[j9,D3];rfl
   clear hd E0 hp D3;go_enter Tryz.func33,Tryz.ntmps33
   go_wp2_with fail
   refine D1.out.mono ?_;rintro e w1⟨rfl,D0⟩;obtain⟨k1,D9⟩:=D0.at';have c0:=D9.cells.1;have D2:=a8 D0;clear D0 D9;go_wp2;refine bodyPost_ret (results_none rfl _ _ _) rfl ?_;exact⟨rfl,D2.out⟩
  |cons c t =>
   have E4:X0 c=false:=by unfold a1k at hd;rw[hp]at hd;exact hd
   have E1:5<S.data.toList.length:=by rw[D3];simp
   have E2:=G7 S E1
   have h5:S.data.toList[5]=c:=by
    apply Option.some_inj.1
    rw[<-i5 E1,D3];rfl
   rw[h5]at E2;have E5:∀w,(Instr.index 9 (.string S) (.int .i64 5)).run Tryz.prog w=.ok (.int .u8 (c.toNat:Int)) w:=E2;have E3:¬(S.size:Int)<6:=by rw[j9];omega
   have E6:=f8 E3
   have E7:Hid (∀w',Calls Tryz.prog 58 #[.int .u8 (c.toNat:Int)] w' fun e w''=>e=.returned (.bool false)/\w''=w'):=fun w'=>by
    have:=a01 (c.toNat:Int) w';rw[a0r,E4]at this;exact this
   clear hd E0 hp D3 E2 h5 E4 E1;go_enter Tryz.func33,Tryz.ntmps33
   go_wp2_with fail
   refine D1.out.mono ?_;rintro e w1⟨rfl,D0⟩;obtain⟨k1,D9⟩:=D0.at';have c0:=D9.cells.1;have D2:=a8 D0;clear D0 D9
   go_wp2_with fail
   refine(E7.out _).mono ?_;rintro e w2⟨rfl,hw⟩;rw[hw];clear hw;go_wp2;refine bodyPost_ret (results_none rfl _ _ _) rfl ?_;exact⟨rfl,D2.out⟩
def okA:Option (List UInt8)->Bool
 |some v=>decide (v≠[49,46,48])
 |none=>true
def okB:Option (List UInt8)->Bool
 |some v=>decide (a2B v≠[117,116,102,45,56])
 |none=>false
def okC:Option (List UInt8)->Bool
 |some v=>decide (v≠[121,101,115])&&decide (v≠[110,111])
 |none=>false
theorem b3M(s:Rf):a3P s=(Q0 a0u s).2.or (okA (Q0 a0u s).1):=by unfold a3P;cases(Q0 a0u s).1<;>rfl
theorem b3L(s:Rf):a3v s=(Q0 Q2 s).2.or (okB (Q0 Q2 s).1):=by unfold a3v;cases(Q0 Q2 s).1<;>rfl
theorem b3K(s:Rf):a3u s=(Q0 V6 s).2.or (okC (Q0 V6 s).1):=by unfold a3u;cases(Q0 V6 s).1<;>rfl
theorem M3.marked{b:Nat}{S:ByteArray}{v:Value}{s s':Rf}{w w1:World}(h:M3 b S v s w w1){x:Bool}(e:({ s with bad:=x }:Rf)=s'):M3 b S v s' w (w1.setCell ⟨b,3,none⟩ (.bool x)):=by
 obtain⟨k,hk⟩:=h.at';rw[<-e];exact h.trans (M3.mark hk x)
theorem b86(S:ByteArray)(b:Nat)(v:Value)(s:Rf)(w:World)(h:U5 w b S v s 0)(hS:S.size<=1000000)(hd:a1k s.rest=true) :
 Calls Tryz.prog 33 #[.pointer (some ⟨b,0,none⟩)] w fun e w'=>e=.returned (.tuple #[])/\M3 b S v (a04 s) w w':=by
 have D9:Hid (Calls Tryz.prog 57 #[.pointer (some ⟨b,0,none⟩),.string ⟨#[60,63,120,109,108]⟩] w fun e w'=>e=.returned (.bool (F3 [60,63,120,109,108] s))/\M3 b S v s w w'):=O3 S ⟨#[60,63,120,109,108]⟩ b v s 0 w h hS (by decide)
 have J3:s.rest=S.data.toList:=by rw[h.rest,List.drop_zero]
 have G0:a04 s=D0 [63,62] (C8 (a3u (a3v (a3P (D0 [60,63,120,109,108] s))))):=by unfold a04;rw[g8 hd]
 rw[G0];have N9:s.rest.length<=1000000:=by rw[J3,<-j9];exact hS
 have E0:Hid (∀w' k',U5 w' b S v s k'->Calls Tryz.prog 59 #[.pointer (some ⟨b,0,none⟩),.string ⟨#[60,63,120,109,108]⟩] w' fun e w''=>e=.returned (.tuple #[])/\M3 b S v (D0 [60,63,120,109,108] s) w' w''):=fun w' k' hm=>U7 S ⟨#[60,63,120,109,108]⟩ b v s k' w' hm hS (by decide)
 have M5:=(G8 [60,63,120,109,108] s).len;obtain⟨s1,M6⟩ : ∃s1,D0 [60,63,120,109,108] s=s1:=⟨_,rfl⟩;rw[M6]at E0 M5 ⊢;obtain⟨oA,J4⟩ : ∃oA,(Q0 a0u s1).1=oA:=⟨_,rfl⟩;obtain⟨sA,G6⟩ : ∃sA,(Q0 a0u s1).2=sA:=⟨_,rfl⟩
 have E1:Hid (∀w' k',U5 w' b S v s1 k'->Calls Tryz.prog 60 #[.pointer (some ⟨b,0,none⟩),.string ⟨#[118,101,114,115,105,111,110]⟩] w' fun e w''=>e=.returned (.tuple #[.bool oA.isSome,.string (ba (oA.getD []))])/\M3 b S v sA w' w''):=fun w' k' hm=>by
  rw[<-J4,<-G6];exact a6l S ⟨#[118,101,114,115,105,111,110]⟩ b v s1 k' w' hm hS (by decide)
 have hA:a3P s1=sA.or (okA oA):=by rw[b3M,J4,G6]
 obtain⟨s2,M7⟩ : ∃s2,a3P s1=s2:=⟨_,rfl⟩;rw[M7]at hA ⊢;have P0:s2.rest.length<=s1.rest.length:=by rw[hA];show sA.rest.length<=_;rw[<-G6];exact(a1X a0u s1).len
 obtain⟨oB,G9⟩ : ∃oB,(Q0 Q2 s2).1=oB:=⟨_,rfl⟩;obtain⟨sB,J5⟩ : ∃sB,(Q0 Q2 s2).2=sB:=⟨_,rfl⟩;have M8:(oB.getD []).length<=1000000:=by rw[<-G9];exact b9S (by omega)
 have E2:Hid (∀w' k',U5 w' b S v s2 k'->Calls Tryz.prog 60 #[.pointer (some ⟨b,0,none⟩),.string ⟨#[101,110,99,111,100,105,110,103]⟩] w' fun e w''=>e=.returned (.tuple #[.bool oB.isSome,.string (ba (oB.getD []))])/\M3 b S v sB w' w''):=fun w' k' hm=>by
  rw[<-G9,<-J5];exact a6l S ⟨#[101,110,99,111,100,105,110,103]⟩ b v s2 k' w' hm hS (by decide)
 have D3:Hid (∀w',Calls Tryz.prog 61 #[.string (ba (oB.getD []))] w' fun e w''=>e=.returned (.string (ba (a2B (oB.getD []))))/\Below w'.heap.size w' w''):=fun w'=>by
  have:=b4h (ba (oB.getD [])) (by rw[I9];exact M8) w'
  rw[B5]at this;exact this
 have hB:a3v s2=sB.or (okB oB):=by rw[b3L,G9,J5]
 obtain⟨s3,M9⟩ : ∃s3,a3v s2=s3:=⟨_,rfl⟩;rw[M9]at hB ⊢;obtain⟨oC,J6⟩ : ∃oC,(Q0 V6 s3).1=oC:=⟨_,rfl⟩;obtain⟨sC,J7⟩ : ∃sC,(Q0 V6 s3).2=sC:=⟨_,rfl⟩
 have E3:Hid (∀w' k',U5 w' b S v s3 k'->Calls Tryz.prog 60 #[.pointer (some ⟨b,0,none⟩),.string ⟨#[115,116,97,110,100,97,108,111,110,101]⟩] w' fun e w''=>e=.returned (.tuple #[.bool oC.isSome,.string (ba (oC.getD []))])/\M3 b S v sC w' w''):=fun w' k' hm=>by
  rw[<-J6,<-J7];exact a6l S ⟨#[115,116,97,110,100,97,108,111,110,101]⟩ b v s3 k' w' hm hS (by decide)
 have hC:a3u s3=sC.or (okC oC):=by rw[b3K,J6,J7]
 obtain⟨s4,N0⟩ : ∃s4,a3u s3=s4:=⟨_,rfl⟩;rw[N0]at hC ⊢;have D2:Hid (∀w' k',U5 w' b S v s4 k'->Calls Tryz.prog 62 #[.pointer (some ⟨b,0,none⟩)] w' fun e w''=>e=.returned (.int .i64 (Y6 s4:Nat))/\M3 b S v (C8 s4) w' w''):=fun w' k' hm=>U2 S b v s4 k' w' hm hS;have E4:Hid (∀w' k',U5 w' b S v (C8 s4) k'->Calls Tryz.prog 59 #[.pointer (some ⟨b,0,none⟩),.string ⟨#[63,62]⟩] w' fun e w''=>e=.returned (.tuple #[])/\M3 b S v (D0 [63,62] (C8 s4)) w' w''):=fun w' k' hm=>U7 S ⟨#[63,62]⟩ b v (C8 s4) k' w' hm hS (by decide)
 have HA:=a8 hA;have HB:=a8 hB;have HC:=a8 hC
 obtain⟨c,t,hp,N1⟩ : ∃c t,m9 [60,63,120,109,108] s.rest=some (c::t)/\X0 c=true:=by
  unfold a1k at hd;cases hp:m9 [60,63,120,109,108] s.rest with
  |none=>rw[hp]at hd;cases hd
  |some r =>
   rw[hp]at hd;cases r with
   |nil=>cases hd
   |cons c t=>exact⟨c,t,rfl,hd⟩
 rw[L8 hp]at D9;have J8:S.data.toList=[60,63,120,109,108]++c::t:=by rw[<-J3];exact I6 hp
 have J9:5<S.data.toList.length:=by rw[J8];simp
 have L0:=G7 S J9
 have h5:S.data.toList[5]=c:=by
  apply Option.some_inj.1
  rw[<-i5 J9,J8];rfl
 rw[h5]at L0;have L1:∀w,(Instr.index 9 (.string S) (.int .i64 5)).run Tryz.prog w=.ok (.int .u8 (c.toNat:Int)) w:=L0;have N2:¬(S.size:Int)<6:=by rw[j9];omega
 have L2:=f8 N2
 have P1:Hid (∀w',Calls Tryz.prog 58 #[.int .u8 (c.toNat:Int)] w' fun e w''=>e=.returned (.bool true)/\w''=w'):=fun w'=>by
  have:=a01 (c.toNat:Int) w';rw[a0r,N1]at this;exact this
 clear h hd J3 G0 N9 M5 M6 J4 G6 hA M7 P0 G9 J5 M8 hB M9 J6 J7 hC N0 hp N1 J8 L0 h5 J9;go_enter Tryz.func33,Tryz.ntmps33
 go_wp2_with fail
 refine D9.out.mono ?_;rintro e w1⟨rfl,L3⟩;obtain⟨k1,L4⟩:=L3.at';have c0:=L4.cells.1;have P2:=a8 L3;have P3:=a8 (E0.out w1 k1 L4);clear L3 L4
 go_wp2_with fail
 refine(P1.out _).mono ?_;rintro e w2⟨rfl,hw⟩;rw[hw];clear hw L1 N2 L2
 go_wp2_with fail
 refine P3.out.mono ?_;rintro e w3⟨rfl,L5⟩;obtain⟨k3,N3⟩:=L5.at';have P4:=a8 (P2.out.trans L5);have P5:=a8 (E1.out w3 k3 N3);clear L5 N3 c0
 go_wp2_with fail
 refine P5.out.mono ?_;rintro e w4⟨rfl,L6⟩;obtain⟨k4,J1⟩:=L6.at';have c3:=J1.cells.2.2.2;have cf:=J1.frozen 3;have dl:=J1.lt;have P6:=a8 (P4.out.trans L6);have D1:Hid (∀x:Bool,({ sA with bad:=x }:Rf)=s2->M3 b S v s2 w (w4.setCell ⟨b,3,none⟩ (.bool x))):=fun x hx=>P6.out.marked hx;clear L6 J1
 go_upto_region 3 with fail
 go_cut [] (fun wx=>M3 b S v s2 w wx)
 case first =>
  cases hb:sA.bad with
  |true =>
   rw[hb]at c3;have HE:=a8 (D1.out true (by rw[HA.out];unfold Rf.or;rw[hb];rfl))
   clear D1 D9 E0 E1 E2 D3 E3 D2 E4;go_wp2
   go_meet
   exact HE.out
  |false =>
   rw[hb]at c3;cases oA with
   |none =>
    dsimp only[Option.isSome]at *;have HE:=a8 (D1.out true (by rw[HA.out];unfold Rf.or;rw[hb];rfl))
    clear D1 D9 E0 E1 E2 D3 E3 D2 E4;go_wp2
    go_meet
    exact HE.out
   |some q =>
    dsimp only[Option.isSome,Option.getD]at *;by_cases hq:q=[49,46,48]
    ·subst hq
     have te:=a2q [49,46,48];have HE:=a8 (D1.out false (by rw[HA.out];unfold Rf.or;rw[hb];rfl))
     clear D1 D9 E0 E1 E2 D3 E3 D2 E4;go_wp2
     go_meet
     exact HE.out
    ·have te:=a2p hq
     have HE:=a8 (D1.out true (by rw[HA.out];unfold Rf.or;rw[hb];unfold okA;simp[hq]))
     clear D1 D9 E0 E1 E2 D3 E3 D2 E4;go_wp2
     go_meet
     exact HE.out
 case rest =>
  have P7:=a8 hcut;obtain⟨w5,P8⟩ : ∃w5:World,w5=wc:=⟨_,rfl⟩;subst P8;obtain⟨k5,N4⟩:=hcut.at';have P9:=a8 (E2.out w5 k5 N4);clear N4 D1 c3 cf dl hcut
  go_wp2_with fail
  refine P9.out.mono ?_;rintro e w6⟨rfl,L7⟩;obtain⟨k6,E7⟩:=L7.at';have c3:=E7.cells.2.2.2;have cf:=E7.frozen 3;have dl:=E7.lt;have N5:=a8 (P7.out.trans L7);have D1:Hid (∀x:Bool,({ sB with bad:=x }:Rf)=s3->M3 b S v s3 w (w6.setCell ⟨b,3,none⟩ (.bool x))):=fun x hx=>N5.out.marked hx
  have E5:Hid (∀w7,Below w6.heap.size w6 w7->(w7.cell? ⟨b,3,none⟩=some (.bool sB.bad)/\w7.frozen? ⟨b,3,none⟩=false)/\∀x:Bool,({ sB with bad:=x }:Rf)=s3->M3 b S v s3 w (w7.setCell ⟨b,3,none⟩ (.bool x))):=fun w7 E8=>by
   have N6:=E7.below E8;exact⟨⟨N6.cells.2.2.2,N6.frozen 3⟩,fun x hx=>(N5.out.trans (M3.of E7 E8)).marked hx⟩
  clear L7 E7
  go_upto_region 5 with fail
  go_cut [] (fun wx=>M3 b S v s3 w wx)
  case first =>
   cases hb:sB.bad with
   |true =>
    rw[hb]at c3;have HE:=a8 (D1.out true (by rw[HB.out];unfold Rf.or;rw[hb];rfl))
    clear D1 D9 E0 E1 E2 D3 E3 D2 E4 E5;go_wp2
    go_meet
    exact HE.out
   |false =>
    rw[hb]at c3;cases oB with
    |none =>
     dsimp only[Option.isSome]at *;have HE:=a8 (D1.out false (by rw[HB.out];unfold Rf.or;rw[hb];rfl))
     clear D1 D9 E0 E1 E2 D3 E3 D2 E4 E5;go_wp2
     go_meet
     exact HE.out
    |some q =>
     dsimp only[Option.isSome,Option.getD]at *;have R0:=a8 (D3.out w6);clear D1 D3
     go_wp2_with fail
     refine R0.out.mono ?_;rintro e w7⟨rfl,E8⟩;obtain⟨⟨d3,df⟩,G1⟩:=E5.out w7 E8;rw[hb]at d3;have D1:=a8 G1;have dl7:b<w7.heap.size:=x9 dl E8.size;clear G1 E8 c3 cf dl;by_cases hq:a2B q=[117,116,102,45,56]
     ·rw[hq]
      have te:=a2q [117,116,102,45,56];have HE:=a8 (D1.out false (by rw[HB.out];unfold Rf.or;rw[hb];unfold okB;simp[hq]))
      clear D1 D9 E0 E1 E2 E3 D2 E4 E5;go_wp2
      go_meet
      exact HE.out
     ·have te:=a2p hq
      have HE:=a8 (D1.out true (by rw[HB.out];unfold Rf.or;rw[hb];unfold okB;simp[hq]))
      clear D1 D9 E0 E1 E2 E3 D2 E4 E5;go_wp2
      go_meet
      exact HE.out
  case rest =>
   have R1:=a8 hcut;obtain⟨w7,R2⟩ : ∃w7:World,w7=wc:=⟨_,rfl⟩;subst R2;obtain⟨k7,N7⟩:=hcut.at';have R3:=a8 (E3.out w7 k7 N7);clear N7 D1 E5 c3 cf dl hcut
   go_wp2_with fail
   refine R3.out.mono ?_;rintro e w8⟨rfl,L9⟩;obtain⟨k8,J2⟩:=L9.at';have c3:=J2.cells.2.2.2;have cf:=J2.frozen 3;have dl:=J2.lt;have R4:=a8 (R1.out.trans L9);have D1:Hid (∀x:Bool,({ sC with bad:=x }:Rf)=s4->M3 b S v s4 w (w8.setCell ⟨b,3,none⟩ (.bool x))):=fun x hx=>R4.out.marked hx;clear L9 J2
   go_upto_region 7 with fail
   go_cut [] (fun wx=>M3 b S v s4 w wx)
   case first =>
    cases hb:sC.bad with
    |true =>
     rw[hb]at c3;have HE:=a8 (D1.out true (by rw[HC.out];unfold Rf.or;rw[hb];rfl))
     clear D1 D9 E0 E1 E2 D3 E3 D2 E4;go_wp2
     go_meet
     exact HE.out
    |false =>
     rw[hb]at c3;cases oC with
     |none =>
      dsimp only[Option.isSome]at *;have HE:=a8 (D1.out false (by rw[HC.out];unfold Rf.or;rw[hb];rfl))
      clear D1 D9 E0 E1 E2 D3 E3 D2 E4;go_wp2
      go_meet
      exact HE.out
     |some q =>
      dsimp only[Option.isSome,Option.getD]at *;by_cases hq:q=[121,101,115]
      ·subst hq
       have te:=a2q [121,101,115];have HE:=a8 (D1.out false (by rw[HC.out];unfold Rf.or;rw[hb];rfl))
       clear D1 D9 E0 E1 E2 D3 E3 D2 E4;go_wp2
       go_meet
       exact HE.out
      ·have te:=a2p hq
       by_cases M0:q=[110,111]
       ·subst M0
        have te2:=a2q [110,111];have HE:=a8 (D1.out false (by rw[HC.out];unfold Rf.or;rw[hb];rfl))
        clear D1 D9 E0 E1 E2 D3 E3 D2 E4;go_wp2
        go_meet
        exact HE.out
       ·have te2:=a2p M0
        have HE:=a8 (D1.out true (by rw[HC.out];unfold Rf.or;rw[hb];unfold okC;simp[hq,M0]))
        clear D1 D9 E0 E1 E2 D3 E3 D2 E4;go_wp2
        go_meet
        exact HE.out
   case rest =>
    have R5:=a8 hcut;obtain⟨w9,R6⟩ : ∃w9:World,w9=wc:=⟨_,rfl⟩;subst R6;obtain⟨k9,N8⟩:=hcut.at';have R7:=a8 (D2.out w9 k9 N8);clear N8 D1 c3 cf dl hcut
    go_wp2_with fail
    refine R7.out.mono ?_;rintro e w10⟨rfl,E6⟩;obtain⟨k10,G4⟩:=E6.at';have M1:=a8 (E4.out w10 k10 G4);have M2:=a8 (R5.out.trans E6);clear E6 G4
    go_wp2_with fail
    refine M1.out.mono ?_;rintro e w11⟨rfl,G5⟩;have M4:=a8 (M2.out.trans G5);clear G5;go_wp2
    go_end0
    exact⟨rfl,M4.out⟩
theorem a9I:∀(k:Nat) (s:Rf),Kp s->s.rest.length<=100000->Kp (a1t k s)/\R6 (a1t k s)<=R6 s
 |0,s,h,_=>⟨h,c9 _⟩
 |k+1,s,h,hr=>by
  have h0:0<s.ns.length:=D7.2 h.ne;have hb:=(I8 s).len;have D0:(C8 s).ns=s.ns:=rfl;have D1:Kp (C8 s):=h.of D0;rw[a1t];split
  ·exact⟨h,c9 _⟩
  ·split
   ·next hc =>
    have hl:=a5W (n:=0) hc;have hn:=a9C 0 (C8 s);obtain⟨a1,a2⟩:=a9I k (a0d 0 (C8 s)) (b2K D1 (by omega) (Int.le_refl _) (by rw[D0];omega)) (by omega)
    refine⟨a1,d8 a2 ?_⟩;unfold R6;rw[hn,D0];omega
   ·split
    ·next hc =>
     have hl:=a5M (n:=0) hc;have hn:=a5L 0 (C8 s);obtain⟨a1,a2⟩:=a9I k (W5 0 (C8 s)) (a9g D1 (by omega) (Int.le_refl _) (by rw[D0];omega)) (by omega)
     refine⟨a1,d8 a2 ?_⟩;unfold R6;rw[hn,D0];omega
    ·refine⟨D1,?_⟩
     unfold R6;rw[D0];omega
theorem b8G(s:List UInt8):Kp (rf0 s):=by
 refine⟨by show[Y3]≠[];simp,rfl,fun j h1 h2 => ?_,(sm0 s).ns⟩
 have h2':j<1:=h2;omega
theorem b9a(s:Rf):(a3P s).ns=s.ns:=(congrArg Rf.ns (b3M s)).trans (b12 a0u s)
theorem b89(s:Rf):(a3v s).ns=s.ns:=(congrArg Rf.ns (b3L s)).trans (b12 Q2 s)
theorem b88(s:Rf):(a3u s).ns=s.ns:=(congrArg Rf.ns (b3K s)).trans (b12 V6 s)
theorem a9z(s:Rf):(a04 s).ns=s.ns:=by
 unfold a04;split
 ·generalize D1:D0 [60,63,120,109,108] s=s1
  have h1:s1.ns=s.ns:=by rw[<-D1];exact P5 _ _
  rw[<-h1];generalize D2:a3P s1=s2;have h2:s2.ns=s1.ns:=by rw[<-D2];exact b9a _
  rw[<-h2];generalize D3:a3v s2=s3;have h3:s3.ns=s2.ns:=by rw[<-D3];exact b89 _
  rw[<-h3];generalize D9:a3u s3=s4;have h4:s4.ns=s3.ns:=by rw[<-D9];exact b88 _
  rw[<-h4];rw[P5];rfl
 ·rfl
theorem kpA{s:List UInt8}(h:s.length<=100000):Kp (a1r s)/\R6 (a1r s)<=1+2*s.length/\(a1r s).rest.length<=s.length:=by
 have h1:=(a4b (rf0 s)).len;have h1':(a04 (rf0 s)).rest.length<=s.length:=h1;have hn:=a9z (rf0 s);obtain⟨a1,a2⟩:=a9I (s.length+1) (a04 (rf0 s)) ((b8G s).of hn) (by omega)
 refine⟨a1,d8 a2 ?_,d8 (X8 _ _).len h1'⟩;unfold R6;rw[hn]
 show 1+2*_<=_
 omega
theorem kpB{s:List UInt8}(h:s.length<=100000):Kp (a0a s)/\R6 (a0a s)<=2+2*s.length/\(a0a s).rest.length<=s.length:=by
 obtain⟨a1,a2,a3⟩:=kpA h;unfold a0a;split
 ·exact⟨a1,by omega,a3⟩
 ·have h0:0<(a1r s).ns.length:=D7.2 a1.ne
  obtain⟨b1,b2,_⟩:=b2E (s.length+1) 0 (a1r s) a1 (by omega) (by omega) (Int.le_refl _) (by omega)
  exact⟨b1,by omega,d8 (a1i _ _ _).len a3⟩
theorem kpC{s:List UInt8}(h:s.length<=100000):Kp (a0U s)/\R6 (a0U s)<=2+2*s.length/\(a0U s).rest.length<=s.length:=by
 obtain⟨a1,a2,a3⟩:=kpB h;unfold a0U;split
 ·exact⟨a1,a2,a3⟩
 ·obtain⟨b1,b2⟩:=a9I (s.length+1) (a0a s) a1 (by omega)
  exact⟨b1,by omega,d8 (X8 _ _).len a3⟩
theorem b55{W:World}{B g:Nat}(h:W.heap[g]? = some (.cells #[.int .i64 0,.int .i64 (-1),.string ⟨#[]⟩,.string ⟨#[]⟩,.string ⟨#[]⟩,.string ⟨#[]⟩,.slice none 0 0,.slice none 0 0] 42 (0,0)))(hB:B<=g):W.ownsRow B 42 8 (.slice (some ⟨g,0,none⟩) 1 1) 1 ([(⟨Y3,.slice none 0 0,.slice none 0 0⟩ : Ny)].flatMap nyC) :=
 ⟨rfl,.inr ⟨g,1,_,rfl,hB,h,c9 _,by decide,rfl,rfl⟩⟩
noncomputable def a7L(bs:List UInt8):Option (List Nd):=if a1q bs=true then a3Y (C4 bs)else none
def a7x(bs:List UInt8)(e:Ending)(w':World):Prop:=match a7L bs with
 |none=>e=.returned (.tuple #[.slice none 0 0,.int .i64 2])
 |some l=>if T7 l=0 then ∃v,S3 w' w'.heap.size v l/\e=.returned (.tuple #[v,.int .i64 0])else e=.returned (.tuple #[.slice none 0 0,.int .i64 (T7 l)])
end Go.Proofs.YteinegfbpfhflaaGreatDoor
