/-
  apostilleref08.Parse. Conditions: an element is read as it is to be; at most 40,000 bytes.
  apostilleref08: element, and Parse, with no premise. Conditions: at most 40,000 bytes.
  What parse.Parse answers, and the document's own reader: the same. Conditions: at most 40,000 bytes.
  apostillelaw08.ParseReads. Conditions: the tables lie as they are laid; awake answers as it is to.
-/
import Derived.Test.YteinegfbpfhflaaGreatDoorK52
import Derived.Test.YteinegfbpfhflaaGreatDoorKQEl2
import Derived.Test.YteinegfbpfhflaaGreatDoorK37
import Derived.Test.YteinegfbpfhflaaGreatDoorK56
import Derived.Test.YteinegfbpfhflaaGreatDoorKROne
namespace Go.Proofs.YteinegfbpfhflaaGreatDoor
open Go.RowKit
set_option linter.unusedVariables false
set_option maxRecDepth 100000
set_option maxHeartbeats 64000000
def At8(B:Nat)(w:World)(rb:Nat)(S:ByteArray)(s:Rf)(wx:World):Prop:=(∃vn ys,S5 wx B rb S s vn ys)/\Below B w wx
theorem At8.add{B rb:Nat}{S:ByteArray}{s:Rf}{vn:Value}{w w1 w2:World}(h:Below B w w1)(ha:U4 B rb S s vn w1 w2):At8 B w rb S s w2:=by
 obtain⟨⟨v,ys,h1,_⟩,h2⟩:=ha;exact⟨⟨v,ys,h1⟩,h.trans h2⟩
theorem b2f(HE:∀f,b7N f)(A:Option Addr)(c:Nat)(bs:List UInt8)(w:World)(hl:Q3 w w.heap.size A (P6 bs))(hc:bs.length<=c)(P0:c<=9223372036854775807)(hn:bs.length<=40000) :
 Calls Tryz.prog 13 #[.slice A bs.length c] w fun e w'=>a7x bs e w'/\Below w.heap.size w w':=by
 have E3:Hid (Calls Tryz.prog 31 #[.slice A bs.length c] w fun e w'=>e=.returned (.bool (a1q bs))/\Below w.heap.size w w'):=(a2C A c bs w hl hc P0 (by omega)).mono fun e w' ⟨h1,h2⟩=>⟨a1P h1,h2⟩
 have h0:¬(65536:Int)<(bs.length:Int):=by omega
 cases ht:a1q bs with
 |false =>
  rw[ht]at E3;have hR:a7L bs=none:=by unfold a7L;rw[f6 (by rw[ht];decide)]
  have D0:Hid (∀w',a7x bs (.returned (.tuple #[.slice none 0 0,.int .i64 2])) w'):=fun w'=>by unfold a7x;rw[hR]
  clear hl ht hR;obtain⟨k,hk⟩ : ∃k,bs.length=k:=⟨_,rfl⟩;rw[hk]at E3 h0 ⊢;clear hk hc hn;go_enter Tryz.func13,Tryz.ntmps13
  go_wp2_with fail
  refine E3.out.mono ?_;rintro e w1⟨rfl,E4⟩;have G8:=a8 E4;clear E4;go_wp2
  go_ret2
  exact⟨D0.out _,G8.out⟩
 |true =>
  rw[ht]at E3;have L4:=a2I bs;have hR:a7L bs=a3Y (C4 bs):=by unfold a7L;rw[g8 ht]
  have J3:Hid (∀w1,Below w.heap.size w w1->(convert 22 9 (.slice A bs.length c)).run Tryz.prog w1=.ok (.string (ba bs)) w1):=fun w1 h=>I4 c (hl.below h)
  have G9:Hid (∀w1,Calls Tryz.prog 32 #[.string (ba bs)] w1 fun e w'=>e=.returned (.string (ba (C4 bs)))/\Below w1.heap.size w1 w'):=fun w1=>by
   have:=a8N (ba bs) (by rw[I9];omega) w1
   rw[B5]at this;exact this
  have D0:Hid (∀e w',(match a3Y (C4 bs)with
   |none=>e=.returned (.tuple #[.slice none 0 0,.int .i64 2])
   |some l=>if T7 l=0 then ∃v,S3 w' w'.heap.size v l/\e=.returned (.tuple #[v,.int .i64 0])else e=.returned (.tuple #[.slice none 0 0,.int .i64 (T7 l)]))->a7x bs e w'):=fun e w' h=>by
   unfold a7x;rw[hR];exact h
  obtain⟨L,hL⟩ : ∃L,C4 bs=L:=⟨_,rfl⟩;rw[hL]at G9 D0 L4;have R7:L.length<=40000:=by omega
  obtain⟨Z,hZ⟩ : ∃Z,ba bs=Z:=⟨_,rfl⟩;rw[hZ]at G9 J3;obtain⟨k,hk⟩ : ∃k,bs.length=k:=⟨_,rfl⟩;rw[hk]at E3 J3 h0 ⊢;obtain⟨S,hS⟩ : ∃S,ba L=S:=⟨_,rfl⟩;rw[hS]at G9;have L5:S.data.toList=L:=by rw[<-hS];exact B5 L
  have R8:S.size=L.length:=by rw[<-hS];exact I9 L
  have P1:=a8 L5;have J4:S.size<=100000:=by omega
  clear hl ht hR hL hk hc hn hS hZ L4 L5;obtain⟨kA1,kA2,kA3⟩:=kpA (s:=L) (by omega)
  obtain⟨kB1,kB2,kB3⟩:=kpB (s:=L) (by omega)
  obtain⟨kC1,kC2,kC3⟩:=kpC (s:=L) (by omega)
  have R9:=a8 kA1;have S0:=a8 kB1;have P2:=a8 kC1;have L6:L.length<=100000:=by omega
  have L7:(a04 (rf0 L)).ns.length+(a04 (rf0 L)).rest.length<=800000:=by
   rw[a9z];have h1:=(a4b (rf0 L)).len;have h2:(rf0 L).rest.length=L.length:=rfl
   show 1+_<=_
   omega
  have L8:(a04 (rf0 L)).rest.length<L.length+1:=by
   have h1:=(a4b (rf0 L)).len;have h2:(rf0 L).rest.length=L.length:=rfl;omega
  have E6:Hid (∀w' rb v,U5 w' rb S v (rf0 L) 0->Calls Tryz.prog 33 #[.pointer (some ⟨rb,0,none⟩)] w' fun e w''=>e=.returned (.tuple #[])/\M3 rb S v (a04 (rf0 L)) w' w''):=fun w' rb v hm=>by
   cases hd:a1k (rf0 L).rest with
   |true=>exact b86 S rb v (rf0 L) w' hm (by omega) hd
   |false =>
    have e:a04 (rf0 L)=rf0 L:=by unfold a04;rw[f6 (by rw[hd];decide)]
    rw[e];exact b7b S rb v (rf0 L) w' hm (by omega) hd
  have E7:Hid (∀B w' rb v ys,S5 w' B rb S (a04 (rf0 L)) v ys->Calls Tryz.prog 34 #[.pointer (some ⟨rb,0,none⟩)] w' fun e w''=>e=.returned (.tuple #[])/\U4 B rb S (a1r L) v w' w''):=fun B w' rb v ys hm=>a8r S B rb (a04 (rf0 L)) v ys (L.length+1) w' hm (by omega) L8 L7
  have D9:Hid (∀B w' rb v ys,S5 w' B rb S (a1r L) v ys->Calls Tryz.prog 35 #[.pointer (some ⟨rb,0,none⟩),.int .i64 0] w' fun e w''=>e=.returned (.tuple #[])/\U4 B rb S (M0 (L.length+1) 0 (a1r L)) v w' w''):=fun B w' rb v ys hm=>HE (L.length+1) S B rb (a1r L) v ys 0 w' hm J4 (by omega) (by omega) kA1 (Int.le_refl _) (by have:=D7.2 kA1.ne;omega) (by omega)
  have D1:Hid (∀B w' rb v ys,S5 w' B rb S (a0a L) v ys->Calls Tryz.prog 34 #[.pointer (some ⟨rb,0,none⟩)] w' fun e w''=>e=.returned (.tuple #[])/\U4 B rb S (a1t (L.length+1) (a0a L)) v w' w''):=fun B w' rb v ys hm=>a8r S B rb (a0a L) v ys (L.length+1) w' hm (by omega) (by omega) (by unfold R6 at kB2;omega)
  have D2:Hid (∀B w' rb v ys,S5 w' B rb S (a0U L) v ys->Calls Tryz.prog 36 #[v] w' fun e w''=>e=.returned (.int .i64 (T7 (a0U L).ns))/\Below w'.heap.size w' w''):=fun B w' rb v ys hm=>b5k (a0U L).ns v w' (hm.nsAt (fun e=>by
   have h1:=hm.ns;rw[e]at h1;exact kC1.ne h1.symm)) (by unfold R6 at kC2;omega) kC1.sm
  clear kA1 kB1 kC1 kA2 kB2 kC2 kA3 kB3 kC3 L7 L8;go_enter Tryz.func13,Tryz.ntmps13
  go_wp2_with fail
  refine E3.out.mono ?_;rintro e w1⟨rfl,E4⟩;have G8:=a8 E4;have P3:=J3.out w1 E4;clear E4
  go_wp2_with fail
  refine(G9.out w1).mono ?_;rintro e w2⟨rfl,L9⟩;have M1:=a8 (G8.out.trans (L9.mono G8.out.size));clear L9 P3
  go_upto_region 6 with fail
  obtain⟨gb,E5⟩ : ∃gb,w2.heap.size=gb:=⟨_,rfl⟩;obtain⟨w3,E8⟩ : ∃w3,(w2.alloc (Obj.cells #[.int .i64 0,.int .i64 (-1),.string ⟨#[]⟩,.string ⟨#[]⟩,.string ⟨#[]⟩,.string ⟨#[]⟩,.slice none 0 0,.slice none 0 0] 42)).alloc (Obj.cells #[.string S,.int .i64 0,.slice (some ⟨gb,0,none⟩) 1 1,.bool false] 64)=w3:=⟨_,rfl⟩;have J5:w.heap.size<=gb:=by rw[<-E5];exact M1.out.size
  have M2:Below gb w2 w3:=by rw[<-E8,<-E5];exact(((b8 _ _).alloc (c9 _) _).alloc (by simp) _)
  have M4:w3.heap[gb]? = some (.cells #[.int .i64 0,.int .i64 (-1),.string ⟨#[]⟩,.string ⟨#[]⟩,.string ⟨#[]⟩,.string ⟨#[]⟩,.slice none 0 0,.slice none 0 0] 42 (0,0)):=by
   obtain⟨wy,G0⟩ : ∃wy,w2.alloc (Obj.cells #[.int .i64 0,.int .i64 (-1),.string ⟨#[]⟩,.string ⟨#[]⟩,.string ⟨#[]⟩,.string ⟨#[]⟩,.slice none 0 0,.slice none 0 0] 42)=wy:=⟨_,rfl⟩;have h1:wy.heap[gb]? = some (.cells #[.int .i64 0,.int .i64 (-1),.string ⟨#[]⟩,.string ⟨#[]⟩,.string ⟨#[]⟩,.string ⟨#[]⟩,.slice none 0 0,.slice none 0 0] 42 (0,0)):=by rw[<-G0,<-E5];exact g9 w2 _
   rw[<-E8,G0,((b8 wy.heap.size wy).alloc (c9 _) _).block gb (i3 h1)];exact h1
  have M5:w3.heap[gb+1]? = some (.cells #[.string S,.int .i64 0,.slice (some ⟨gb,0,none⟩) 1 1,.bool false] 64 (0,0)):=by
   obtain⟨wy,G0⟩ : ∃wy,w2.alloc (Obj.cells #[.int .i64 0,.int .i64 (-1),.string ⟨#[]⟩,.string ⟨#[]⟩,.string ⟨#[]⟩,.string ⟨#[]⟩,.slice none 0 0,.slice none 0 0] 42)=wy:=⟨_,rfl⟩;have h1:wy.heap.size=gb+1:=by rw[<-G0,<-E5];simp
   rw[<-E8,G0,<-h1];exact g9 wy _
  have E0:U5 w3 (gb+1) S (.slice (some ⟨gb,0,none⟩) 1 1) (rf0 L) 0:=⟨o4 _,by rw[P1.out];rfl,M5⟩
  have M6:S5 w3 w.heap.size (gb+1) S (rf0 L) (.slice (some ⟨gb,0,none⟩) 1 1) [⟨Y3,.slice none 0 0,.slice none 0 0⟩] :=
   ⟨by omega,⟨0,E0⟩,rfl,b55 M4 J5,fun y hy=>by rw[r8.1 hy];exact⟨r5 _ _ _ _,r5 _ _ _ _⟩⟩
  have J6:=a8 M6;have J7:=a8 (E6.out w3 (gb+1) _ E0);have M7:=a8 (M1.out.trans (M2.mono J5));rw[E5,E8];obtain⟨rb,J8⟩ : ∃rb,gb+1=rb:=⟨_,rfl⟩;obtain⟨v0,M8⟩ : ∃v0,Value.slice (some ⟨gb,0,none⟩) 1 1=v0:=⟨_,rfl⟩;rw[J8,M8]at J6 J7;rw[J8];have P4:w.heap.size<=rb:=by omega
  clear M4 M5 E0 M6 E8 E5 M2 J8 M8 J5
  go_wp2_with fail
  refine J7.out.mono ?_;rintro e w4⟨rfl,J9⟩;have h4:=J6.out.rst J9 (a9z _);have P5:=a8 (M7.out.trans (J9.below P4 M7.out.size));have P7:=a8 (E7.out _ w4 rb _ _ h4);clear J9 h4 E6 E7 J6 J7
  go_wp2_with fail
  refine P7.out.mono ?_;rintro e w5⟨rfl,M9⟩;have L0:=a8 (At8.add P5.out M9);clear M9;obtain⟨⟨v5,y5,h5⟩,G1⟩:=L0.out;obtain⟨k5,E1⟩:=h5.rc;have c3:=E1.cells.2.2.2;have cl:=E1.lt;have G4:=a8 (D9.out _ w5 rb v5 y5 h5);have G5:=a8 G1;have H5:=a8 h5;clear h5 G1 E1;obtain⟨bA,L1⟩ : ∃bA,(a1r L).bad=bA:=⟨_,rfl⟩;rw[L1]at c3;have N0:=a8 L1;clear L1
  go_upto_if 27 with fail
  go_cut [] (fun wx=>At8 w.heap.size w rb S (a0a L) wx)
  case first =>
   clear D9 D1 D2 c3;have hb:=N0.out;cases bA with
   |true =>
    have e:a0a L=a1r L:=by unfold a0a;rw[g8 hb]
    have E2:=a8 e;clear e;go_wp2
    go_meet
    rw[E2.out];exact L0.out
   |false =>
    have e:a0a L=M0 (L.length+1) 0 (a1r L):=by unfold a0a;rw[f6 (by rw[hb];decide)]
    have E2:=a8 e;clear e
    go_wp2_with fail
    refine G4.out.mono ?_;rintro e w6⟨rfl,G6⟩;have G7:=a8 (At8.add G5.out G6);clear G6
    go_wp2_with fail
    go_meet
    rw[E2.out];exact G7.out
  case rest =>
   obtain⟨w6,P8⟩ : ∃w6:World,w6=wc:=⟨_,rfl⟩;subst P8;have G7:=a8 hcut;clear hcut L0 D9 G4 G5 H5 c3 cl v5 y5 k5 N0;obtain⟨⟨v5,y5,h5⟩,G1⟩:=G7.out;obtain⟨k5,E1⟩:=h5.rc;have c3:=E1.cells.2.2.2;have cl:=E1.lt;have G4:=a8 (D1.out _ w6 rb v5 y5 h5);have G5:=a8 G1;clear h5 G1 E1;obtain⟨bB,L2⟩ : ∃bB,(a0a L).bad=bB:=⟨_,rfl⟩;rw[L2]at c3;have N1:=a8 L2;clear L2
   go_upto_if 34 with fail
   go_cut [] (fun wx=>At8 w.heap.size w rb S (a0U L) wx)
   case first =>
    clear D1 D2 c3;have hb:=N1.out;cases bB with
    |true =>
     have e:a0U L=a0a L:=by unfold a0U;rw[g8 hb]
     have E2:=a8 e;clear e;go_wp2
     go_meet
     rw[E2.out];exact G7.out
    |false =>
     have e:a0U L=a1t (L.length+1) (a0a L):=by unfold a0U;rw[f6 (by rw[hb];decide)]
     have E2:=a8 e;clear e
     go_wp2_with fail
     refine G4.out.mono ?_;rintro e w7⟨rfl,G6⟩;have P9:=a8 (At8.add G5.out G6);clear G6
     go_wp2_with fail
     go_meet
     rw[E2.out];exact P9.out
   case rest =>
    obtain⟨w7,R0⟩ : ∃w7:World,w7=wc:=⟨_,rfl⟩;subst R0;clear G4 G5 c3 cl v5 y5 k5 N1;obtain⟨⟨v7,y7,h7⟩,N2⟩:=hcut;obtain⟨k7,D3⟩:=h7.rc;obtain⟨c0,c1,c2,c3⟩:=D3.cells;have cl:=D3.lt;have N3:=D3.le;have L3:=D3.len;have N4:=a8 (fun m=>D2.out _ (w7.drewN m) rb v7 y7 (h7.below (i7 (b8 _ _) m)));have H7:=a8 h7;have J1:=a8 N2;have S1:=a8 D3;clear h7 N2 D3 D1 D2 G7;generalize N5:a0U L=sC at *;have N6:a3Y L=if sC.bad=true∨sC.rest≠[]then none else some sC.ns:=by unfold a3Y;rw[N5]
    rw[N6]at D0;clear N6 N5
    go_upto_region 12 with fail
    cases hb:sC.bad with
    |true =>
     rw[hb]at c3;rw[g8 (.inl hb)]at D0;clear hb
     go_quiet (fail)
     go_wp2
     go_ret2
     exact⟨D0.out _ _ rfl,i7 J1.out _⟩
    |false =>
     rw[hb]at c3;by_cases hr:sC.rest=[]
     ·have D3:k7=S.size:=by rw[hr,t7]at L3;omega
      subst D3;have hd:decide ((S.size:Int)<(S.size:Int))=false:=f8 (by omega)
      rw[f6 (by rw[hb,hr];simp)]at D0
      have N7:y7≠[]:=fun e=>by
       have h1:=H7.out.ns;rw[e]at h1;exact P2.out.ne h1.symm
      have R1:=a8 N7;clear hb hr N7 L3 N3
      go_quiet (fail)
      go_wp2_with fail
      refine(N4.out _).mono ?_;rintro e w8⟨rfl,J2⟩;have N8:=(H7.out.below (i7 (b8 _ _) nq)).below J2;have c2':w8.cell? ⟨rb,2,none⟩=some v7:=(J2.cell (p:=⟨rb,2,none⟩) cl).trans c2;have R2:=a8 (N8.nsAt R1.out);have N9:=a8 ((i7 J1.out nq).trans (J2.mono (i7 J1.out nq).size));clear J2 N8 c0 c1 c2 c3 N4
      have R3:Hid (T7 sC.ns=0->∀w' v,S3 w' w'.heap.size v sC.ns->a7x bs (.returned (.tuple #[v,.int .i64 0])) w'):=fun h w' v hv=>D0.out _ _ (by
       show(if T7 sC.ns=0 then _ else _)
       rw[g8 h];exact⟨v,hv,rfl⟩)
      have R4:Hid (T7 sC.ns≠0->∀w',a7x bs (.returned (.tuple #[.slice none 0 0,.int .i64 (T7 sC.ns)])) w'):=fun h w'=>D0.out _ _ (by
       show(if T7 sC.ns=0 then _ else _)
       rw[f6 h])
      clear D0;generalize T7 sC.ns=E at *;by_cases hz:E=0
      ·subst hz
       go_wp2
       go_ret2
       exact⟨R3.out (by first|trivial|rfl) _ _ R2.out,N9.out⟩
      ·have S2:(E != 0)=true:=by simpa using hz
       go_wp2
       go_ret2
       exact⟨R4.out hz _,N9.out⟩
     ·rw[g8 (.inr hr)]at D0
      have R5:(k7:Int)<(S.size:Int):=by
       have:=D7.2 hr;omega
      have hd:decide ((k7:Int)<(S.size:Int))=true:=i6 R5;clear hb hr L3 N3
      go_quiet (fail)
      go_wp2
      go_ret2
      exact⟨D0.out _ _ rfl,i7 J1.out _⟩
theorem b3D:∀f,b7N f
 |0=>fun S B rb s vn ys n w h hS hf h1=>absurd h1 (by omega)
 |f+1=>a9r (b3D f)
theorem b2g(A:Option Addr)(c:Nat)(bs:List UInt8)(w:World)(hl:Q3 w w.heap.size A (P6 bs))(hc:bs.length<=c)(D0:c<=9223372036854775807)(hn:bs.length<=40000) :
 Calls Tryz.prog 13 #[.slice A bs.length c] w fun e w'=>a7x bs e w'/\Below w.heap.size w w':=b2f b3D A c bs w hl hc D0 hn
def c0R(D:Int ⊕ List Nd)(e:Ending)(w':World):Prop:=match D with
 | .inl E=>e=.returned (.tuple #[.slice none 0 0,.int .i64 E])
 | .inr l => ∃v,S3 w' w'.heap.size v l/\e=.returned (.tuple #[v,.int .i64 0])
theorem b69{bs:List UInt8}(h:∀l,a2Q L1 bs=some l->K6 l=false):X4 bs=.inl 2:=by
 unfold X4
 split
 ·rfl
 ·next l hl=>rw[h l hl];rfl
theorem b9Y{bs:List UInt8}{e:Ending}{w':World}(hn:bs.length<=40000)(h:a7x bs e w'):c0R (X4 bs) e w':=by
 unfold a7x a7L at h;unfold X4 a2Q;cases ht:a1q bs with
 |false =>
  rw[ht]at h;rw[f6 (by decide)]
  rw[f6 (by decide)]at h
  exact h
 |true =>
  rw[ht]at h;rw[g8 rfl];rw[g8 rfl]at h;rcases b58 (C4 bs) (b0O bs)with⟨l,h1,h2⟩|⟨h1,h2⟩
  ·rw[h1]at h
   have h2':Q7 ((L1 (C4 bs)).length+1) (rd0 (L1 (C4 bs)))=some l:=h2;rw[h2'];have D1:∀x∈l,Sm x:=a4v hn (by unfold a2Q;rw[g8 ht];exact h2')
   have D0:=b0X D1;dsimp only at h ⊢;unfold T7 at h;rw[D0]at h;cases hf:K6 l with
   |false=>rw[hf]at h;exact h
   |true =>
    rw[hf]at h;cases hw:J6 l with
    |false=>rw[hw]at h;exact h
    |true=>rw[hw]at h;exact h
  ·have hE:X4 bs=.inl 2:=b69 fun l hl=>by
    unfold a2Q at hl;rw[g8 ht]at hl;exact h2 l hl
   unfold X4 a2Q at hE;rw[g8 ht]at hE;rw[hE];cases hx:a3Y (C4 bs)with
   |none=>rw[hx]at h;exact h
   |some l =>
    rw[hx]at h;have hf:=h1 l hx;have hk:=kpC (s:=C4 bs) (by have:=a2I bs;omega)
    have hl:l=(a0U (C4 bs)).ns:=by
     unfold a3Y at hx
     split at hx
     ·cases hx
     ·exact(Option.some.inj hx).symm
    have D0:=b0X (l:=l) (by rw[hl];exact hk.1.sm)
    dsimp only at h;have hc:T7 l=2:=by unfold T7;rw[D0,hf];rfl
    rw[hc,f6 (by decide)]at h
    exact h
theorem b6e(A:Option Addr)(c:Nat)(bs:List UInt8)(w:World)(hl:Q3 w w.heap.size A (P6 bs))(hc:bs.length<=c)(D0:c<=9223372036854775807)(hn:bs.length<=40000) :
 Calls Tryz.prog 13 #[.slice A bs.length c] w fun e w'=>c0R (X4 bs) e w'/\Below w.heap.size w w':=(b2g A c bs w hl hc D0 hn).mono fun e w' ⟨h1,h2⟩=>⟨b9Y hn h1,h2⟩
theorem b5X(A1 A2:Option Addr)(c1 c2:Nat)(w:World):Calls Tryz.prog 14 #[.slice A1 0 c1,.slice A2 0 c2] w fun e w'=>e=.returned (.bool true)/\Below w.heap.size w w':=by
 go_enter Tryz.func14,Tryz.ntmps14;go_wp2
 go_loopw [13] (fun i wx=>i=.int .i64 0/\wx=w) (fun i _=>0)
 case atStart=>exact⟨rfl,rfl⟩
 case round =>
  obtain⟨rfl,rfl⟩:=hrel;go_wp2;go_ret;exact⟨rfl,b8 _ _⟩
theorem b1M{l:List Nd}(h:J6 l=true):l.length<=4000:=by
 unfold J6 at h;exact(of_decide_eq_true h).1
theorem b4o(HA:b1I)(A:Option Addr)(c:Nat)(bs:List UInt8)(w:World)(hB : 8<=w.heap.size)(hW:Wd w)(hl:Q3 w w.heap.size A (P6 bs))(hc:bs.length<=c)(E1:c<=9223372036854775807) :
 Calls Tryz.prog 3 #[.slice A bs.length c] w fun e w'=>e=.returned (.bool true)/\Below w.heap.size w w':=by
 have E8:Hid (∀w1,Below w.heap.size w w1->Calls Tryz.prog 11 #[] w1 fun e w'=>e=.returned (.bool true)/\Below w1.heap.size w1 w'):=fun w1 hb=>HA w1 (d8 hB hb.size) (hW.low hB hb);by_cases hn:bs.length<=1500
 ·have h0:¬(1500:Int)<(bs.length:Int):=by omega
  have G5:=f8 h0;have HP:Hid (∀w1,Below w.heap.size w w1->Calls Tryz.prog 12 #[.slice A bs.length c] w1 fun e w'=>b1G (X4 bs) w1.heap.size e w'/\Below w1.heap.size w1 w'):=fun w1 hb=>a32 A c bs w1 (d8 hB hb.size) (hW.low hB hb) ((hl.below hb).mono hb.size) hc E1 (by omega)
  have HF:Hid (∀w1,Below w.heap.size w w1->Calls Tryz.prog 13 #[.slice A bs.length c] w1 fun e w'=>c0R (X4 bs) e w'/\Below w1.heap.size w1 w'):=fun w1 hb=>b6e A c bs w1 ((hl.below hb).mono hb.size) hc E1 (by omega)
  cases hD:X4 bs with
  |inl E =>
   rw[hD]at HP HF;have J7:(E != 0)=true:=by rcases b1g hD with rfl|rfl<;>rfl
   have J8:(E==0)=false:=by rcases b1g hD with rfl|rfl<;>rfl
   obtain⟨k,hk⟩ : ∃k,bs.length=k:=⟨_,rfl⟩;rw[hk]at HP HF G5 h0 ⊢;clear hl hc E1 hk hn hD hW hB;go_enter Tryz.func3,Tryz.ntmps3
   go_wp2_with fail
   refine(E8.out _ (b8 _ _)).mono ?_;rintro e w1⟨rfl,D0⟩;have D2:=a8 D0;have E2:=a8 (HP.out w1 D0);clear D0
   go_wp2_with fail
   refine E2.out.mono ?_;rintro e w2⟨he,D3⟩;have he':e=.returned (.tuple #[.pointer none,.int .i64 E]):=he;subst he';have D1:=a8 (D2.out.trans (D3.mono D2.out.size));have G0:=a8 (HF.out w2 D1.out);clear D3 he
   go_wp2_with fail
   refine G0.out.mono ?_;rintro e w3⟨he,E0⟩;have he':e=.returned (.tuple #[.slice none 0 0,.int .i64 E]):=he;subst he';have E3:=a8 (D1.out.trans (E0.mono D1.out.size));clear E0 he
   go_wp2_with fail
   refine(a4U _).mono ?_;rintro e w4⟨A4,c4,rfl,D9⟩;have E4:=a8 (E3.out.trans (D9.mono E3.out.size));clear D9
   go_wp2_with fail
   refine(b5X _ _ _ _ _).mono ?_;rintro e w5⟨rfl,E5⟩;have G1:=a8 (E4.out.trans (E5.mono E4.out.size));clear E5;go_wp2;go_ret;exact⟨rfl,G1.out⟩
  |inr l =>
   rw[hD]at HP HF;obtain⟨G6,J2,G7⟩:=a2R hD;have G8:∀x∈l,Sm x:=a4v (by omega) G6
   have J3:=b1M G7;have G9:=a8 G8;obtain⟨k,hk⟩ : ∃k,bs.length=k:=⟨_,rfl⟩;rw[hk]at HP HF G5 h0 ⊢;clear hl hc E1 hk hn hD hW hB G6 J2 G7 G8;go_enter Tryz.func3,Tryz.ntmps3
   go_wp2_with fail
   refine(E8.out _ (b8 _ _)).mono ?_;rintro e w1⟨rfl,D0⟩;have D2:=a8 D0;have E2:=a8 (HP.out w1 D0);clear D0
   go_wp2_with fail
   refine E2.out.mono ?_;rintro e w2⟨⟨d,B',hB',rfl,E6⟩,D3⟩;have D1:=a8 (D2.out.trans (D3.mono D2.out.size));have G0:=a8 (HF.out w2 D1.out);have G4:=a8 E6;clear D3 hB' E6
   go_wp2_with fail
   refine G0.out.mono ?_;rintro e w3⟨⟨v,hv,rfl⟩,E0⟩;have E3:=a8 (D1.out.trans (E0.mono D1.out.size));have J4:=a8 (a0Q.later G4.out E0);have J1:=a8 hv;have J5:=a8 (a4V w3 J4.out (by omega) G9.out)
   clear E0 hv;obtain⟨Av,cv,rfl,_,_⟩:=J1.out.slice
   go_wp2_with fail
   refine J5.out.mono ?_;rintro e w4⟨v4,rfl,E7,D9⟩;have E4:=a8 (E3.out.trans (D9.mono E3.out.size));have J6:=a8 (b0j l v4 _ w4 (E7.at (by omega) G9.out) ((J1.out.below D9).mono D9.size))
   clear D9 E7
   go_wp2_with fail
   refine J6.out.mono ?_;rintro e w5⟨rfl,E5⟩;have G1:=a8 (E4.out.trans (E5.mono E4.out.size));clear E5;go_wp2;go_ret;exact⟨rfl,G1.out⟩
 ·have h0:(1500:Int)<(bs.length:Int):=by omega
  obtain⟨k,hk⟩ : ∃k,bs.length=k:=⟨_,rfl⟩;rw[hk]at h0 ⊢;clear hl hc E1 hk hn hW hB;go_enter Tryz.func3,Tryz.ntmps3
  go_wp2_with fail
  refine(E8.out _ (b8 _ _)).mono ?_;rintro e w1⟨rfl,D0⟩;have D2:=a8 D0;have E2:=a8 (E8.out w1 D0);clear D0
  go_wp2_with fail
  refine E2.out.mono ?_;rintro e w2⟨rfl,D3⟩;have D1:=a8 (D2.out.trans (D3.mono D2.out.size));clear D3;go_wp2;go_ret;exact⟨rfl,D1.out⟩
end Go.Proofs.YteinegfbpfhflaaGreatDoor
