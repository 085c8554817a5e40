/-
  parse.Parse. Conditions: at most 40,000 bytes; upTo and behindDeclaration answer what they are to answer; the tables lie as they are laid.
  parse.behindDeclaration, isVersion, isStandalone. Conditions: the text isn't too long; isEncoding answers what it is to answer.
  parse.cursor: upTo, by what strings.IndexAny answers. Conditions: the text isn't too long; strings.IndexAny answers as the library's own index does.
  strings.IndexAny, where it lies in this program: one byte, or a text of more than eight bytes. Conditions: the text isn't too long.
  strings.IndexRune at a letter beyond ASCII and a text of ASCII: -1. Conditions: none.
-/
import Derived.Test.YtlgcigmolfhamaaGreatDoorK35
import Derived.Test.YtlgcigmolfhamaaGreatDoorK19
import Derived.Test.YtlgcigmolfhamaaGreatDoorK31
import Derived.Test.YtlgcigmolfhamaaGreatDoorK27
import Derived.Lib.IndexAny
import Derived.Shelf.Strings.IndexAnyAll
import Derived.Test.YtlgcigmolfhamaaGreatDoorK24
import Derived.Deep.LoopGhost
import Derived.Laws.RangeAny
namespace Go.Proofs.YtlgcigmolfhamaaGreatDoor
set_option linter.unusedVariables false
set_option maxRecDepth 100000
set_option maxHeartbeats 16000000
section
open Go.RowKit
theorem b6j{w:World}{B n:Nat}{v:Value}{ys:List Ny}(h:w.ownsRow B 46 8 v n (ys.flatMap nyC))(hl:ys.length=n)(h0:0<n)(hy:∀y∈ys,b5x w w.heap.size y):S3 w w.heap.size v (ys.map (·.x)):=by
 obtain⟨D1,h |⟨g,cap,cur,rfl,hg,hh,D3,D0,D9,D2⟩⟩:=h
 ·omega
 ·rw[<-hl]
  refine S3.of_rows (i3 hh) (by omega) (by unfold maxLen at D0;exact D0) hy (fun j u hu => ?_)
  rw[d9 w g j cur _ _ hh,<-A9];have hj:=(z8.1 hu).1;rw[N2 a2i,hl]at hj;rw[<-D2,List.getElem?_take_of_lt hj]at hu;exact hu
theorem b99{w:World}{B n:Nat}{v:Value}{ys:List Ny}(h:w.ownsRow B 46 8 v n (ys.flatMap nyC))(hl:ys.length=n)(hy:∀y∈ys,b5x w w.heap.size y):S3 w w.heap.size v (ys.map (·.x)):=by
 rcases B9 n with h0|h0
 ·have hz:ys=[]:=j8 (by omega)
  subst hz;obtain⟨A,c,rfl,h1,h2⟩:=q9 h;refine⟨A,c,by simp[h0],o4 _,h2,fun D0=>absurd rfl D0⟩
 ·exact b6j h hl h0 hy
noncomputable def a2Q(f:List UInt8->List UInt8)(bs:List UInt8):Option (List Nd):=if a1q bs=true then Q7 ((f (C4 bs)).length+1) (rd0 (f (C4 bs)))else none
def b5w(f:List UInt8->List UInt8)(bs:List UInt8)(B:Nat)(e:Ending)(w':World):Prop:=match a2Q f bs with
 |none=>e=.returned (.tuple #[.pointer none,.int .i64 2])
 |some l => ∃B',B<=B'/\b1D l B' e w'
theorem b4s(hU:a0s){f:List UInt8->List UInt8}(hF:a9P f)(A:Option Addr)(c:Nat)(bs:List UInt8)(w:World)(hB : 8<=w.heap.size)(hW:Wd w)(hl:Q3 w w.heap.size A (P6 bs))(hc:bs.length<=c)(G7:c<=9223372036854775807)(hn:bs.length<=40000) :
 Calls Tryz.prog 11 #[.slice A bs.length c] w fun e w'=>b5w f bs w.heap.size e w'/\Below w.heap.size w w':=by
 have D2:Hid (Calls Tryz.prog 41 #[.slice A bs.length c] w fun e w'=>e=.returned (.bool (a1q bs))/\Below w.heap.size w w'):=(a6e A c bs w hW.tabs.u hl hc G7 (by omega)).mono fun e w' ⟨h1,h2⟩=>⟨a1P h1,h2⟩
 have h0:¬(65536:Int)<(bs.length:Int):=by omega
 obtain⟨D,hD⟩ : ∃D,a2Q f bs=D:=⟨_,rfl⟩
 have D3:Hid (∀e w',(match D with
  |none=>e=.returned (.tuple #[.pointer none,.int .i64 2])
  |some l => ∃B',w.heap.size<=B'/\b1D l B' e w')->b5w f bs w.heap.size e w'):=fun e w' h=>by
  unfold b5w;rw[hD];exact h
 unfold a2Q at hD;cases ht:a1q bs with
 |false =>
  rw[ht]at D2 hD;rw[f6 (by decide)]at hD
  subst hD;clear hl ht hW hU hF;obtain⟨k,hk⟩ : ∃k,bs.length=k:=⟨_,rfl⟩;rw[hk]at D2 h0 ⊢;clear hk hc hn;go_enter Tryz.func11,Tryz.ntmps11
  go_wp2_with fail
  refine D2.out.mono ?_;rintro e w1⟨rfl,D0⟩;have D9:=a8 D0;clear D0;go_wp2
  go_ret2
  exact⟨D3.out _ _ rfl,D9.out⟩
 |true =>
  rw[ht]at D2 hD;rw[g8 rfl]at hD;have G0:=a2I bs;have E0:Hid (∀w1,Below w.heap.size w w1->(convert 22 9 (.slice A bs.length c)).run Tryz.prog w1=.ok (.string (ba bs)) w1):=fun w1 h=>I4 c (hl.below h)
  have E1:Hid (∀w1,Calls Tryz.prog 43 #[.string (ba bs)] w1 fun e w'=>e=.returned (.string (ba (C4 bs)))/\Below w1.heap.size w1 w'):=fun w1=>by
   have:=b4R (ba bs) (by rw[I9];omega) w1
   rw[B5]at this;exact this
  have E5:Hid (∀w1,8<=w1.heap.size->Wd w1->Calls Tryz.prog 42 #[.string (ba (C4 bs))] w1 fun e w'=>b7F D w1.heap.size e w'/\Below w1.heap.size w1 w'):=fun w1 h1 h2=>b59 hU hF w1 (C4 bs) (by omega) h1 h2 D hD
  have G1:=(hF (C4 bs) w (by omega) hW).1
  have HW:=a8 hW;cases D with
  |none =>
   clear hl ht hW hU hF hD G0 G1;obtain⟨L,hL⟩ : ∃L,C4 bs=L:=⟨_,rfl⟩;rw[hL]at E1 E5;obtain⟨S,hS⟩ : ∃S,ba bs=S:=⟨_,rfl⟩;rw[hS]at E1 E0;obtain⟨k,hk⟩ : ∃k,bs.length=k:=⟨_,rfl⟩;rw[hk]at D2 E0 h0 ⊢;clear hk hc hn hL hS;go_enter Tryz.func11,Tryz.ntmps11
   go_wp2_with fail
   refine D2.out.mono ?_;rintro e w1⟨rfl,D0⟩;have D9:=a8 D0;have E7:=E0.out w1 D0;clear D0
   go_wp2_with fail
   refine(E1.out w1).mono ?_;rintro e w2⟨rfl,E3⟩;have D1:=a8 (D9.out.trans (E3.mono D9.out.size));clear E3 E7
   go_wp2_with fail
   refine(E5.out w2 (d8 hB D1.out.size) (HW.out.low hB D1.out)).mono ?_;rintro e w3⟨⟨v,rfl⟩,E4⟩;have E2:=a8 (D1.out.trans (E4.mono D1.out.size));clear E4;go_wp2
   go_ret2
   exact⟨D3.out _ _ rfl,E2.out⟩
  |some l =>
   obtain⟨G4,E8⟩:=a6q _ (f (C4 bs)).length _ l (by omega) (b9Z _) (sm0 _) hD
   have G8:Hid (∀w3 vn vo vd vt ys rb B st,S7 w3 B rb st vn vo vd vt ys->st.ns=l->Wd w3->Calls Tryz.prog 44 #[vn] w3 fun e w'=>b1D l w3.heap.size e w'/\Below w3.heap.size w3 w'):=fun w3 vn vo vd vt ys rb B st h E6 hw=>by
    refine b96 l vn w3 ?_ (by omega) G4 hw
    rw[<-E6,<-h.ns];exact b99 h.rn rfl (fun y hy=>⟨a1R (h.ry y hy).1,a1R (h.ry y hy).2⟩)
   clear hl ht hW hU hF hD G0 G1 G4 E8;obtain⟨L,hL⟩ : ∃L,C4 bs=L:=⟨_,rfl⟩;rw[hL]at E1 E5;obtain⟨S,hS⟩ : ∃S,ba bs=S:=⟨_,rfl⟩;rw[hS]at E1 E0;obtain⟨k,hk⟩ : ∃k,bs.length=k:=⟨_,rfl⟩;rw[hk]at D2 E0 h0 ⊢;clear hk hc hn hL hS;go_enter Tryz.func11,Tryz.ntmps11
   go_wp2_with fail
   refine D2.out.mono ?_;rintro e w1⟨rfl,D0⟩;have D9:=a8 D0;have E7:=E0.out w1 D0;clear D0
   go_wp2_with fail
   refine(E1.out w1).mono ?_;rintro e w2⟨rfl,E3⟩;have D1:=a8 (D9.out.trans (E3.mono D9.out.size));clear E3 E7
   go_wp2_with fail
   refine(E5.out w2 (d8 hB D1.out.size) (HW.out.low hB D1.out)).mono ?_;rintro e w3⟨⟨rb,st,vn,vo,vd,vt,ys,G5,E6,rfl⟩,E4⟩;have E2:=a8 (D1.out.trans (E4.mono D1.out.size));have HC:=a8 (G8.out w3 vn vo vd vt ys rb _ st G5 E6 (HW.out.low hB E2.out));clear E4 G5 E6
   go_wp2_with fail
   refine HC.out.mono ?_;rintro e w4⟨ha,G6⟩;have G9:=a8 (E2.out.trans (G6.mono E2.out.size));have HA:=a8 (D3.out e w4 ⟨w3.heap.size,E2.out.size,ha⟩);clear G6;rcases ha with⟨_,rfl⟩|⟨_,_,rfl⟩|⟨_,_,d,rfl,_⟩
   all_goals
    go_wp2
    go_ret2
    exact⟨HA.out,G9.out⟩
end
section
open Go.RowKit
def isV(v:List UInt8):Bool:=decide (v=[49,46,48])
def isS(v:List UInt8):Bool:=decide (v=[121,101,115]∨v=[110,111])
def isE(v:List UInt8):Bool:=Lib.equalFold v [85,84,70,45,56]
def a3s:Prop:=L9 113 isE
theorem b7u(v l:List UInt8):((ba v).toList==l)=decide (v=l):=by
 rw[f9,B5];exact A8.2 (by rw[x8,decide_eq_true_iff])
theorem a58:L9 112 isV:=fun v w hl hW=>by
 unfold isV;have t:=b7u v [49,46,48];generalize decide (v=[49,46,48])=Bz at *;generalize ba v=Z at *;go_enter Tryz.func112,Tryz.ntmps112;go_wp2;go_ret;exact⟨rfl,b8 _ _⟩
theorem a98:L9 114 isS:=fun v w hl hW=>by
 unfold isS;have t1:=b7u v [121,101,115];have t2:=b7u v [110,111];by_cases h1:v=[121,101,115]
 ·rw[i6 h1]at t1
  rw[i6 (.inl h1)];clear h1;generalize ba v=Z at *;clear t2;go_enter Tryz.func114,Tryz.ntmps114;go_wp2;go_ret;exact⟨rfl,b8 _ _⟩
 ·rw[f8 h1]at t1
  by_cases h2:v=[110,111]
  ·rw[i6 h2]at t2
   rw[i6 (.inr h2)];clear h1 h2;generalize ba v=Z at *;go_enter Tryz.func114,Tryz.ntmps114;go_wp2;go_ret;exact⟨rfl,b8 _ _⟩
  ·rw[f8 h2]at t2
   rw[f8 (fun h=>h.elim h1 h2)];clear h1 h2;generalize ba v=Z at *;go_enter Tryz.func114,Tryz.ntmps114;go_wp2;go_ret;exact⟨rfl,b8 _ _⟩
def a0u:List UInt8:=[118,101,114,115,105,111,110]
def Q2:List UInt8:=[101,110,99,111,100,105,110,103]
def V6:List UInt8:=[115,116,97,110,100,97,108,111,110,101]
def L1(s:List UInt8):List UInt8 :=
 match m9 [60,63,120,109,108] s with
 |none=>s
 |some r=>match E7 a0u isV r with
  |none=>s
  |some r1=>match m9 [63,62] (n8 ((E7 V6 isS ((E7 Q2 isE r1).getD r1)).getD ((E7 Q2 isE r1).getD r1)))with
   |none=>s
   |some r4=>r4
theorem a5F{key:List UInt8}{may:List UInt8->Bool}{s r:List UInt8}(h:E7 key may s=some r):r.length<=s.length:=by
 unfold E7 at h
 split at h
 ·have hb:=I0 s
  cases h2:m9 key (n8 s)with
  |none=>rw[h2]at h;cases h
  |some r1 =>
   rw[h2]at h;dsimp only at h;cases h3:V3 r1 with
   |none=>rw[h3]at h;cases h
   |some r2 =>
    rw[h3]at h;dsimp only at h;cases h4:V0 r2 with
    |none=>rw[h4]at h;cases h
    |some q =>
     obtain⟨v,r3⟩:=q;rw[h4]at h;dsimp only at h
     split at h
     ·simp only[f5]at h
      subst h;have:=G5 h2;have:=a0o h3;have:=a1d h4;omega
     ·cases h
 ·cases h
theorem Z4(key:List UInt8)(may:List UInt8->Bool)(s:List UInt8):((E7 key may s).getD s).length<=s.length:=by
 cases h:E7 key may s with
 |none=>exact c9 _
 |some r=>exact a5F h
theorem a9x(s:List UInt8):(L1 s).length<=s.length:=by
 unfold L1;cases h1:m9 [60,63,120,109,108] s with
 |none=>exact c9 _
 |some r =>
  dsimp only;cases h2:E7 a0u isV r with
  |none=>exact c9 _
  |some r1 =>
   dsimp only
   split
   ·exact c9 _
   ·next r4 h3 =>
    have:=G5 h1;have:=a5F h2;have:=Z4 Q2 isE r1;have:=Z4 V6 isS ((E7 Q2 isE r1).getD r1);have:=I0 ((E7 V6 isS ((E7 Q2 isE r1).getD r1)).getD ((E7 Q2 isE r1).getD r1));have:=G5 h3;omega
theorem c0D(hE:a3s)(s:List UInt8)(w:World)(hl:s.length<=100000)(hW:Wd w)(h1:m9 [60,63,120,109,108] s=none):Calls Tryz.prog 75 #[.string (ba s)] w fun e w'=>e=.returned (.string (ba s))/\Below w.heap.size w w':=by
 have HW:=a8 hW;have E4:=a8 (c9 w.heap.size);have H0:=a8 (b8 w.heap.size w);have D9:Hid (∀w' cb,n0 w' cb (ba s)->_):=fun w' cb hc=>K9 s [60,63,120,109,108] cb w' hc h1;clear hW hE;obtain⟨Z,hZ⟩ : ∃Z,ba s=Z:=⟨_,rfl⟩;obtain⟨cb,D3⟩ : ∃cb,w.heap.size=cb:=⟨_,rfl⟩;have D0:(w.alloc (Obj.cells #[.string Z] 114)).heap[cb]? = some (.cells #[.string Z] 114 (0,0)):=by rw[<-D3];exact g9 w _
 have E0:=a8 D0;have D1:=a8 D3;have D2:=a8 (H0.out.alloc (c9 _) (Obj.cells #[.string Z] 114));rw[hZ]at D9 ⊢;have HZ:=a8 hZ;clear D0 hZ D3;go_enter Tryz.func75,Tryz.ntmps75
 go_upto_region 2 with fail
 rw[D1.out];obtain⟨w0,E1⟩ : ∃w0,w.alloc (Obj.cells #[.string Z] 114)=w0:=⟨_,rfl⟩;rw[E1]at E0 D2 ⊢;clear E1;have E2:Hid (n0 w0 cb Z):=⟨_,_,E0.out,rfl⟩;have E3:Hid (w.heap.size<=cb):=G2 D1.out
 go_wp2_with fail
 refine(D9.out w0 cb E2.out).mono ?_;rintro e w1⟨rfl,hc⟩;have E5:=a8 (hc.at E2.out);replace D2:=a8 (D2.out.trans (hc.below E3.out D2.out.size));clear hc;go_wp2;go_ret;exact⟨rfl,D2.out⟩
theorem c0C(hE:a3s)(s:List UInt8)(w:World)(hl:s.length<=100000)(hW:Wd w)(r:List UInt8)(h1:m9 [60,63,120,109,108] s=some r)(h2:E7 a0u isV r=none):Calls Tryz.prog 75 #[.string (ba s)] w fun e w'=>e=.returned (.string (ba s))/\Below w.heap.size w w':=by
 have HW:=a8 hW;have E5:=a8 (c9 w.heap.size);have H0:=a8 (b8 w.heap.size w);have E6:=G5 h1;have D9:Hid (∀w' cb,n0 w' cb (ba s)->_):=fun w' cb hc=>F2 s [60,63,120,109,108] r cb w' hc h1
 have HV:Hid (∀w' cb,n0 w' cb (ba r)->Wd w'->Calls Tryz.prog 111 #[.pointer (some ⟨cb,0,none⟩),.string (ba a0u),.func (.func 112) #[] #[]] w' fun e w''=>e=.returned (.bool false)/\N7 cb (ba r) w' w''):=fun w' cb hc hw=>by
  have:=a4P isV a58 a0u r cb w' hc (by omega) hw
  rw[h2]at this;exact this
 clear hW hE;obtain⟨Z,hZ⟩ : ∃Z,ba s=Z:=⟨_,rfl⟩;obtain⟨cb,D3⟩ : ∃cb,w.heap.size=cb:=⟨_,rfl⟩;have D1:(w.alloc (Obj.cells #[.string Z] 114)).heap[cb]? = some (.cells #[.string Z] 114 (0,0)):=by rw[<-D3];exact g9 w _
 have E0:=a8 D1;have D2:=a8 D3;have D0:=a8 (H0.out.alloc (c9 _) (Obj.cells #[.string Z] 114));rw[hZ]at D9 ⊢;have HZ:=a8 hZ;clear D1 hZ D3;go_enter Tryz.func75,Tryz.ntmps75
 go_upto_region 2 with fail
 rw[D2.out];obtain⟨w0,E1⟩ : ∃w0,w.alloc (Obj.cells #[.string Z] 114)=w0:=⟨_,rfl⟩;rw[E1]at E0 D0 ⊢;clear E1;have E2:Hid (n0 w0 cb Z):=⟨_,_,E0.out,rfl⟩;have E3:Hid (w.heap.size<=cb):=G2 D2.out
 go_wp2_with fail
 refine(D9.out w0 cb E2.out).mono ?_;rintro e w1⟨rfl,hc⟩;have E4:=a8 (hc.at E2.out);replace D0:=a8 (D0.out.trans (hc.below E3.out D0.out.size));clear hc
 go_wp2_with fail
 refine(HV.out w1 cb E4.out (HW.out.low2 D0.out)).mono ?_;rintro e w2⟨rfl,hc⟩;have E8:=a8 (hc.at E4.out);replace D0:=a8 (D0.out.trans (hc.below E3.out D0.out.size));clear hc;go_wp2;go_ret;exact⟨rfl,D0.out⟩
theorem c0B(hE:a3s)(s:List UInt8)(w:World)(hl:s.length<=100000)(hW:Wd w)(r r1:List UInt8)(h1:m9 [60,63,120,109,108] s=some r)(h2:E7 a0u isV r=some r1)(h3:m9 [63,62] (n8 ((E7 V6 isS ((E7 Q2 isE r1).getD r1)).getD ((E7 Q2 isE r1).getD r1)))=none):Calls Tryz.prog 75 #[.string (ba s)] w fun e w'=>e=.returned (.string (ba s))/\Below w.heap.size w w':=by
 have HW:=a8 hW;have G9:=a8 (c9 w.heap.size);have H0:=a8 (b8 w.heap.size w);have J1:=G5 h1;have E1:Hid (∀w' cb,n0 w' cb (ba s)->_):=fun w' cb hc=>F2 s [60,63,120,109,108] r cb w' hc h1;have J2:=a5F h2
 have HV:Hid (∀w' cb,n0 w' cb (ba r)->Wd w'->Calls Tryz.prog 111 #[.pointer (some ⟨cb,0,none⟩),.string (ba a0u),.func (.func 112) #[] #[]] w' fun e w''=>e=.returned (.bool true)/\N7 cb (ba r1) w' w''):=fun w' cb hc hw=>by
  have:=a4P isV a58 a0u r cb w' hc (by omega) hw
  rw[h2]at this;exact this
 have G4:Hid (∀w' cb,n0 w' cb (ba r1)->Wd w'->_):=fun w' cb hc hw=>a7J isE hE Q2 r1 cb w' hc (by omega) hw
 have J3:=Z4 Q2 isE r1;generalize (E7 Q2 isE r1).isSome=Be at *;generalize (E7 Q2 isE r1).getD r1=r2 at *;have G6:Hid (∀w' cb,n0 w' cb (ba r2)->Wd w'->_):=fun w' cb hc hw=>a7I isS a98 V6 r2 cb w' hc (by omega) hw
 have J4:=Z4 V6 isS r2;generalize (E7 V6 isS r2).isSome=Bs at *;generalize (E7 V6 isS r2).getD r2=r3 at *;have G7:Hid (∀w' cb,n0 w' cb (ba r3)->_):=fun w' cb hc=>D9 r3 cb w' hc (by omega)
 generalize decide ((n8 r3).length<r3.length)=Bb at *;have G8:Hid (∀w' cb,n0 w' cb (ba (n8 r3))->_):=fun w' cb hc=>K9 (n8 r3) [63,62] cb w' hc h3;clear hW hE;obtain⟨Z,hZ⟩ : ∃Z,ba s=Z:=⟨_,rfl⟩;obtain⟨cb,E0⟩ : ∃cb,w.heap.size=cb:=⟨_,rfl⟩;have D2:(w.alloc (Obj.cells #[.string Z] 114)).heap[cb]? = some (.cells #[.string Z] 114 (0,0)):=by rw[<-E0];exact g9 w _
 have E2:=a8 D2;have D3:=a8 E0;have D0:=a8 (H0.out.alloc (c9 _) (Obj.cells #[.string Z] 114));rw[hZ]at E1 ⊢;have HZ:=a8 hZ;clear D2 hZ E0;go_enter Tryz.func75,Tryz.ntmps75
 go_upto_region 2 with fail
 rw[D3.out];obtain⟨w0,E3⟩ : ∃w0,w.alloc (Obj.cells #[.string Z] 114)=w0:=⟨_,rfl⟩;rw[E3]at E2 D0 ⊢;clear E3;have E4:Hid (n0 w0 cb Z):=⟨_,_,E2.out,rfl⟩;have D1:Hid (w.heap.size<=cb):=G2 D3.out
 go_wp2_with fail
 refine(E1.out w0 cb E4.out).mono ?_;rintro e w1⟨rfl,hc⟩;have E5:=a8 (hc.at E4.out);replace D0:=a8 (D0.out.trans (hc.below D1.out D0.out.size));clear hc
 go_wp2_with fail
 refine(HV.out w1 cb E5.out (HW.out.low2 D0.out)).mono ?_;rintro e w2⟨rfl,hc⟩;have E6:=a8 (hc.at E5.out);replace D0:=a8 (D0.out.trans (hc.below D1.out D0.out.size));clear hc
 go_wp2_with fail
 refine(G4.out w2 cb E6.out (HW.out.low2 D0.out)).mono ?_;rintro e w3⟨rfl,hc⟩;have E8:=a8 (hc.at E6.out);replace D0:=a8 (D0.out.trans (hc.below D1.out D0.out.size));clear hc
 go_wp2_with fail
 refine(G6.out w3 cb E8.out (HW.out.low2 D0.out)).mono ?_;rintro e w4⟨rfl,hc⟩;have G0:=a8 (hc.at E8.out);replace D0:=a8 (D0.out.trans (hc.below D1.out D0.out.size));clear hc
 go_wp2_with fail
 refine(G7.out w4 cb G0.out).mono ?_;rintro e w5⟨rfl,hc⟩;have G1:=a8 (hc.at G0.out);replace D0:=a8 (D0.out.trans (hc.below D1.out D0.out.size));clear hc
 go_wp2_with fail
 refine(G8.out w5 cb G1.out).mono ?_;rintro e w6⟨rfl,hc⟩;have J5:=a8 (hc.at G1.out);replace D0:=a8 (D0.out.trans (hc.below D1.out D0.out.size));clear hc;go_wp2;go_ret;exact⟨rfl,D0.out⟩
theorem c0A(hE:a3s)(s:List UInt8)(w:World)(hl:s.length<=100000)(hW:Wd w)(r r1 r4:List UInt8)(h1:m9 [60,63,120,109,108] s=some r)(h2:E7 a0u isV r=some r1)(h3:m9 [63,62] (n8 ((E7 V6 isS ((E7 Q2 isE r1).getD r1)).getD ((E7 Q2 isE r1).getD r1)))=some r4):Calls Tryz.prog 75 #[.string (ba s)] w fun e w'=>e=.returned (.string (ba r4))/\Below w.heap.size w w':=by
 have HW:=a8 hW;have J1:=a8 (c9 w.heap.size);have H0:=a8 (b8 w.heap.size w);have J2:=G5 h1;have E1:Hid (∀w' cb,n0 w' cb (ba s)->_):=fun w' cb hc=>F2 s [60,63,120,109,108] r cb w' hc h1;have J3:=a5F h2
 have HV:Hid (∀w' cb,n0 w' cb (ba r)->Wd w'->Calls Tryz.prog 111 #[.pointer (some ⟨cb,0,none⟩),.string (ba a0u),.func (.func 112) #[] #[]] w' fun e w''=>e=.returned (.bool true)/\N7 cb (ba r1) w' w''):=fun w' cb hc hw=>by
  have:=a4P isV a58 a0u r cb w' hc (by omega) hw
  rw[h2]at this;exact this
 have G4:Hid (∀w' cb,n0 w' cb (ba r1)->Wd w'->_):=fun w' cb hc hw=>a7J isE hE Q2 r1 cb w' hc (by omega) hw
 have J4:=Z4 Q2 isE r1;generalize (E7 Q2 isE r1).isSome=Be at *;generalize (E7 Q2 isE r1).getD r1=r2 at *;have G6:Hid (∀w' cb,n0 w' cb (ba r2)->Wd w'->_):=fun w' cb hc hw=>a7I isS a98 V6 r2 cb w' hc (by omega) hw
 have J5:=Z4 V6 isS r2;generalize (E7 V6 isS r2).isSome=Bs at *;generalize (E7 V6 isS r2).getD r2=r3 at *;have G7:Hid (∀w' cb,n0 w' cb (ba r3)->_):=fun w' cb hc=>D9 r3 cb w' hc (by omega)
 generalize decide ((n8 r3).length<r3.length)=Bb at *;have G8:Hid (∀w' cb,n0 w' cb (ba (n8 r3))->_):=fun w' cb hc=>F2 (n8 r3) [63,62] r4 cb w' hc h3;clear hW hE;obtain⟨Z,hZ⟩ : ∃Z,ba s=Z:=⟨_,rfl⟩;obtain⟨cb,E0⟩ : ∃cb,w.heap.size=cb:=⟨_,rfl⟩;have D2:(w.alloc (Obj.cells #[.string Z] 114)).heap[cb]? = some (.cells #[.string Z] 114 (0,0)):=by rw[<-E0];exact g9 w _
 have E2:=a8 D2;have D3:=a8 E0;have D0:=a8 (H0.out.alloc (c9 _) (Obj.cells #[.string Z] 114));rw[hZ]at E1 ⊢;have HZ:=a8 hZ;clear D2 hZ E0;go_enter Tryz.func75,Tryz.ntmps75
 go_upto_region 2 with fail
 rw[D3.out];obtain⟨w0,E3⟩ : ∃w0,w.alloc (Obj.cells #[.string Z] 114)=w0:=⟨_,rfl⟩;rw[E3]at E2 D0 ⊢;clear E3;have E4:Hid (n0 w0 cb Z):=⟨_,_,E2.out,rfl⟩;have D1:Hid (w.heap.size<=cb):=G2 D3.out
 go_wp2_with fail
 refine(E1.out w0 cb E4.out).mono ?_;rintro e w1⟨rfl,hc⟩;have E5:=a8 (hc.at E4.out);replace D0:=a8 (D0.out.trans (hc.below D1.out D0.out.size));clear hc
 go_wp2_with fail
 refine(HV.out w1 cb E5.out (HW.out.low2 D0.out)).mono ?_;rintro e w2⟨rfl,hc⟩;have E6:=a8 (hc.at E5.out);replace D0:=a8 (D0.out.trans (hc.below D1.out D0.out.size));clear hc
 go_wp2_with fail
 refine(G4.out w2 cb E6.out (HW.out.low2 D0.out)).mono ?_;rintro e w3⟨rfl,hc⟩;have E8:=a8 (hc.at E6.out);replace D0:=a8 (D0.out.trans (hc.below D1.out D0.out.size));clear hc
 go_wp2_with fail
 refine(G6.out w3 cb E8.out (HW.out.low2 D0.out)).mono ?_;rintro e w4⟨rfl,hc⟩;have G0:=a8 (hc.at E8.out);replace D0:=a8 (D0.out.trans (hc.below D1.out D0.out.size));clear hc
 go_wp2_with fail
 refine(G7.out w4 cb G0.out).mono ?_;rintro e w5⟨rfl,hc⟩;have G1:=a8 (hc.at G0.out);replace D0:=a8 (D0.out.trans (hc.below D1.out D0.out.size));clear hc
 go_wp2_with fail
 refine(G8.out w5 cb G1.out).mono ?_;rintro e w6⟨rfl,hc⟩;have G9:=a8 (hc.at G1.out);replace D0:=a8 (D0.out.trans (hc.below D1.out D0.out.size));clear hc;have q0:=G9.out.cell;go_wp2;go_ret;exact⟨rfl,D0.out⟩
theorem b7r(hE:a3s):a9P L1:=fun s w hl hW=>by
 refine⟨a9x s,?_⟩;unfold L1;cases h1:m9 [60,63,120,109,108] s with
 |none=>exact c0D hE s w hl hW h1
 |some r =>
  dsimp only;cases h2:E7 a0u isV r with
  |none=>exact c0C hE s w hl hW r h1 h2
  |some r1 =>
   dsimp only;cases h3:m9 [63,62] (n8 ((E7 V6 isS ((E7 Q2 isE r1).getD r1)).getD ((E7 Q2 isE r1).getD r1)))with
   |none=>exact c0B hE s w hl hW r r1 h1 h2 h3
   |some r4=>exact c0A hE s w hl hW r r1 r4 h1 h2 h3
end
section
open Go.RowKit
def b3Y:Prop:=∀(s e:List UInt8) (w:World),s.length<=100000->e=[60]∨e=[32,9,10]∨e=[32,9,10,61,47,62]->Calls Tryz.prog 198 #[.string (ba s),.string (ba e)] w fun r w'=>r=.returned (.int .i64 (Lib.indexAny s e))/\Below w.heap.size w w'
theorem b5E(e:List UInt8):∀s:List UInt8,(Lib.indexAny s e = -1/\G9 e s=s/\J9 e s=[])∨(∃n:Nat,Lib.indexAny s e=n/\n<s.length/\G9 e s=s.take n/\J9 e s=s.drop n)
 | [] => .inl ⟨rfl,rfl,rfl⟩
 |c::s=>by
  cases hc:e.contains c with
  |true =>
   refine .inr ⟨0,?_,by simp,?_,?_⟩
   ·rw[Lib.indexAny,g8 hc];rfl
   ·unfold G9;rw[List.takeWhile_cons_of_neg (by simp only[hc];decide)];rfl
   ·unfold J9;rw[List.dropWhile_cons_of_neg (by simp only[hc];decide)];rfl
  |false =>
   have ha:G9 e (c::s)=c::G9 e s:=by unfold G9;rw[List.takeWhile_cons_of_pos (by simp only[hc];decide)]
   have hb:J9 e (c::s)=J9 e s:=by unfold J9;rw[List.dropWhile_cons_of_pos (by simp only[hc];decide)]
   rw[ha,hb];rcases b5E e s with⟨h1,h2,h3⟩|⟨n,h1,h2,h3,h4⟩
   ·refine .inl ⟨?_,by rw[h2],h3⟩
    rw[Lib.indexAny,f6 (by rw[hc];decide),h1];rfl
   ·refine .inr ⟨n+1,?_,by simp;omega,by rw[h3];rfl,by rw[h4];rfl⟩
    rw[Lib.indexAny,f6 (by rw[hc];decide),h1]
    rw[show(((n:Int) == -1)=false)from e9.2 (by omega)]
    simp only[Bool.false_eq_true,if_false];omega
theorem b7X(hI:b3Y):a0s:=fun s e b w h hl he=>by
 have D2:=a0S e s;have c0:=h.cell;have f0:=h.frozen;have HS:=a8 h;have HI:=a8 (hI s e w hl he);clear h he hI;rcases b5E e s with⟨h1,h2,h3⟩|⟨n,h1,h2,h3,h4⟩
 ·rw[h1]at HI
  rw[h2,h3];clear h1 h2 h3 D2;have D1:(ba s).size=s.length:=I9 s;obtain⟨E,hE⟩ : ∃E,ba e=E:=⟨_,rfl⟩;rw[hE]at HI ⊢;clear hE;obtain⟨S,hS⟩ : ∃S,ba s=S:=⟨_,rfl⟩;rw[hS]at HI HS c0 D1 ⊢;have HZ:=a8 hS;obtain⟨k,hk⟩ : ∃k,s.length=k:=⟨_,rfl⟩;rw[hk]at D1 hl;clear hS hk;go_enter Tryz.func157,Tryz.ntmps157
  go_wp2_with fail
  refine HI.out.mono ?_;rintro r w1⟨rfl,hb⟩;have HB:=a8 hb;have D0:=HS.out.below hb;have q0:=D0.cell;have q1:=D0.frozen;clear hb D0 c0 f0;go_wp2;have E0:S.extract 0 k=S:=G0 (by rw[J5,<-D1,j9,I1,List.drop_zero])
  go_ret;exact⟨congrArg (fun x=>Ending.returned (Value.string x)) E0,(N7.of_below HS.out HB.out).trans (N7.set (HS.out.below HB.out) (ba []))⟩
 ·rw[h1]at HI
  have D3:ba (G9 e s)=(ba s).extract 0 n:=G0 (by rw[J5,B5,B5,h3,List.drop_zero])
  have D9:ba (J9 e s)=(ba s).extract n s.length:=G0 (by rw[J5,B5,B5,h4,I1])
  rw[D3,D9];clear h1 h3 h4 D3 D9 D2;have D1:(ba s).size=s.length:=I9 s;obtain⟨E,hE⟩ : ∃E,ba e=E:=⟨_,rfl⟩;rw[hE]at HI ⊢;clear hE;obtain⟨S,hS⟩ : ∃S,ba s=S:=⟨_,rfl⟩;rw[hS]at HI HS c0 D1 ⊢;obtain⟨k,hk⟩ : ∃k,s.length=k:=⟨_,rfl⟩;rw[hk]at D1 hl h2 ⊢;clear hS hk;have E1:¬(n:Int)<0:=by omega
  go_enter Tryz.func157,Tryz.ntmps157
  go_wp2_with fail
  refine HI.out.mono ?_;rintro r w1⟨rfl,hb⟩;have HB:=a8 hb;have D0:=HS.out.below hb;have q0:=D0.cell;have q1:=D0.frozen;clear hb D0 c0 f0;go_wp2;go_ret;exact⟨rfl,(N7.of_below HS.out HB.out).trans (N7.set (HS.out.below HB.out) _)⟩
end
section
open Go.RowKit Go.Shelf
def b9W:Ren:={
 f:=fun x=>match x with|119 => 235 | 137 => 234 | 152 => 220 | 153 => 198 | 217 => 241 | 224 => 236 | 225 => 237 | 226 => 221 | 227 => 222 | 228 => 223 | 266 => 245 | n=>n
 t:=fun x=>match x with|0 => 0 | 3 => 3 | 4 => 4 | 5 => 5 | 9 => 9 | 21 => 21 | 46 => 137 | 116 => 225 | 117 => 226 | 124 => 240 | n=>n
 g:=fun x=>x }
theorem b3m:Lays.n153 Tryz.prog b9W:={ mixed:=rfl,f119:=Tryz.func235.trans (congrArg some rfl),f137:=Tryz.func234.trans (congrArg some rfl),f152:=Tryz.func220.trans (congrArg some rfl),f153:=Tryz.func198.trans (congrArg some rfl),f217:=Tryz.func241.trans (congrArg some rfl),f224:=Tryz.func236.trans (congrArg some rfl),f225:=Tryz.func237.trans (congrArg some rfl),f226:=Tryz.func221.trans (congrArg some rfl),f227:=Tryz.func222.trans (congrArg some rfl),f228:=Tryz.func223.trans (congrArg some rfl),f266:=Tryz.func245.trans (congrArg some rfl),t0:=Tryz.underlying0,a0:=Tryz.isAgg0,z0:=Tryz.sizeOf0,v0:=Tryz.zeroValue0,t3:=Tryz.underlying3,a3:=Tryz.isAgg3,z3:=Tryz.sizeOf3,v3:=Tryz.zeroValue3,t4:=Tryz.underlying4,a4:=Tryz.isAgg4,z4:=Tryz.sizeOf4,v4:=Tryz.zeroValue4,t5:=Tryz.underlying5,a5:=Tryz.isAgg5,z5:=Tryz.sizeOf5,v5:=Tryz.zeroValue5,t9:=Tryz.underlying9,a9:=Tryz.isAgg9,z9:=Tryz.sizeOf9,v9:=Tryz.zeroValue9,t21:=Tryz.underlying21,a21:=Tryz.isAgg21,z21:=Tryz.sizeOf21,v21:=Tryz.zeroValue21,t46:=Tryz.underlying137,a46:=Tryz.isAgg137,z46:=Tryz.sizeOf137,v46:=Tryz.zeroValue137,t116:=Tryz.underlying225,a116:=Tryz.isAgg225,z116:=Tryz.sizeOf225,t117:=Tryz.underlying226,a117:=Tryz.isAgg226,z117:=Tryz.sizeOf226,v117:=Tryz.zeroValue226,t124:=Tryz.underlying240,a124:=Tryz.isAgg240,z124:=Tryz.sizeOf240,v124:=Tryz.zeroValue240 }
theorem b7x{e:List UInt8}(he:e=[60]∨e=[32,9,10]∨e=[32,9,10,61,47,62]):∀(j:Nat) b,(ba e).data.toList[j]? = some b->b.toNat<128:=fun j b h=>by
 rw[B5]at h;have hm:=List.mem_of_getElem? h;rcases he with rfl|rfl|rfl
 ·simp only[r8]at hm;subst hm;decide
 ·simp only[q8,C5,or_false]at hm
  rcases hm with rfl|rfl|rfl<;>decide
 ·simp only[q8,C5,or_false]at hm
  rcases hm with rfl|rfl|rfl|rfl|rfl|rfl<;>decide
theorem b8I(s:List UInt8)(w:World):Calls Tryz.prog 198 #[.string (ba s),.string (ba [60])] w fun r w'=>r=.returned (.int .i64 (Lib.indexAny s [60]))/\w'=w:=by
 have:=Any.strings_IndexAny_one b3m (ba s) (ba [60]) w rfl (b7x (.inl rfl));rw[B5,B5]at this;exact this
theorem b6N(s e:List UInt8)(w:World)(he:e=[60]∨e=[32,9,10]∨e=[32,9,10,61,47,62])(h2:2<=e.length)(h8:8<s.length)(hs:s.length<=100000):Calls Tryz.prog 198 #[.string (ba s),.string (ba e)] w fun r w'=>r=.returned (.int .i64 (Lib.indexAny s e))/\Below w.heap.size w w':=by
 have D0:e.length<=6:=by rcases he with rfl|rfl|rfl<;>decide
 have:=Any.strings_IndexAny_long b3m (fun w=>by kernel_rfl) (by kernel_rfl) (ba s) (ba e) w (by rw[I9];exact h2) (by rw[I9];exact h8) (by rw[I9];omega) (by rw[I9];omega) (b7x he)
 rw[B5,B5]at this;refine this.mono fun r w' ⟨h1,h2⟩=>⟨h1,?_⟩;rw[h2];exact((b8 _ _).alloc (c9 _) _).alloc ((b8 _ _).alloc (c9 _) _).size _
def a8u:Prop:=∀(s e:List UInt8) (w:World),s.length<=8->e=[32,9,10]∨e=[32,9,10,61,47,62]->Calls Tryz.prog 198 #[.string (ba s),.string (ba e)] w fun r w'=>r=.returned (.int .i64 (Lib.indexAny s e))/\Below w.heap.size w w'
theorem b6M(hS:a8u):b3Y:=fun s e w hl he=>by
 rcases he with rfl|he
 ·exact(b8I s w).mono fun r w' ⟨h1,h2⟩=>⟨h1,h2 ▸ b8 _ _⟩
 ·by_cases h8:8<s.length
  ·exact b6N s e w (.inr he) (by rcases he with rfl|rfl<;>decide) h8 hl
  ·exact hS s e w (by omega) he
end
section
open Go.RowKit Go.Shelf
theorem b50(S:ByteArray)(r:Int)(h:128<=r)(h1:r≠65533)(hb:R7 r=false)(w:World):Calls Tryz.prog 220 #[.string S,.int .i32 r] w fun e w'=>e=.returned (.int .i64 (-1))/\w'=w:=by
 have HV:=a8 (a0G r w);rw[hb]at HV;have h2:(0:Int)<=r:=by omega
 have h3:¬r<128:=by omega
 have h4:(r==65533)=false:=e9.2 h1;clear hb h h1;go_enter Tryz.func220,Tryz.ntmps220
 go_wp2_with fail
 refine HV.out.mono ?_;rintro e w1⟨rfl,hw⟩;subst hw;go_wp2;go_ret;exact⟨rfl,rfl⟩
theorem b5Y(S:ByteArray)(hS:∀(j:Nat) b,S.data.toList[j]? = some b->b.toNat<128)(w:World):Calls Tryz.prog 220 #[.string S,.int .i32 65533] w fun e w'=>e=.returned (.int .i64 (-1))/\Below w.heap.size w w':=by
 have HA:=a8 hS;clear hS;go_enter Tryz.func220,Tryz.ntmps220;go_wp2
 go_loopg [5,6] S.size (fun g _ _ wx => ∃i:Nat,i+g=S.size/\wx=w.iter S i)
 case atStart=>exact⟨0,by omega,rfl⟩
 case round =>
  obtain⟨i,D2,rfl⟩:=hrel;cases gk with
  |zero =>
   obtain rfl:i=S.size:=by omega
   have D1:=run_next_end (P:=Tryz.prog) w S S.size;go_wp2;go_ret;exact⟨rfl,(b8 _ _).alloc (c9 _) _⟩
  |succ g =>
   have hi:i<S.size:=by omega
   obtain⟨x,hx⟩ : ∃x:UInt8,S[i]'hi=x:=⟨_,rfl⟩;have D0:x.toNat<128:=HA.out i x (by rw[<-hx];exact Lib.data_getElem? S i hi)
   have D1:=fun ty=>run_next_ascii (P:=Tryz.prog) w S i ty hi (by rw[hx];exact D0)
   rw[hx]at D1;have D3:((x.toNat:Int)==65533)=false:=e9.2 (by omega)
   clear hx;go_wp2
   go_roundg g
   case measure=>omega
   case rel=>exact⟨i+1,by omega,rfl⟩
end
end Go.Proofs.YtlgcigmolfhamaaGreatDoor
