/-
  apostilleref08.Reader: marks. Conditions: the reader and the element lie as they are; nothing is too long.
-/
import Derived.Test.YteinegfbpfhflaaGreatDoorK46
namespace Go.Proofs.YteinegfbpfhflaaGreatDoor
open Go.RowKit
set_option linter.unusedVariables false
set_option maxRecDepth 100000
set_option maxHeartbeats 64000000
theorem b0v{w:World}{B W0 e s n:Nat}{v:Value}{xs:List Value}(h:w.ownsRow W0 e s v n xs)(hB:B<=W0):w.ownsRow B e s v n xs:=by
 obtain⟨h1,h2 |⟨g,cap,cur,rfl,hg,hr⟩⟩:=h
 ·exact⟨h1,.inl h2⟩
 ·exact⟨h1,.inr ⟨g,cap,cur,rfl,d8 hB hg,hr⟩⟩
abbrev b4y:Value:=.slice none 0 0
theorem a9b:b4y.ownBlock=none:=rfl
structure RX8(w:World)(B W0 rb xb:Nat)(S:ByteArray)(s:Rf)(vn:Value)(ys:List Ny)(x:Nd):Prop where
 rd:S5 w B rb S s vn ys
 bx:W0<=xb
 nx:vn.ownBlock≠some xb
 at':∃vD vA,w.heap[xb]? = some (.cells #[.int .i64 x.k,.int .i64 x.n,.string x.p,.string x.l,.string x.u,.string x.t,vD,vA] 42 (0,0))/\a0X w W0 ys b4y vD vA x.ds x.ats
structure Oth(W0 rb:Nat)(w w':World):Prop where
 els:∀b,b<W0->b≠rb->w'.heap[b]? = w.heap[b]?
 size:w.heap.size<=w'.heap.size
theorem Oth.refl(W0 rb:Nat)(w:World):Oth W0 rb w w:=⟨fun _ _ _=>rfl,c9 _⟩
theorem Oth.trans{W0 rb:Nat}{w w1 w2:World}(h:Oth W0 rb w w1)(h':Oth W0 rb w1 w2):Oth W0 rb w w2:=⟨fun b h1 h2=>(h'.els b h1 h2).trans (h.els b h1 h2),d8 h.size h'.size⟩
theorem Oth.rst{W0 rb:Nat}{S:ByteArray}{v:Value}{s:Rf}{w w':World}(hr:M3 rb S v s w w')(hW:W0<=w.heap.size):Oth W0 rb w w':=⟨fun b h1 h2=>hr.other b (by omega) h2,hr.size⟩
theorem Oth.of{W0 rb:Nat}{w w':World}(h:Below W0 w w'):Oth W0 rb w w':=⟨fun b h1 _=>h.block b h1,h.size⟩
theorem RX8.rst{w w':World}{B W0 rb xb:Nat}{S:ByteArray}{s s':Rf}{vn:Value}{ys:List Ny}{x:Nd}(h:RX8 w B W0 rb xb S s vn ys x)(hr:M3 rb S vn s' w w')(hn:s'.ns=s.ns):RX8 w' B W0 rb xb S s' vn ys x:=by
 obtain⟨k,hk⟩:=h.rd.rc;obtain⟨vD,vA,hb,hx⟩:=h.at';have D0:∀(b:Nat) (e:TypeId) (cs:Array Value),e≠64->w.heap[b]? = some (.cells cs e (0,0))->w'.heap[b]? = w.heap[b]?:=fun b e cs he hb=>hr.other b (i3 hb) (B7 hb hk.box he);exact⟨h.rd.rst hr hn,h.bx,h.nx,vD,vA,(D0 xb _ _ (by decide) hb).trans hb,r6 hx.rD (fun b _ ⟨cs,hb⟩=>D0 b _ cs (by decide) hb),r6 hx.rA (fun b _ ⟨cs,hb⟩=>D0 b _ cs (by decide) hb),hx.dd,hx.yd,hx.ya⟩
theorem RX8.below{w w':World}{B W0 rb xb:Nat}{S:ByteArray}{s:Rf}{vn:Value}{ys:List Ny}{x:Nd}(h:RX8 w B W0 rb xb S s vn ys x)(hb:Below w.heap.size w w'):RX8 w' B W0 rb xb S s vn ys x:=by
 obtain⟨k,hk⟩:=h.rd.rc;exact h.rst (M3.of hk hb) rfl
theorem S5.setNode{w:World}{B rb:Nat}{S:ByteArray}{s:Rf}{vn:Value}{ys:List Ny}(h:S5 w B rb S s vn ys){z j:Nat}{cs:Array Value}{u:Value}(hz:w.heap[z]? = some (.cells cs 42 (0,0)))(hn:vn.ownBlock≠some z):S5 (w.setCell ⟨z,j,none⟩ u) B rb S s vn ys:=by
 obtain⟨k,hk⟩:=h.rc;refine⟨h.lo,⟨k,hk.le,hk.rest,(f7 _ _ _ _ (fun e=>B7 hk.box hz (by decide) e)).trans hk.box⟩,h.ns,r6 h.rn (fun b hb _=>f7 _ _ _ _ (fun e=>hn (hb.trans (congrArg some e)))),fun y hy=>⟨r6 (h.ry y hy).1 (fun b _ ⟨cs,hc⟩=>f7 _ _ _ _ (fun e=>B7 hc hz (by decide) e)),r6 (h.ry y hy).2 (fun b _ ⟨cs,hc⟩=>f7 _ _ _ _ (fun e=>B7 hc hz (by decide) e))⟩⟩
theorem a5N{w w1:World}{B W0 rb:Nat}{S:ByteArray}{s:Rf}{vn vD vA v1:Value}{ys:List Ny}{ds:List Dc}{as':List At}{d:Dc}(h:S5 w B rb S s vn ys)(hx:a0X w W0 ys b4y vD vA ds as')(D0:∀b,b<w.heap.size->vD.ownBlock≠some b->w1.heap[b]? = w.heap[b]?)(D3:v1.ownBlock=vD.ownBlock∨∀b,v1.ownBlock=some b->w.heap.size<=b)(D1:w1.ownsRow W0 48 2 v1 (ds.length+1) ((ds++[d]).flatMap dcC)) :
 S5 w1 B rb S s vn ys/\a0X w1 W0 ys b4y v1 vA (ds++[d]) as':=by
 have D9:∀{b0 e q n:Nat} {v:Value} {xs:List Value},w.ownsRow b0 e q v n xs->(v.ownBlock=none∨v.ownBlock≠vD.ownBlock)->v.ownBlock=none∨v.ownBlock≠v1.ownBlock:=fun {b0 e q n v xs} ho D2=>by
  rcases D3 with h1|h1
  ·rw[h1];exact D2
  ·cases hv:v.ownBlock with
   |none=>exact .inl rfl
   |some b =>
    refine .inr (fun e0 => ?_);have:=h1 b e0.symm;have:=(ho.lt b hv).2;omega
 have keep:∀{b0 e q n:Nat} {v:Value} {xs:List Value},w.ownsRow b0 e q v n xs->(v.ownBlock=none∨v.ownBlock≠vD.ownBlock)->w1.ownsRow b0 e q v n xs:=fun {b0 e q n v xs} ho D2=>r6 ho (fun b hb ⟨cs,hc⟩=>D0 b (i3 hc) (fun e0=>by
  rcases D2 with h0|h0
  ·rw[hb]at h0;cases h0
  ·exact h0 (hb.trans e0.symm)))
 have kt:∀{b0 e q n:Nat} {v:Value} {xs:List Value},w.ownsRow b0 e q v n xs->e≠48->w1.ownsRow b0 e q v n xs:=fun {b0 e q n v xs} ho he=>r6 ho (fun b hb ⟨cs,hc⟩=>D0 b (i3 hc) (O4 hx.rD hc (Ne.symm he)));obtain⟨k,hk⟩:=h.rc;refine⟨⟨h.lo,⟨k,hk.le,hk.rest,(D0 rb hk.lt (O4 hx.rD hk.box (by decide))).trans hk.box⟩,h.ns,kt h.rn (by decide),fun y hy=>⟨keep (h.ry y hy).1 (hx.yd y hy),kt (h.ry y hy).2 (by decide)⟩⟩,⟨(by rw[e8,j0];exact D1),kt hx.rA (by decide),(by cases hq:v1.ownBlock with|none=>exact .inl rfl|some b=>exact .inr (by rw[a9b];simp)),fun y hy=>D9 (h.ry y hy).1 (hx.yd y hy),hx.ya⟩⟩
theorem a5O{w w1:World}{B W0 rb:Nat}{S:ByteArray}{s:Rf}{vn vD vA v1:Value}{ys:List Ny}{ds:List Dc}{as':List At}{a:At}(h:S5 w B rb S s vn ys)(hx:a0X w W0 ys b4y vD vA ds as')(D0:∀b,b<w.heap.size->vA.ownBlock≠some b->w1.heap[b]? = w.heap[b]?)(D3:v1.ownBlock=vA.ownBlock∨∀b,v1.ownBlock=some b->w.heap.size<=b)(D1:w1.ownsRow W0 73 4 v1 (as'.length+1) ((as'++[a]).flatMap atC)) :
 S5 w1 B rb S s vn ys/\a0X w1 W0 ys b4y vD v1 ds (as'++[a]):=by
 have D9:∀{b0 e q n:Nat} {v:Value} {xs:List Value},w.ownsRow b0 e q v n xs->(v.ownBlock=none∨v.ownBlock≠vA.ownBlock)->v.ownBlock=none∨v.ownBlock≠v1.ownBlock:=fun {b0 e q n v xs} ho D2=>by
  rcases D3 with h1|h1
  ·rw[h1];exact D2
  ·cases hv:v.ownBlock with
   |none=>exact .inl rfl
   |some b =>
    refine .inr (fun e0 => ?_);have:=h1 b e0.symm;have:=(ho.lt b hv).2;omega
 have keep:∀{b0 e q n:Nat} {v:Value} {xs:List Value},w.ownsRow b0 e q v n xs->(v.ownBlock=none∨v.ownBlock≠vA.ownBlock)->w1.ownsRow b0 e q v n xs:=fun {b0 e q n v xs} ho D2=>r6 ho (fun b hb ⟨cs,hc⟩=>D0 b (i3 hc) (fun e0=>by
  rcases D2 with h0|h0
  ·rw[hb]at h0;cases h0
  ·exact h0 (hb.trans e0.symm)))
 have kt:∀{b0 e q n:Nat} {v:Value} {xs:List Value},w.ownsRow b0 e q v n xs->e≠73->w1.ownsRow b0 e q v n xs:=fun {b0 e q n v xs} ho he=>r6 ho (fun b hb ⟨cs,hc⟩=>D0 b (i3 hc) (O4 hx.rA hc (Ne.symm he)));obtain⟨k,hk⟩:=h.rc;refine⟨⟨h.lo,⟨k,hk.le,hk.rest,(D0 rb hk.lt (O4 hx.rA hk.box (by decide))).trans hk.box⟩,h.ns,kt h.rn (by decide),fun y hy=>⟨kt (h.ry y hy).1 (by decide),keep (h.ry y hy).2 (hx.ya y hy)⟩⟩,⟨kt hx.rD (by decide),(by rw[e8,j0];exact D1),hx.dd,hx.yd,fun y hy=>D9 (h.ry y hy).2 (hx.ya y hy)⟩⟩
theorem a6r(s:Rf):(M1 s).1.length<=s.rest.length:=by
 have hl:=((I8 s).trans ((G8 [61] _).trans (I8 _))).len;unfold M1
 split
 ·next r hr =>
  have h1:=a08 hr;unfold J3
  split
  ·next p q hc=>have:=P4 hc;dsimp only[Rf.to]at this ⊢;omega
  ·simp
 ·split
  ·next r hr =>
   have h1:=a08 hr;unfold J3
   split
   ·next p q hc=>have:=P4 hc;dsimp only[Rf.to]at this ⊢;omega
   ·simp
  ·simp
theorem b15(q:List UInt8)(hq:q.length<=100000)(w:World):Calls Tryz.prog 103 #[.string (ba q)] w fun e w'=>e=.returned (.tuple #[.string (ba ((X5 q).getD [])),.bool (X5 q).isSome])/\Below w.heap.size w w' :=
 (a8L (ba q) (by rw[I9];exact hq) w).mono fun e w' ⟨ha,hb⟩=>by
   rw[B5]at ha;rcases ha with⟨Y,h1,rfl⟩|⟨h1,rfl⟩
   ·rw[h1,Option.getD_some,a3q];exact⟨rfl,hb⟩
   ·rw[h1];exact⟨rfl,hb⟩
theorem b3j(s:Rf):(a4Y s).ns=s.ns:=by
 unfold a4Y
 show(M1 (K8 s).2).2.ns=s.ns
 rw[a8Q,a41]
def b7J(w:World)(B W0 rb xb:Nat)(S:ByteArray)(vn:Value)(ys:List Ny)(M:Nat)(T:Rf×Nd)(v:Value)(wr:World):Prop :=
 ∃(n:Nat) (s:Rf) (x:Nd),s.rest.length<n/\Y4 n s x=T/\RX8 wr B W0 rb xb S s vn ys x/\Oth W0 rb w wr/\Below B w wr/\x.ds.length+x.ats.length+s.rest.length<=M
theorem b4H(S:ByteArray)(B W0 rb xb:Nat)(s:Rf)(vn:Value)(ys:List Ny)(x:Nd)(n:Nat)(w:World)(h:RX8 w B W0 rb xb S s vn ys x)(hB:B<=W0)(hW:W0<=w.heap.size)(hS:S.size<=100000)(hn:s.rest.length<n)(hM:x.ds.length+x.ats.length+s.rest.length<=800000) :
 Calls Tryz.prog 66 #[.pointer (some ⟨rb,0,none⟩),.pointer (some ⟨xb,0,none⟩)] w fun e w'=>e=.returned (.tuple #[])/\RX8 w' B W0 rb xb S (Y4 n s x).1 vn ys (Y4 n s x).2/\Oth W0 rb w w'/\Below B w w':=by
 have V7:B<=w.heap.size:=d8 hB hW;have J4:=a8 h.rd.lo;obtain⟨T,hT⟩ : ∃T,Y4 n s x=T:=⟨_,rfl⟩;rw[hT];have L9:Hid (∀v,b7J w B W0 rb xb S vn ys 800000 T v w):=fun v=>⟨n,s,x,hn,hT,h,Oth.refl _ _ _,b8 _ _,hM⟩;clear h hT hn hM;go_enter Tryz.func66,Tryz.ntmps66;go_wp2
 go_loopw [12] (b7J w B W0 rb xb S vn ys 800000 T) (fun _ wr=>S.size-a3A wr rb)
 case atStart=>exact L9.out _
 case round =>
  clear L9;obtain⟨n,s,x,hn,hT,h,hg,hb,hM⟩:=hrel;obtain⟨k,hk⟩:=h.rd.rc;have c3:=hk.cells.2.2.2;have V8:=hk.lt;have M0:S.size-a3A wr rb=s.rest.length:=by rw[R9 hk,hk.len]
  have V9:s.rest.length<=100000:=by have:=hk.len;omega
  have G9:=a8 M0;have H:=a8 h;have HG:=a8 hg;have HB:=a8 hb;have HK:=a8 hk;clear h hg hb hk M0;cases n with
  |zero=>omega
  |succ n =>
  rw[Y4]at hT;cases M2:s.bad with
  |true =>
   rw[M2]at c3 hT;rw[g8 rfl]at hT;have HT:=a8 hT;clear hT;go_wp2
   go_end0
   exact⟨rfl,HT.out ▸ H.out,HG.out,HB.out⟩
  |false =>
   rw[M2]at c3 hT;rw[f6 (by simp)]at hT
   have P0:=a8 (U2 S rb vn s k wr HK.out (by omega))
   have M4:(C8 s).ns=s.ns:=rfl;have X0:=(I8 s).len;have J8:Y6 s≠0->(C8 s).rest.length<s.rest.length:=fun h0=>by unfold Y6 at h0;show(n8 s.rest).length<_;omega
   obtain⟨bn,P1⟩ : ∃bn,Y6 s=bn:=⟨_,rfl⟩;rw[P1]at P0 hT J8;clear P1;generalize C8 s=s1 at *;have S2:Hid (∀w' k',U5 w' rb S vn s1 k'->Calls Tryz.prog 57 #[.pointer (some ⟨rb,0,none⟩),.string ⟨#[62]⟩] w' fun e w''=>e=.returned (.bool (F3 [62] s1))/\M3 rb S vn s1 w' w''):=fun w' k' hm=>O3 S ⟨#[62]⟩ rb vn s1 k' w' hm (by omega) (by decide)
   have S3:Hid (∀w' k',U5 w' rb S vn s1 k'->Calls Tryz.prog 57 #[.pointer (some ⟨rb,0,none⟩),.string ⟨#[47,62]⟩] w' fun e w''=>e=.returned (.bool (F3 [47,62] s1))/\M3 rb S vn s1 w' w''):=fun w' k' hm=>O3 S ⟨#[47,62]⟩ rb vn s1 k' w' hm (by omega) (by decide)
   have S4:Hid (∀w' k',U5 w' rb S vn s1 k'->_):=fun w' k' hm=>a6U S rb vn s1 k' w' hm (by omega)
   have S5:=a8 M4;have L5:=a8 hT;clear hT M4
   go_wp2_with fail
   refine P0.out.mono ?_;rintro e w1⟨rfl,M5⟩;have S6:W0<=wr.heap.size:=by have:=HG.out.size;omega
   have h1:=H.out.rst M5 S5.out;obtain⟨k1,P2⟩:=h1.rd.rc;have M9:=a8 (S2.out w1 k1 P2);have H1:=a8 h1;have P3:=a8 (HG.out.trans (Oth.rst M5 S6));have P4:=a8 (HB.out.trans (M5.below J4.out (by omega)))
   have P5:W0<=w1.heap.size:=by have:=M5.size;omega
   clear M5 h1 P2;cases hc:F3 [62] s1 with
   |true =>
    rw[hc]at M9
    have HT:Hid ((s1,x)=T):=by
     have:=L5.out;rw[g8 (by rw[hc];rfl)]at this
     exact this
    clear L5 hc
    go_wp2_with fail
    refine M9.out.mono ?_;rintro e w2⟨rfl,J5⟩;have H2:=a8 (H1.out.rst J5 rfl);have N0:=a8 (P3.out.trans (Oth.rst J5 P5));have N1:=a8 (P4.out.trans (J5.below J4.out (by omega)))
    clear J5;go_wp2;refine bodyPost_ret (results_none rfl _ _ _) rfl ?_;rw[<-HT.out];exact⟨rfl,H2.out,N0.out,N1.out⟩
   |false =>
    rw[hc]at M9
    go_wp2_with fail
    refine M9.out.mono ?_;rintro e w2⟨rfl,J5⟩;have h2:=H1.out.rst J5 rfl;obtain⟨k2,P6⟩:=h2.rd.rc;have N2:=a8 (S3.out w2 k2 P6);have H2:=a8 h2;have N0:=a8 (P3.out.trans (Oth.rst J5 P5));have N1:=a8 (P4.out.trans (J5.below J4.out (by omega)))
    have P7:W0<=w2.heap.size:=by have:=J5.size;omega
    clear J5 h2 P6;cases he:F3 [47,62] s1 with
    |true =>
     rw[he]at N2
     have HT:Hid ((s1,x)=T):=by
      have:=L5.out;rw[g8 (by rw[he];simp)]at this
      exact this
     clear L5 hc he
     go_wp2_with fail
     refine N2.out.mono ?_;rintro e w3⟨rfl,J6⟩;have H3:=a8 (H2.out.rst J6 rfl);have N3:=a8 (N0.out.trans (Oth.rst J6 P7));have N4:=a8 (N1.out.trans (J6.below J4.out (by omega)))
     clear J6;go_wp2;refine bodyPost_ret (results_none rfl _ _ _) rfl ?_;rw[<-HT.out];exact⟨rfl,H3.out,N3.out,N4.out⟩
    |false =>
     rw[he]at N2
     have N5:Hid ((if bn=0 then(s1.fail,x)else Y4 n (a4Y s1) (a2k s1 x))=T):=by
      have:=L5.out;rw[f6 (by rw[hc,he];simp)]at this
      exact this
     clear L5 hc he
     go_wp2_with fail
     refine N2.out.mono ?_;rintro e w3⟨rfl,J6⟩;have h3:=H2.out.rst J6 rfl;obtain⟨k3,L6⟩:=h3.rd.rc;have q3:=L6.cells.2.2.2;have qf3:=L6.frozen 3;have ql3:=L6.lt;have S7:=a8 L6;have S8:=a8 (S4.out w3 k3 L6);have H3:=a8 h3;have N3:=a8 (N0.out.trans (Oth.rst J6 P7));have N4:=a8 (N1.out.trans (J6.below J4.out (by omega)))
     have P8:W0<=w3.heap.size:=by have:=J6.size;omega
     clear J6 h3 L6;by_cases hz:bn=0
     ·have S9:((bn:Int)==0)=true:=by rw[hz];rfl
      have HT:Hid ((s1.fail,x)=T):=by
       have:=N5.out;rw[g8 hz]at this;exact this
      clear N5 hz J8;go_wp2;refine bodyPost_ret (results_none rfl _ _ _) rfl ?_;rw[<-HT.out];have J9:=M3.mark S7.out true;exact⟨rfl,H3.out.rst J9 rfl,N3.out.trans (Oth.rst J9 P8),N4.out.trans (J9.below J4.out (by omega))⟩
     ·have S9:((bn:Int)==0)=false:=by rw[e9];omega
      have HT:Hid (Y4 n (a4Y s1) (a2k s1 x)=T):=by
       have:=N5.out;rw[f6 hz]at this;exact this
      have T0:=J8 hz;clear N5 hz J8 q3 qf3 ql3;have N7:a4Y s1=(M1 (K8 s1).2).2.or (X5 (M1 (K8 s1).2).1).isNone:=rfl;have N8:a2k s1 x=V4 x (K8 s1).1.1 (K8 s1).1.2 (ba ((X5 (M1 (K8 s1).2).1).getD [])):=rfl;have P9:=(a3b s1).len;have R0:=b3j s1;have R1:(a2k s1 x).ds.length+(a2k s1 x).ats.length=x.ds.length+x.ats.length+1:=by rw[N8];exact a7j _ _ _ _
      have E2:=a8 (D5 R0 (D5 P9 R1));have T1:=a6r (K8 s1).2;have X1:=(X7 s1).len;have R2:=a41 s1;have R3:=a8Q (K8 s1).2;generalize (K8 s1).1.1=p at *;generalize (K8 s1).1.2=l at *;generalize (K8 s1).2=s2 at *;have T2:Hid (∀w' k',U5 w' rb S vn s2 k'->_):=fun w' k' hm=>a5j S rb vn s2 k' w' hm (by omega)
      have R4:Hid (∀w',_):=fun w'=>b15 (M1 s2).1 (by omega) w'
      generalize (M1 s2).1=q at *;generalize (M1 s2).2=s3 at *;obtain⟨okb,N9⟩ : ∃okb,(X5 q).isSome=okb:=⟨_,rfl⟩;have R5:(X5 q).isNone = !okb:=by rw[<-N9];cases X5 q<;>rfl
      rw[N9]at R4;rw[R5]at N7;generalize ba ((X5 q).getD [])=V at *;clear N9 R5;have T3:=a8 N7;have L4:=a8 N8;have L7:=a8 (D5 R2 R3);generalize T4:a4Y s1=sm at *;generalize T5:a2k s1 x=xm at *;clear N7 N8 R0 P9 R1 T1 R2 R3 T4 T5
      go_wp2_with fail
      refine S8.out.mono ?_;rintro e w4⟨rfl,J9⟩;have h4:=H3.out.rst J9 L7.out.1;obtain⟨k4,R6⟩:=h4.rd.rc;have T6:=a8 (T2.out w4 k4 R6);have H4:=a8 h4;have T7:=a8 (N3.out.trans (Oth.rst J9 P8));have T8:=a8 (N4.out.trans (J9.below J4.out (by omega)))
      have T9:W0<=w4.heap.size:=by have:=J9.size;omega
      clear J9 h4 R6
      go_wp2_with fail
      refine T6.out.mono ?_;rintro e w5⟨rfl,M6⟩;have h5:=H4.out.rst M6 L7.out.2;have H5:=a8 h5;have V0:=a8 (T7.out.trans (Oth.rst M6 T9));have V1:=a8 (T8.out.trans (M6.below J4.out (by omega)))
      have V2:W0<=w5.heap.size:=by have:=M6.size;omega
      have V3:=a8 (R4.out w5);clear M6 h5
      go_wp2_with fail
      refine V3.out.mono ?_;rintro e w6⟨rfl,M7⟩;have h6:=H5.out.below M7;obtain⟨k6,M8⟩:=h6.rd.rc;have q3:=M8.cells.2.2.2;have qf3:=M8.frozen 3;have ql3:=M8.lt;have R7:=a8 M8;have H6:=a8 h6;have R8:=a8 (V0.out.trans (Oth.of (M7.mono V2)));have S0:=a8 (V1.out.trans (M7.mono (by omega)))
      have S1:W0<=w6.heap.size:=by have:=M7.size;omega
      clear M7 h6 M8;have L8:Hid (∀z,z=(s3.bad || !okb)->({ s3 with bad:=z }:Rf)=sm):=fun z hz=>by rw[T3.out,hz];rfl
      obtain⟨P,hP⟩ : ∃P,ba p=P:=⟨_,rfl⟩;obtain⟨L,hL⟩ : ∃L,ba l=L:=⟨_,rfl⟩;have G6:P.data.toList=p:=by rw[<-hP,B5]
      have J3:L.data.toList=l:=by rw[<-hL,B5]
      have J7:=a8 (D5 hP hL);rw[hP,hL];clear hP hL
      go_upto_region 7 with fail
      cases N6:s3.bad with
      |true =>
       rw[N6]at q3 L8
       go_upto_region 9 with fail
       have J2:=M3.mark R7.out true;rw[L8.out true rfl]at J2;clear q3 qf3 ql3 N6 L8;generalize w6.setCell ⟨rb,3,none⟩ (.bool true)=w7 at *;have h7:=H6.out.rst J2 (by rw[E2.out.1,L7.out.2,L7.out.1])
       have L0:=a8 (R8.out.trans (Oth.rst J2 S1));have L1:=a8 (S0.out.trans (J2.below J4.out (by omega)))
       have L2:W0<=w7.heap.size:=by have:=J2.size;omega
       obtain⟨vD,vA,G7,L3⟩:=h7.at';obtain⟨Ad,cd,rfl,_,_⟩:=q9 L3.rD;obtain⟨Aa,ca,rfl,_,_⟩:=q9 L3.rA;have p6:w7.cell? ⟨xb,6,none⟩=some (.slice Ad x.ds.length cd):=by rw[d9 w7 xb 6 _ _ _ G7];rfl
       have p7:w7.cell? ⟨xb,7,none⟩=some (.slice Aa x.ats.length ca):=by rw[d9 w7 xb 7 _ _ _ G7];rfl
       have E3:=a8 L3;have D3:=a8 G7;have H7:=a8 h7;clear J2 h7 L3 G7;have V5:x.ds.length<=900000:=by omega
       have V6:x.ats.length<=900000:=by omega
       by_cases hp:p=a1C
       ·have tp:(P.toList == [120,109,108,110,115])=true:=by rw[f9,G6,hp];rfl
        have E6:xm={ x with ds:=x.ds++[⟨L,V⟩] }:=by
         rw[L4.out];unfold V4;rw[f6 (by rw[hp];simp[a1C]),g8 hp,J7.out.2]
        have E7:=a8 E6;clear hp G6 J3 E6
        go_wp2_with (first
         |(at_builtin;refine a2U rfl (.tmp 69) (.tmp 73) rfl W0 (.slice Ad x.ds.length cd) x.ds rfl (E3.out.rD.alloc _) w7.heap.size ⟨L,V⟩ rfl (g9 w7 _) (by omega) (by simp;omega) ?_;intro v1 wa D9 D0 E8;have E0:=(D0.block xb (by have:=i3 D3.out;simp;omega) (fun e=>O4 E3.out.rD D3.out (by decide) e.symm)).trans ((((b8 w7.heap.size w7).alloc (c9 _) _).block xb (i3 D3.out)).trans D3.out);have kc:wa.cell? ⟨xb,6,none⟩=some (.slice Ad x.ds.length cd):=(by rw[d9 wa xb 6 _ _ _ E0];rfl);have kf:wa.frozen? ⟨xb,6,none⟩=false:=(by unfold World.frozen?;rw[E0];simp);have E1:=a8 E0;have G0:=a8 D9;have E4:=a8 D0;have G1:=a8 E8;obtain⟨A1,c1,rfl,_,_⟩:=q9 D9;clear E0 D9 D0 E8 p6 p7)
         |fail)
        have D1:Hid (RX8 (wa.setCell ⟨xb,6,none⟩ (.slice A1 (x.ds.length+1) c1)) B W0 rb xb S sm vn ys xm/\Oth W0 rb w (wa.setCell ⟨xb,6,none⟩ (.slice A1 (x.ds.length+1) c1))/\Below B w (wa.setCell ⟨xb,6,none⟩ (.slice A1 (x.ds.length+1) c1))):=by
         have E5:∀b,b<w7.heap.size->((.slice Ad x.ds.length cd):Value).ownBlock≠some b->wa.heap[b]? = w7.heap[b]?:=fun b hb J1=>by
          rw[E4.out.block b (by simp;omega) (fun e=>J1 e.symm)]
          exact((b8 w7.heap.size w7).alloc (c9 _) _).block b hb
         obtain⟨g1,g2⟩:=a5N H7.out.rd E3.out E5 (by
          rcases G1.out with h1|h1
          ·exact .inl h1
          ·exact .inr (fun b hb=>by
            rw[h1]at hb;simp only[f5]at hb;rw[<-hb];simp)) G0.out
         have D2:∀{b0 e q n:Nat} {v:Value} {xs:List Value},e≠42->wa.ownsRow b0 e q v n xs->(wa.setCell ⟨xb,6,none⟩ (.slice A1 (x.ds.length+1) c1)).ownsRow b0 e q v n xs:=fun {b0 e q n v xs} he hh=>r6 hh (fun b _ ⟨cs,hc⟩=>f7 _ _ _ _ (B7 hc E1.out he));have G4:Below W0 w7 (wa.setCell ⟨xb,6,none⟩ (.slice A1 (x.ds.length+1) c1)):=(((b8 W0 w7).alloc L2 _).grown E4.out (by simp;omega) (fun q hq=>(E3.out.rD.lt q hq).1)).setCell (p:=⟨xb,6,none⟩) H7.out.bx _
         refine⟨⟨g1.setNode E1.out H7.out.nx,H7.out.bx,H7.out.nx,(.slice A1 (x.ds.length+1) c1),(.slice Aa x.ats.length ca),?_,?_⟩,L0.out.trans (Oth.of G4),L1.out.trans (G4.mono hB)⟩
         ·rw[E7.out,o8 E1.out];rfl
         ·rw[E7.out];exact⟨D2 (by decide) g2.rD,D2 (by decide) g2.rA,g2.dd,g2.yd,g2.ya⟩
        clear E1 G0 E4 G1 kc kf
        go_roundw
        case rel=>exact⟨n,sm,xm,by have:=E2.out.2.1;omega,HT.out,D1.out.1,D1.out.2.1,D1.out.2.2,by have:=E2.out.2.1;have:=E2.out.2.2;omega⟩
        case measure =>
         obtain⟨k9,G5⟩:=D1.out.1.rd.rc;have:=E2.out.2.1;rw[G9.out,R9 G5,<-G5.len];omega
       ·have tp:(P.toList == [120,109,108,110,115])=false:=by rw[f9,G6,e9];exact hp
        by_cases G8:p=[]
        ·have te:(P.toList == [])=true:=by rw[f9,G6,G8];rfl
         have te2:P.toList.isEmpty=true:=by rw[f9,G6,G8];rfl
         by_cases hl:l=a1C
         ·have tl:(L.toList == [120,109,108,110,115])=true:=by rw[f9,J3,hl];rfl
          have E6:xm={ x with ds:=x.ds++[⟨⟨#[]⟩,V⟩] }:=by
           rw[L4.out];unfold V4;rw[g8 ⟨G8,hl⟩]
          have E7:=a8 E6;clear hp G8 hl G6 J3 E6
          go_wp2_with (first
           |(at_builtin;refine a2U rfl (.tmp 88) (.tmp 91) rfl W0 (.slice Ad x.ds.length cd) x.ds rfl (E3.out.rD.alloc _) w7.heap.size ⟨⟨#[]⟩,V⟩ rfl (g9 w7 _) (by omega) (by simp;omega) ?_;intro v1 wa D9 D0 E8;have E0:=(D0.block xb (by have:=i3 D3.out;simp;omega) (fun e=>O4 E3.out.rD D3.out (by decide) e.symm)).trans ((((b8 w7.heap.size w7).alloc (c9 _) _).block xb (i3 D3.out)).trans D3.out);have kc:wa.cell? ⟨xb,6,none⟩=some (.slice Ad x.ds.length cd):=(by rw[d9 wa xb 6 _ _ _ E0];rfl);have kf:wa.frozen? ⟨xb,6,none⟩=false:=(by unfold World.frozen?;rw[E0];simp);have E1:=a8 E0;have G0:=a8 D9;have E4:=a8 D0;have G1:=a8 E8;obtain⟨A1,c1,rfl,_,_⟩:=q9 D9;clear E0 D9 D0 E8 p6 p7)
           |fail)
          have D1:Hid (RX8 (wa.setCell ⟨xb,6,none⟩ (.slice A1 (x.ds.length+1) c1)) B W0 rb xb S sm vn ys xm/\Oth W0 rb w (wa.setCell ⟨xb,6,none⟩ (.slice A1 (x.ds.length+1) c1))/\Below B w (wa.setCell ⟨xb,6,none⟩ (.slice A1 (x.ds.length+1) c1))):=by
           have E5:∀b,b<w7.heap.size->((.slice Ad x.ds.length cd):Value).ownBlock≠some b->wa.heap[b]? = w7.heap[b]?:=fun b hb J1=>by
            rw[E4.out.block b (by simp;omega) (fun e=>J1 e.symm)]
            exact((b8 w7.heap.size w7).alloc (c9 _) _).block b hb
           obtain⟨g1,g2⟩:=a5N H7.out.rd E3.out E5 (by
            rcases G1.out with h1|h1
            ·exact .inl h1
            ·exact .inr (fun b hb=>by
              rw[h1]at hb;simp only[f5]at hb;rw[<-hb];simp)) G0.out
           have D2:∀{b0 e q n:Nat} {v:Value} {xs:List Value},e≠42->wa.ownsRow b0 e q v n xs->(wa.setCell ⟨xb,6,none⟩ (.slice A1 (x.ds.length+1) c1)).ownsRow b0 e q v n xs:=fun {b0 e q n v xs} he hh=>r6 hh (fun b _ ⟨cs,hc⟩=>f7 _ _ _ _ (B7 hc E1.out he));have G4:Below W0 w7 (wa.setCell ⟨xb,6,none⟩ (.slice A1 (x.ds.length+1) c1)):=(((b8 W0 w7).alloc L2 _).grown E4.out (by simp;omega) (fun q hq=>(E3.out.rD.lt q hq).1)).setCell (p:=⟨xb,6,none⟩) H7.out.bx _
           refine⟨⟨g1.setNode E1.out H7.out.nx,H7.out.bx,H7.out.nx,(.slice A1 (x.ds.length+1) c1),(.slice Aa x.ats.length ca),?_,?_⟩,L0.out.trans (Oth.of G4),L1.out.trans (G4.mono hB)⟩
           ·rw[E7.out,o8 E1.out];rfl
           ·rw[E7.out];exact⟨D2 (by decide) g2.rD,D2 (by decide) g2.rA,g2.dd,g2.yd,g2.ya⟩
          clear E1 G0 E4 G1 kc kf
          go_roundw
          case rel=>exact⟨n,sm,xm,by have:=E2.out.2.1;omega,HT.out,D1.out.1,D1.out.2.1,D1.out.2.2,by have:=E2.out.2.1;have:=E2.out.2.2;omega⟩
          case measure =>
           obtain⟨k9,G5⟩:=D1.out.1.rd.rc;have:=E2.out.2.1;rw[G9.out,R9 G5,<-G5.len];omega
         ·have tl:(L.toList == [120,109,108,110,115])=false:=by rw[f9,J3,e9];exact hl
          have E6:xm={ x with ats:=x.ats++[⟨P,L,⟨#[]⟩,V⟩] }:=by
           rw[L4.out];unfold V4;rw[f6 (fun h=>hl h.2),f6 hp,J7.out.1,J7.out.2]
          have E7:=a8 E6;clear hp G8 hl G6 J3 E6
          go_wp2_with (first
           |(at_builtin;refine a2V rfl (.tmp 53) (.tmp 58) rfl W0 (.slice Aa x.ats.length ca) x.ats rfl (E3.out.rA.alloc _) w7.heap.size ⟨P,L,⟨#[]⟩,V⟩ rfl (g9 w7 _) (by omega) (by simp;omega) ?_;intro v1 wa D9 D0 E8;have E0:=(D0.block xb (by have:=i3 D3.out;simp;omega) (fun e=>O4 E3.out.rA D3.out (by decide) e.symm)).trans ((((b8 w7.heap.size w7).alloc (c9 _) _).block xb (i3 D3.out)).trans D3.out);have kc:wa.cell? ⟨xb,7,none⟩=some (.slice Aa x.ats.length ca):=(by rw[d9 wa xb 7 _ _ _ E0];rfl);have kf:wa.frozen? ⟨xb,7,none⟩=false:=(by unfold World.frozen?;rw[E0];simp);have E1:=a8 E0;have G0:=a8 D9;have E4:=a8 D0;have G1:=a8 E8;obtain⟨A1,c1,rfl,_,_⟩:=q9 D9;clear E0 D9 D0 E8 p6 p7)
           |fail)
          have D1:Hid (RX8 (wa.setCell ⟨xb,7,none⟩ (.slice A1 (x.ats.length+1) c1)) B W0 rb xb S sm vn ys xm/\Oth W0 rb w (wa.setCell ⟨xb,7,none⟩ (.slice A1 (x.ats.length+1) c1))/\Below B w (wa.setCell ⟨xb,7,none⟩ (.slice A1 (x.ats.length+1) c1))):=by
           have E5:∀b,b<w7.heap.size->((.slice Aa x.ats.length ca):Value).ownBlock≠some b->wa.heap[b]? = w7.heap[b]?:=fun b hb J1=>by
            rw[E4.out.block b (by simp;omega) (fun e=>J1 e.symm)]
            exact((b8 w7.heap.size w7).alloc (c9 _) _).block b hb
           obtain⟨g1,g2⟩:=a5O H7.out.rd E3.out E5 (by
            rcases G1.out with h1|h1
            ·exact .inl h1
            ·exact .inr (fun b hb=>by
              rw[h1]at hb;simp only[f5]at hb;rw[<-hb];simp)) G0.out
           have D2:∀{b0 e q n:Nat} {v:Value} {xs:List Value},e≠42->wa.ownsRow b0 e q v n xs->(wa.setCell ⟨xb,7,none⟩ (.slice A1 (x.ats.length+1) c1)).ownsRow b0 e q v n xs:=fun {b0 e q n v xs} he hh=>r6 hh (fun b _ ⟨cs,hc⟩=>f7 _ _ _ _ (B7 hc E1.out he));have G4:Below W0 w7 (wa.setCell ⟨xb,7,none⟩ (.slice A1 (x.ats.length+1) c1)):=(((b8 W0 w7).alloc L2 _).grown E4.out (by simp;omega) (fun q hq=>(E3.out.rA.lt q hq).1)).setCell (p:=⟨xb,7,none⟩) H7.out.bx _
           refine⟨⟨g1.setNode E1.out H7.out.nx,H7.out.bx,H7.out.nx,(.slice Ad x.ds.length cd),(.slice A1 (x.ats.length+1) c1),?_,?_⟩,L0.out.trans (Oth.of G4),L1.out.trans (G4.mono hB)⟩
           ·rw[E7.out,o8 E1.out];rfl
           ·rw[E7.out];exact⟨D2 (by decide) g2.rD,D2 (by decide) g2.rA,g2.dd,g2.yd,g2.ya⟩
          clear E1 G0 E4 G1 kc kf
          go_roundw
          case rel=>exact⟨n,sm,xm,by have:=E2.out.2.1;omega,HT.out,D1.out.1,D1.out.2.1,D1.out.2.2,by have:=E2.out.2.1;have:=E2.out.2.2;omega⟩
          case measure =>
           obtain⟨k9,G5⟩:=D1.out.1.rd.rc;have:=E2.out.2.1;rw[G9.out,R9 G5,<-G5.len];omega
        ·have te:(P.toList == [])=false:=by rw[f9,G6,e9];exact G8
         have te2:P.toList.isEmpty=false:=by rw[f9,G6];cases p with|nil=>exact absurd rfl G8|cons c z=>rfl
         have E6:xm={ x with ats:=x.ats++[⟨P,L,⟨#[]⟩,V⟩] }:=by
          rw[L4.out];unfold V4;rw[f6 (fun h=>G8 h.1),f6 hp,J7.out.1,J7.out.2]
         have E7:=a8 E6;clear hp G8 G6 J3 E6
         go_wp2_with (first
          |(at_builtin;refine a2V rfl (.tmp 53) (.tmp 58) rfl W0 (.slice Aa x.ats.length ca) x.ats rfl (E3.out.rA.alloc _) w7.heap.size ⟨P,L,⟨#[]⟩,V⟩ rfl (g9 w7 _) (by omega) (by simp;omega) ?_;intro v1 wa D9 D0 E8;have E0:=(D0.block xb (by have:=i3 D3.out;simp;omega) (fun e=>O4 E3.out.rA D3.out (by decide) e.symm)).trans ((((b8 w7.heap.size w7).alloc (c9 _) _).block xb (i3 D3.out)).trans D3.out);have kc:wa.cell? ⟨xb,7,none⟩=some (.slice Aa x.ats.length ca):=(by rw[d9 wa xb 7 _ _ _ E0];rfl);have kf:wa.frozen? ⟨xb,7,none⟩=false:=(by unfold World.frozen?;rw[E0];simp);have E1:=a8 E0;have G0:=a8 D9;have E4:=a8 D0;have G1:=a8 E8;obtain⟨A1,c1,rfl,_,_⟩:=q9 D9;clear E0 D9 D0 E8 p6 p7)
          |fail)
         have D1:Hid (RX8 (wa.setCell ⟨xb,7,none⟩ (.slice A1 (x.ats.length+1) c1)) B W0 rb xb S sm vn ys xm/\Oth W0 rb w (wa.setCell ⟨xb,7,none⟩ (.slice A1 (x.ats.length+1) c1))/\Below B w (wa.setCell ⟨xb,7,none⟩ (.slice A1 (x.ats.length+1) c1))):=by
          have E5:∀b,b<w7.heap.size->((.slice Aa x.ats.length ca):Value).ownBlock≠some b->wa.heap[b]? = w7.heap[b]?:=fun b hb J1=>by
           rw[E4.out.block b (by simp;omega) (fun e=>J1 e.symm)]
           exact((b8 w7.heap.size w7).alloc (c9 _) _).block b hb
          obtain⟨g1,g2⟩:=a5O H7.out.rd E3.out E5 (by
           rcases G1.out with h1|h1
           ·exact .inl h1
           ·exact .inr (fun b hb=>by
             rw[h1]at hb;simp only[f5]at hb;rw[<-hb];simp)) G0.out
          have D2:∀{b0 e q n:Nat} {v:Value} {xs:List Value},e≠42->wa.ownsRow b0 e q v n xs->(wa.setCell ⟨xb,7,none⟩ (.slice A1 (x.ats.length+1) c1)).ownsRow b0 e q v n xs:=fun {b0 e q n v xs} he hh=>r6 hh (fun b _ ⟨cs,hc⟩=>f7 _ _ _ _ (B7 hc E1.out he));have G4:Below W0 w7 (wa.setCell ⟨xb,7,none⟩ (.slice A1 (x.ats.length+1) c1)):=(((b8 W0 w7).alloc L2 _).grown E4.out (by simp;omega) (fun q hq=>(E3.out.rA.lt q hq).1)).setCell (p:=⟨xb,7,none⟩) H7.out.bx _
          refine⟨⟨g1.setNode E1.out H7.out.nx,H7.out.bx,H7.out.nx,(.slice Ad x.ds.length cd),(.slice A1 (x.ats.length+1) c1),?_,?_⟩,L0.out.trans (Oth.of G4),L1.out.trans (G4.mono hB)⟩
          ·rw[E7.out,o8 E1.out];rfl
          ·rw[E7.out];exact⟨D2 (by decide) g2.rD,D2 (by decide) g2.rA,g2.dd,g2.yd,g2.ya⟩
         clear E1 G0 E4 G1 kc kf
         go_roundw
         case rel=>exact⟨n,sm,xm,by have:=E2.out.2.1;omega,HT.out,D1.out.1,D1.out.2.1,D1.out.2.2,by have:=E2.out.2.1;have:=E2.out.2.2;omega⟩
         case measure =>
          obtain⟨k9,G5⟩:=D1.out.1.rd.rc;have:=E2.out.2.1;rw[G9.out,R9 G5,<-G5.len];omega
      |false =>
       rw[N6]at q3 L8;have X2:(false || !okb) = !okb:=rfl
       go_upto_region 9 with fail
       have J2:=M3.mark R7.out (!okb);rw[L8.out (!okb) rfl]at J2;clear q3 qf3 ql3 N6 L8;generalize w6.setCell ⟨rb,3,none⟩ (.bool !okb)=w7 at *;have h7:=H6.out.rst J2 (by rw[E2.out.1,L7.out.2,L7.out.1])
       have L0:=a8 (R8.out.trans (Oth.rst J2 S1));have L1:=a8 (S0.out.trans (J2.below J4.out (by omega)))
       have L2:W0<=w7.heap.size:=by have:=J2.size;omega
       obtain⟨vD,vA,G7,L3⟩:=h7.at';obtain⟨Ad,cd,rfl,_,_⟩:=q9 L3.rD;obtain⟨Aa,ca,rfl,_,_⟩:=q9 L3.rA;have p6:w7.cell? ⟨xb,6,none⟩=some (.slice Ad x.ds.length cd):=by rw[d9 w7 xb 6 _ _ _ G7];rfl
       have p7:w7.cell? ⟨xb,7,none⟩=some (.slice Aa x.ats.length ca):=by rw[d9 w7 xb 7 _ _ _ G7];rfl
       have E3:=a8 L3;have D3:=a8 G7;have H7:=a8 h7;clear J2 h7 L3 G7;have V5:x.ds.length<=900000:=by omega
       have V6:x.ats.length<=900000:=by omega
       by_cases hp:p=a1C
       ·have tp:(P.toList == [120,109,108,110,115])=true:=by rw[f9,G6,hp];rfl
        have E6:xm={ x with ds:=x.ds++[⟨L,V⟩] }:=by
         rw[L4.out];unfold V4;rw[f6 (by rw[hp];simp[a1C]),g8 hp,J7.out.2]
        have E7:=a8 E6;clear hp G6 J3 E6
        go_wp2_with (first
         |(at_builtin;refine a2U rfl (.tmp 69) (.tmp 73) rfl W0 (.slice Ad x.ds.length cd) x.ds rfl (E3.out.rD.alloc _) w7.heap.size ⟨L,V⟩ rfl (g9 w7 _) (by omega) (by simp;omega) ?_;intro v1 wa D9 D0 E8;have E0:=(D0.block xb (by have:=i3 D3.out;simp;omega) (fun e=>O4 E3.out.rD D3.out (by decide) e.symm)).trans ((((b8 w7.heap.size w7).alloc (c9 _) _).block xb (i3 D3.out)).trans D3.out);have kc:wa.cell? ⟨xb,6,none⟩=some (.slice Ad x.ds.length cd):=(by rw[d9 wa xb 6 _ _ _ E0];rfl);have kf:wa.frozen? ⟨xb,6,none⟩=false:=(by unfold World.frozen?;rw[E0];simp);have E1:=a8 E0;have G0:=a8 D9;have E4:=a8 D0;have G1:=a8 E8;obtain⟨A1,c1,rfl,_,_⟩:=q9 D9;clear E0 D9 D0 E8 p6 p7)
         |fail)
        have D1:Hid (RX8 (wa.setCell ⟨xb,6,none⟩ (.slice A1 (x.ds.length+1) c1)) B W0 rb xb S sm vn ys xm/\Oth W0 rb w (wa.setCell ⟨xb,6,none⟩ (.slice A1 (x.ds.length+1) c1))/\Below B w (wa.setCell ⟨xb,6,none⟩ (.slice A1 (x.ds.length+1) c1))):=by
         have E5:∀b,b<w7.heap.size->((.slice Ad x.ds.length cd):Value).ownBlock≠some b->wa.heap[b]? = w7.heap[b]?:=fun b hb J1=>by
          rw[E4.out.block b (by simp;omega) (fun e=>J1 e.symm)]
          exact((b8 w7.heap.size w7).alloc (c9 _) _).block b hb
         obtain⟨g1,g2⟩:=a5N H7.out.rd E3.out E5 (by
          rcases G1.out with h1|h1
          ·exact .inl h1
          ·exact .inr (fun b hb=>by
            rw[h1]at hb;simp only[f5]at hb;rw[<-hb];simp)) G0.out
         have D2:∀{b0 e q n:Nat} {v:Value} {xs:List Value},e≠42->wa.ownsRow b0 e q v n xs->(wa.setCell ⟨xb,6,none⟩ (.slice A1 (x.ds.length+1) c1)).ownsRow b0 e q v n xs:=fun {b0 e q n v xs} he hh=>r6 hh (fun b _ ⟨cs,hc⟩=>f7 _ _ _ _ (B7 hc E1.out he));have G4:Below W0 w7 (wa.setCell ⟨xb,6,none⟩ (.slice A1 (x.ds.length+1) c1)):=(((b8 W0 w7).alloc L2 _).grown E4.out (by simp;omega) (fun q hq=>(E3.out.rD.lt q hq).1)).setCell (p:=⟨xb,6,none⟩) H7.out.bx _
         refine⟨⟨g1.setNode E1.out H7.out.nx,H7.out.bx,H7.out.nx,(.slice A1 (x.ds.length+1) c1),(.slice Aa x.ats.length ca),?_,?_⟩,L0.out.trans (Oth.of G4),L1.out.trans (G4.mono hB)⟩
         ·rw[E7.out,o8 E1.out];rfl
         ·rw[E7.out];exact⟨D2 (by decide) g2.rD,D2 (by decide) g2.rA,g2.dd,g2.yd,g2.ya⟩
        clear E1 G0 E4 G1 kc kf
        go_roundw
        case rel=>exact⟨n,sm,xm,by have:=E2.out.2.1;omega,HT.out,D1.out.1,D1.out.2.1,D1.out.2.2,by have:=E2.out.2.1;have:=E2.out.2.2;omega⟩
        case measure =>
         obtain⟨k9,G5⟩:=D1.out.1.rd.rc;have:=E2.out.2.1;rw[G9.out,R9 G5,<-G5.len];omega
       ·have tp:(P.toList == [120,109,108,110,115])=false:=by rw[f9,G6,e9];exact hp
        by_cases G8:p=[]
        ·have te:(P.toList == [])=true:=by rw[f9,G6,G8];rfl
         have te2:P.toList.isEmpty=true:=by rw[f9,G6,G8];rfl
         by_cases hl:l=a1C
         ·have tl:(L.toList == [120,109,108,110,115])=true:=by rw[f9,J3,hl];rfl
          have E6:xm={ x with ds:=x.ds++[⟨⟨#[]⟩,V⟩] }:=by
           rw[L4.out];unfold V4;rw[g8 ⟨G8,hl⟩]
          have E7:=a8 E6;clear hp G8 hl G6 J3 E6
          go_wp2_with (first
           |(at_builtin;refine a2U rfl (.tmp 88) (.tmp 91) rfl W0 (.slice Ad x.ds.length cd) x.ds rfl (E3.out.rD.alloc _) w7.heap.size ⟨⟨#[]⟩,V⟩ rfl (g9 w7 _) (by omega) (by simp;omega) ?_;intro v1 wa D9 D0 E8;have E0:=(D0.block xb (by have:=i3 D3.out;simp;omega) (fun e=>O4 E3.out.rD D3.out (by decide) e.symm)).trans ((((b8 w7.heap.size w7).alloc (c9 _) _).block xb (i3 D3.out)).trans D3.out);have kc:wa.cell? ⟨xb,6,none⟩=some (.slice Ad x.ds.length cd):=(by rw[d9 wa xb 6 _ _ _ E0];rfl);have kf:wa.frozen? ⟨xb,6,none⟩=false:=(by unfold World.frozen?;rw[E0];simp);have E1:=a8 E0;have G0:=a8 D9;have E4:=a8 D0;have G1:=a8 E8;obtain⟨A1,c1,rfl,_,_⟩:=q9 D9;clear E0 D9 D0 E8 p6 p7)
           |fail)
          have D1:Hid (RX8 (wa.setCell ⟨xb,6,none⟩ (.slice A1 (x.ds.length+1) c1)) B W0 rb xb S sm vn ys xm/\Oth W0 rb w (wa.setCell ⟨xb,6,none⟩ (.slice A1 (x.ds.length+1) c1))/\Below B w (wa.setCell ⟨xb,6,none⟩ (.slice A1 (x.ds.length+1) c1))):=by
           have E5:∀b,b<w7.heap.size->((.slice Ad x.ds.length cd):Value).ownBlock≠some b->wa.heap[b]? = w7.heap[b]?:=fun b hb J1=>by
            rw[E4.out.block b (by simp;omega) (fun e=>J1 e.symm)]
            exact((b8 w7.heap.size w7).alloc (c9 _) _).block b hb
           obtain⟨g1,g2⟩:=a5N H7.out.rd E3.out E5 (by
            rcases G1.out with h1|h1
            ·exact .inl h1
            ·exact .inr (fun b hb=>by
              rw[h1]at hb;simp only[f5]at hb;rw[<-hb];simp)) G0.out
           have D2:∀{b0 e q n:Nat} {v:Value} {xs:List Value},e≠42->wa.ownsRow b0 e q v n xs->(wa.setCell ⟨xb,6,none⟩ (.slice A1 (x.ds.length+1) c1)).ownsRow b0 e q v n xs:=fun {b0 e q n v xs} he hh=>r6 hh (fun b _ ⟨cs,hc⟩=>f7 _ _ _ _ (B7 hc E1.out he));have G4:Below W0 w7 (wa.setCell ⟨xb,6,none⟩ (.slice A1 (x.ds.length+1) c1)):=(((b8 W0 w7).alloc L2 _).grown E4.out (by simp;omega) (fun q hq=>(E3.out.rD.lt q hq).1)).setCell (p:=⟨xb,6,none⟩) H7.out.bx _
           refine⟨⟨g1.setNode E1.out H7.out.nx,H7.out.bx,H7.out.nx,(.slice A1 (x.ds.length+1) c1),(.slice Aa x.ats.length ca),?_,?_⟩,L0.out.trans (Oth.of G4),L1.out.trans (G4.mono hB)⟩
           ·rw[E7.out,o8 E1.out];rfl
           ·rw[E7.out];exact⟨D2 (by decide) g2.rD,D2 (by decide) g2.rA,g2.dd,g2.yd,g2.ya⟩
          clear E1 G0 E4 G1 kc kf
          go_roundw
          case rel=>exact⟨n,sm,xm,by have:=E2.out.2.1;omega,HT.out,D1.out.1,D1.out.2.1,D1.out.2.2,by have:=E2.out.2.1;have:=E2.out.2.2;omega⟩
          case measure =>
           obtain⟨k9,G5⟩:=D1.out.1.rd.rc;have:=E2.out.2.1;rw[G9.out,R9 G5,<-G5.len];omega
         ·have tl:(L.toList == [120,109,108,110,115])=false:=by rw[f9,J3,e9];exact hl
          have E6:xm={ x with ats:=x.ats++[⟨P,L,⟨#[]⟩,V⟩] }:=by
           rw[L4.out];unfold V4;rw[f6 (fun h=>hl h.2),f6 hp,J7.out.1,J7.out.2]
          have E7:=a8 E6;clear hp G8 hl G6 J3 E6
          go_wp2_with (first
           |(at_builtin;refine a2V rfl (.tmp 53) (.tmp 58) rfl W0 (.slice Aa x.ats.length ca) x.ats rfl (E3.out.rA.alloc _) w7.heap.size ⟨P,L,⟨#[]⟩,V⟩ rfl (g9 w7 _) (by omega) (by simp;omega) ?_;intro v1 wa D9 D0 E8;have E0:=(D0.block xb (by have:=i3 D3.out;simp;omega) (fun e=>O4 E3.out.rA D3.out (by decide) e.symm)).trans ((((b8 w7.heap.size w7).alloc (c9 _) _).block xb (i3 D3.out)).trans D3.out);have kc:wa.cell? ⟨xb,7,none⟩=some (.slice Aa x.ats.length ca):=(by rw[d9 wa xb 7 _ _ _ E0];rfl);have kf:wa.frozen? ⟨xb,7,none⟩=false:=(by unfold World.frozen?;rw[E0];simp);have E1:=a8 E0;have G0:=a8 D9;have E4:=a8 D0;have G1:=a8 E8;obtain⟨A1,c1,rfl,_,_⟩:=q9 D9;clear E0 D9 D0 E8 p6 p7)
           |fail)
          have D1:Hid (RX8 (wa.setCell ⟨xb,7,none⟩ (.slice A1 (x.ats.length+1) c1)) B W0 rb xb S sm vn ys xm/\Oth W0 rb w (wa.setCell ⟨xb,7,none⟩ (.slice A1 (x.ats.length+1) c1))/\Below B w (wa.setCell ⟨xb,7,none⟩ (.slice A1 (x.ats.length+1) c1))):=by
           have E5:∀b,b<w7.heap.size->((.slice Aa x.ats.length ca):Value).ownBlock≠some b->wa.heap[b]? = w7.heap[b]?:=fun b hb J1=>by
            rw[E4.out.block b (by simp;omega) (fun e=>J1 e.symm)]
            exact((b8 w7.heap.size w7).alloc (c9 _) _).block b hb
           obtain⟨g1,g2⟩:=a5O H7.out.rd E3.out E5 (by
            rcases G1.out with h1|h1
            ·exact .inl h1
            ·exact .inr (fun b hb=>by
              rw[h1]at hb;simp only[f5]at hb;rw[<-hb];simp)) G0.out
           have D2:∀{b0 e q n:Nat} {v:Value} {xs:List Value},e≠42->wa.ownsRow b0 e q v n xs->(wa.setCell ⟨xb,7,none⟩ (.slice A1 (x.ats.length+1) c1)).ownsRow b0 e q v n xs:=fun {b0 e q n v xs} he hh=>r6 hh (fun b _ ⟨cs,hc⟩=>f7 _ _ _ _ (B7 hc E1.out he));have G4:Below W0 w7 (wa.setCell ⟨xb,7,none⟩ (.slice A1 (x.ats.length+1) c1)):=(((b8 W0 w7).alloc L2 _).grown E4.out (by simp;omega) (fun q hq=>(E3.out.rA.lt q hq).1)).setCell (p:=⟨xb,7,none⟩) H7.out.bx _
           refine⟨⟨g1.setNode E1.out H7.out.nx,H7.out.bx,H7.out.nx,(.slice Ad x.ds.length cd),(.slice A1 (x.ats.length+1) c1),?_,?_⟩,L0.out.trans (Oth.of G4),L1.out.trans (G4.mono hB)⟩
           ·rw[E7.out,o8 E1.out];rfl
           ·rw[E7.out];exact⟨D2 (by decide) g2.rD,D2 (by decide) g2.rA,g2.dd,g2.yd,g2.ya⟩
          clear E1 G0 E4 G1 kc kf
          go_roundw
          case rel=>exact⟨n,sm,xm,by have:=E2.out.2.1;omega,HT.out,D1.out.1,D1.out.2.1,D1.out.2.2,by have:=E2.out.2.1;have:=E2.out.2.2;omega⟩
          case measure =>
           obtain⟨k9,G5⟩:=D1.out.1.rd.rc;have:=E2.out.2.1;rw[G9.out,R9 G5,<-G5.len];omega
        ·have te:(P.toList == [])=false:=by rw[f9,G6,e9];exact G8
         have te2:P.toList.isEmpty=false:=by rw[f9,G6];cases p with|nil=>exact absurd rfl G8|cons c z=>rfl
         have E6:xm={ x with ats:=x.ats++[⟨P,L,⟨#[]⟩,V⟩] }:=by
          rw[L4.out];unfold V4;rw[f6 (fun h=>G8 h.1),f6 hp,J7.out.1,J7.out.2]
         have E7:=a8 E6;clear hp G8 G6 J3 E6
         go_wp2_with (first
          |(at_builtin;refine a2V rfl (.tmp 53) (.tmp 58) rfl W0 (.slice Aa x.ats.length ca) x.ats rfl (E3.out.rA.alloc _) w7.heap.size ⟨P,L,⟨#[]⟩,V⟩ rfl (g9 w7 _) (by omega) (by simp;omega) ?_;intro v1 wa D9 D0 E8;have E0:=(D0.block xb (by have:=i3 D3.out;simp;omega) (fun e=>O4 E3.out.rA D3.out (by decide) e.symm)).trans ((((b8 w7.heap.size w7).alloc (c9 _) _).block xb (i3 D3.out)).trans D3.out);have kc:wa.cell? ⟨xb,7,none⟩=some (.slice Aa x.ats.length ca):=(by rw[d9 wa xb 7 _ _ _ E0];rfl);have kf:wa.frozen? ⟨xb,7,none⟩=false:=(by unfold World.frozen?;rw[E0];simp);have E1:=a8 E0;have G0:=a8 D9;have E4:=a8 D0;have G1:=a8 E8;obtain⟨A1,c1,rfl,_,_⟩:=q9 D9;clear E0 D9 D0 E8 p6 p7)
          |fail)
         have D1:Hid (RX8 (wa.setCell ⟨xb,7,none⟩ (.slice A1 (x.ats.length+1) c1)) B W0 rb xb S sm vn ys xm/\Oth W0 rb w (wa.setCell ⟨xb,7,none⟩ (.slice A1 (x.ats.length+1) c1))/\Below B w (wa.setCell ⟨xb,7,none⟩ (.slice A1 (x.ats.length+1) c1))):=by
          have E5:∀b,b<w7.heap.size->((.slice Aa x.ats.length ca):Value).ownBlock≠some b->wa.heap[b]? = w7.heap[b]?:=fun b hb J1=>by
           rw[E4.out.block b (by simp;omega) (fun e=>J1 e.symm)]
           exact((b8 w7.heap.size w7).alloc (c9 _) _).block b hb
          obtain⟨g1,g2⟩:=a5O H7.out.rd E3.out E5 (by
           rcases G1.out with h1|h1
           ·exact .inl h1
           ·exact .inr (fun b hb=>by
             rw[h1]at hb;simp only[f5]at hb;rw[<-hb];simp)) G0.out
          have D2:∀{b0 e q n:Nat} {v:Value} {xs:List Value},e≠42->wa.ownsRow b0 e q v n xs->(wa.setCell ⟨xb,7,none⟩ (.slice A1 (x.ats.length+1) c1)).ownsRow b0 e q v n xs:=fun {b0 e q n v xs} he hh=>r6 hh (fun b _ ⟨cs,hc⟩=>f7 _ _ _ _ (B7 hc E1.out he));have G4:Below W0 w7 (wa.setCell ⟨xb,7,none⟩ (.slice A1 (x.ats.length+1) c1)):=(((b8 W0 w7).alloc L2 _).grown E4.out (by simp;omega) (fun q hq=>(E3.out.rA.lt q hq).1)).setCell (p:=⟨xb,7,none⟩) H7.out.bx _
          refine⟨⟨g1.setNode E1.out H7.out.nx,H7.out.bx,H7.out.nx,(.slice Ad x.ds.length cd),(.slice A1 (x.ats.length+1) c1),?_,?_⟩,L0.out.trans (Oth.of G4),L1.out.trans (G4.mono hB)⟩
          ·rw[E7.out,o8 E1.out];rfl
          ·rw[E7.out];exact⟨D2 (by decide) g2.rD,D2 (by decide) g2.rA,g2.dd,g2.yd,g2.ya⟩
         clear E1 G0 E4 G1 kc kf
         go_roundw
         case rel=>exact⟨n,sm,xm,by have:=E2.out.2.1;omega,HT.out,D1.out.1,D1.out.2.1,D1.out.2.2,by have:=E2.out.2.1;have:=E2.out.2.2;omega⟩
         case measure =>
          obtain⟨k9,G5⟩:=D1.out.1.rd.rc;have:=E2.out.2.1;rw[G9.out,R9 G5,<-G5.len];omega
end Go.Proofs.YteinegfbpfhflaaGreatDoor
