/-
  apostilleref08.Reader: full, quoted, said. Conditions: the reader lies as it is; the texts are not too long.
  The document's own reader with its nodes in memory; one more node. apostilleref08.Reader: put. Conditions: the reader lies as it is; there are not too many nodes.
  apostilleref08.Reader: comment. Conditions: the reader lies as it is; there are not too many nodes.
-/
import Derived.Test.YteinegfbpfhflaaGreatDoorK44
import Derived.Test.YteinegfbpfhflaaGreatDoorK38
import Derived.Test.YteinegfbpfhflaaGreatDoorK32
import Derived.Test.YteinegfbpfhflaaGreatDoorK28
namespace Go.Proofs.YteinegfbpfhflaaGreatDoor
open Go.RowKit
set_option linter.unusedVariables false
set_option maxRecDepth 100000
set_option maxHeartbeats 16000000
theorem U5.behind{w:World}{b:Nat}{S:ByteArray}{v:Value}{s:Rf}{k:Nat}(h:U5 w b S v s k){c:UInt8}{r:List UInt8}(hp:m9 [c] s.rest=some r):k+1<=S.size/\S.data.toList.drop (k+1)=r:=by
 have h1:=a08 hp;have h2:=h.len;have h3:=I6 hp;simp only[i8,t7]at h1;refine⟨by omega,?_⟩
 rw[<-List.drop_drop,<-h.rest,h3];rfl
theorem a6U(S:ByteArray)(b:Nat)(v:Value)(s:Rf)(k:Nat)(w:World)(h:U5 w b S v s k)(hS:S.size<=1000000) :
 Calls Tryz.prog 65 #[.pointer (some ⟨b,0,none⟩)] w fun e w'=>e=.returned (.tuple #[.string (ba (K8 s).1.1),.string (ba (K8 s).1.2)])/\M3 b S v (K8 s).2 w w':=by
 have HN:=a8 (a4W S b v s k w h hS);have HS:Hid (∀w' k',U5 w' b S v (O5 s) k'->_):=fun w' k' hm=>O3 S ⟨#[58]⟩ b v (O5 s) k' w' hm hS (by decide)
 rw[show(⟨#[58]⟩ : ByteArray).data.toList=[58]from rfl]at HS;clear h;cases hp:m9 [58] (O5 s).rest with
 |none =>
  rw[Q9 hp]at HS;have hF:K8 s=(([],a1H s),O5 s):=by unfold K8;rw[hp]
  rw[hF];clear hp hF;go_enter Tryz.func65,Tryz.ntmps65
  go_wp2_with fail
  refine HN.out.mono ?_;rintro e w1⟨rfl,D0⟩;obtain⟨k1,D3⟩:=D0.at';have D9:=a8 D0;have E0:=a8 D3;clear D0 D3
  go_wp2_with fail
  refine(HS.out w1 k1 E0.out).mono ?_;rintro e w2⟨rfl,D1⟩;have E1:=a8 (D9.out.trans D1);clear D1;go_wp2
  go_ret2
  exact⟨rfl,E1.out⟩
 |some r =>
  rw[L8 hp]at HS;have hF:K8 s=((a1H s,a1H ((O5 s).to r)),O5 ((O5 s).to r)):=by unfold K8;rw[hp]
  rw[hF];have HP:=a8 hp;have E8:Hid (∀w' k',U5 w' b S v ((O5 s).to r) k'->_):=fun w' k' hm=>a4W S b v ((O5 s).to r) k' w' hm hS;clear hp hF;go_enter Tryz.func65,Tryz.ntmps65
  go_wp2_with fail
  refine HN.out.mono ?_;rintro e w1⟨rfl,D0⟩;obtain⟨k1,D3⟩:=D0.at';have D9:=a8 D0;have E0:=a8 D3;clear D0 D3
  go_wp2_with fail
  refine(HS.out w1 k1 E0.out).mono ?_;rintro e w2⟨rfl,D1⟩;obtain⟨k2,D2⟩:=D1.at';obtain⟨E3,E4⟩:=D2.behind HP.out;obtain⟨c0,c1,_,_⟩:=D2.cells;have G4:=D2.frozen 1;have G5:=D2.lt;have E1:=a8 (D9.out.trans D1);have E5:=a8 D2;have E6:=a8 E4;have G0:Hid (Value.int .i64 ((k2:Int)+1)=Value.int .i64 ((k2+1:Nat):Int)):=by show _=_;simp
  clear D1 D2 E4 c0
  go_wp2_with fail
  rw[G0.out];have E2:=E5.out.go E3;rw[E6.out]at E2;refine(E8.out _ _ E2).mono ?_;rintro e w3⟨rfl,E7⟩;have hg:=M3.go E5.out E3;rw[E6.out]at hg;have G1:=a8 (E1.out.trans (hg.trans E7));clear E7 E2 hg;go_wp2
  go_ret2
  exact⟨rfl,G1.out⟩
theorem a5j(S:ByteArray)(b:Nat)(v:Value)(s:Rf)(k:Nat)(w:World)(h:U5 w b S v s k)(hS:S.size<=1000000) :
 Calls Tryz.prog 100 #[.pointer (some ⟨b,0,none⟩)] w fun e w'=>e=.returned (.string (ba (M1 s).1))/\M3 b S v (M1 s).2 w w':=by
 have L3:=a8 (U2 S b v s k w h hS);have HT:Hid (∀w' k',U5 w' b S v (C8 s) k'->_):=fun w' k' hm=>U7 S ⟨#[61]⟩ b v (C8 s) k' w' hm hS (by decide)
 rw[show(⟨#[61]⟩ : ByteArray).data.toList=[61]from rfl]at HT;obtain⟨s2,L4⟩ : ∃s2,D0 [61] (C8 s)=s2:=⟨_,rfl⟩
 have hQ:M1 s=(match m9 [39] (C8 s2).rest with
  |some r=>J3 [39] ((C8 s2).to r)
  |none=>match m9 [34] (C8 s2).rest with
   |some r=>J3 [34] ((C8 s2).to r)
   |none=>([],(C8 s2).fail)):=by rw[<-L4];rfl
 rw[L4]at HT;have L5:Hid (∀w' k',U5 w' b S v s2 k'->_):=fun w' k' hm=>U2 S b v s2 k' w' hm hS;generalize C8 s2=s3 at *;have G6:Hid (∀w' k',U5 w' b S v s3 k'->_):=fun w' k' hm=>O3 S ⟨#[39]⟩ b v s3 k' w' hm hS (by decide)
 rw[show(⟨#[39]⟩ : ByteArray).data.toList=[39]from rfl]at G6;have G7:Hid (∀w' k',U5 w' b S v s3 k'->_):=fun w' k' hm=>O3 S ⟨#[34]⟩ b v s3 k' w' hm hS (by decide)
 rw[show(⟨#[34]⟩ : ByteArray).data.toList=[34]from rfl]at G7
 have M2:Hid (∀(k':Nat) (c:UInt8) (r:List UInt8) w',U5 w' b S v s3 k'->m9 [c] s3.rest=some r->∀w,(Instr.slice 9 (.string S) (some (.int .i64 (k':Int))) (some (.int .i64 ((k':Int)+1))) none).run Tryz.prog w=.ok (.string ⟨#[c]⟩) w):=fun k' c r w' hm hp w=>by
  obtain⟨h1,h2⟩:=hm.behind hp;rw[show((k':Int)+1)=((k'+1:Nat):Int)by omega,Y9 S (Nat.le_add_right k' 1) h1]
  have:S.extract k' (k'+1)=⟨#[c]⟩:=by
   apply G0
   rw[a7g,<-hm.rest,I6 hp];rfl
  rw[this]
 clear h L4;cases hp:m9 [39] s3.rest with
 |some r =>
  rw[L8 hp]at G6;have hF:M1 s=J3 [39] (s3.to r):=by rw[hQ,hp]
  rw[hF];have HP:=a8 hp;have HU:Hid (∀w' k',U5 w' b S v (s3.to r) k'->_):=fun w' k' hm=>a1M S ⟨#[39]⟩ 39 [] rfl b v (s3.to r) k' w' hm hS (by decide)
  rw[show(⟨#[39]⟩ : ByteArray).data.toList=[39]from rfl]at HU;clear hp hF hQ;go_enter Tryz.func100,Tryz.ntmps100
  go_wp2_with fail
  refine L3.out.mono ?_;rintro e w1⟨rfl,D3⟩;obtain⟨k1,E4⟩:=D3.at';have G8:=a8 D3;have G9:=a8 E4;clear D3 E4
  go_wp2_with fail
  refine(HT.out w1 k1 G9.out).mono ?_;rintro e w2⟨rfl,D9⟩;obtain⟨k2,E5⟩:=D9.at';have J1:=a8 (G8.out.trans D9);have J2:=a8 E5;clear D9 E5
  go_wp2_with fail
  refine(L5.out w2 k2 J2.out).mono ?_;rintro e w3⟨rfl,E0⟩;obtain⟨k3,E6⟩:=E0.at';have J4:=a8 (J1.out.trans E0);have J5:=a8 E6;clear E0 E6
  go_wp2_with fail
  refine(G6.out w3 k3 J5.out).mono ?_;rintro e w4⟨rfl,E1⟩;obtain⟨k4,D1⟩:=E1.at';obtain⟨J6,J7⟩:=D1.behind HP.out;have M4:=M2.out k4 39 r w4 D1 HP.out;obtain⟨c0,c1,_,_⟩:=D1.cells;have L2:=D1.lt;have J8:=a8 (J4.out.trans E1);have E7:=a8 D1;have J9:=a8 J7;have L6:Hid (Value.int .i64 ((k4:Int)+1)=Value.int .i64 ((k4+1:Nat):Int)):=by show _=_;simp
  clear E1 D1 J7
  go_wp2_with fail
  go_quiet (fail)
  have E2:=E7.out.below (i7 (b8 w4.heap.size w4) nq);have L7:=a8 (J8.out.trans (M3.of E7.out (i7 (b8 w4.heap.size w4) nq)));obtain⟨d0,d1,_,_⟩:=E2.cells;have M5:=E2.frozen 1;have L9:=E2.lt;have L0:=a8 E2;clear E2 c0 c1 L2 d0;generalize w4.drewN nq=w5 at *
  go_wp2_with fail
  rw[L6.out];have E8:=L0.out.go J6;rw[J9.out]at E8;refine(HU.out _ _ E8).mono ?_;rintro e w6⟨rfl,L1⟩;have hg:=M3.go L0.out J6;rw[J9.out]at hg;have M0:=a8 (L7.out.trans (hg.trans L1));clear L1 E8 hg;go_wp2;go_ret;exact⟨rfl,M0.out⟩
 |none =>
  rw[Q9 hp]at G6;cases G1:m9 [34] s3.rest with
  |some r =>
   rw[L8 G1]at G7;have hF:M1 s=J3 [34] (s3.to r):=by rw[hQ,hp];dsimp only;rw[G1]
   rw[hF];have HP:=a8 G1;have HU:Hid (∀w' k',U5 w' b S v (s3.to r) k'->_):=fun w' k' hm=>a1M S ⟨#[34]⟩ 34 [] rfl b v (s3.to r) k' w' hm hS (by decide)
   rw[show(⟨#[34]⟩ : ByteArray).data.toList=[34]from rfl]at HU;clear hp G1 hF hQ;go_enter Tryz.func100,Tryz.ntmps100
   go_wp2_with fail
   refine L3.out.mono ?_;rintro e w1⟨rfl,D3⟩;obtain⟨k1,E4⟩:=D3.at';have G8:=a8 D3;have G9:=a8 E4;clear D3 E4
   go_wp2_with fail
   refine(HT.out w1 k1 G9.out).mono ?_;rintro e w2⟨rfl,D9⟩;obtain⟨k2,E5⟩:=D9.at';have J1:=a8 (G8.out.trans D9);have J2:=a8 E5;clear D9 E5
   go_wp2_with fail
   refine(L5.out w2 k2 J2.out).mono ?_;rintro e w3⟨rfl,E0⟩;obtain⟨k3,E6⟩:=E0.at';have J4:=a8 (J1.out.trans E0);have J5:=a8 E6;clear E0 E6
   go_wp2_with fail
   refine(G6.out w3 k3 J5.out).mono ?_;rintro e w3b⟨rfl,D2⟩;obtain⟨k3b,E3⟩:=D2.at';have G4:=a8 (J4.out.trans D2);have G5:=a8 E3;clear D2 E3
   go_wp2_with fail
   refine(G7.out w3b k3b G5.out).mono ?_;rintro e w4⟨rfl,E1⟩;obtain⟨k4,D1⟩:=E1.at';obtain⟨J6,J7⟩:=D1.behind HP.out;have M4:=M2.out k4 34 r w4 D1 HP.out;obtain⟨c0,c1,_,_⟩:=D1.cells;have L2:=D1.lt;have J8:=a8 (G4.out.trans E1);have E7:=a8 D1;have J9:=a8 J7;have L6:Hid (Value.int .i64 ((k4:Int)+1)=Value.int .i64 ((k4+1:Nat):Int)):=by show _=_;simp
   clear E1 D1 J7
   go_wp2_with fail
   go_quiet (fail)
   have E2:=E7.out.below (i7 (b8 w4.heap.size w4) nq);have L7:=a8 (J8.out.trans (M3.of E7.out (i7 (b8 w4.heap.size w4) nq)));obtain⟨d0,d1,_,_⟩:=E2.cells;have M5:=E2.frozen 1;have L9:=E2.lt;have L0:=a8 E2;clear E2 c0 c1 L2 d0;generalize w4.drewN nq=w5 at *
   go_wp2_with fail
   rw[L6.out];have E8:=L0.out.go J6;rw[J9.out]at E8;refine(HU.out _ _ E8).mono ?_;rintro e w6⟨rfl,L1⟩;have hg:=M3.go L0.out J6;rw[J9.out]at hg;have M0:=a8 (L7.out.trans (hg.trans L1));clear L1 E8 hg;go_wp2;go_ret;exact⟨rfl,M0.out⟩
  |none =>
   rw[Q9 G1]at G7;have hF:M1 s=([],s3.fail):=by rw[hQ,hp];dsimp only;rw[G1]
   rw[hF];clear hp G1 hF hQ;go_enter Tryz.func100,Tryz.ntmps100
   go_wp2_with fail
   refine L3.out.mono ?_;rintro e w1⟨rfl,D3⟩;obtain⟨k1,E4⟩:=D3.at';have G8:=a8 D3;have G9:=a8 E4;clear D3 E4
   go_wp2_with fail
   refine(HT.out w1 k1 G9.out).mono ?_;rintro e w2⟨rfl,D9⟩;obtain⟨k2,E5⟩:=D9.at';have J1:=a8 (G8.out.trans D9);have J2:=a8 E5;clear D9 E5
   go_wp2_with fail
   refine(L5.out w2 k2 J2.out).mono ?_;rintro e w3⟨rfl,E0⟩;obtain⟨k3,E6⟩:=E0.at';have J4:=a8 (J1.out.trans E0);have J5:=a8 E6;clear E0 E6
   go_wp2_with fail
   refine(G6.out w3 k3 J5.out).mono ?_;rintro e w3b⟨rfl,D2⟩;obtain⟨k3b,E3⟩:=D2.at';have G4:=a8 (J4.out.trans D2);have G5:=a8 E3;clear D2 E3
   go_wp2_with fail
   refine(G7.out w3b k3b G5.out).mono ?_;rintro e w4⟨rfl,E1⟩;obtain⟨k4,D1⟩:=E1.at';obtain⟨_,_,_,c3⟩:=D1.cells;have M6:=D1.frozen 3;have L2:=D1.lt;have J8:=a8 (G4.out.trans E1);have E7:=a8 D1;clear E1 D1;go_wp2;go_ret;exact⟨rfl,J8.out.trans (M3.mark E7.out true)⟩
structure S5(w:World)(B rb:Nat)(S:ByteArray)(s:Rf)(vn:Value)(ys:List Ny):Prop where
 lo:B<=rb
 rc:∃k,U5 w rb S vn s k
 ns:ys.map (·.x)=s.ns
 rn:w.ownsRow B 42 8 vn ys.length (ys.flatMap nyC)
 ry:∀y∈ys,a7w w B y
theorem S5.len{w:World}{B rb:Nat}{S:ByteArray}{s:Rf}{vn:Value}{ys:List Ny}(h:S5 w B rb S s vn ys):ys.length=s.ns.length:=by rw[<-h.ns,C9]
theorem S5.lt{w:World}{B rb:Nat}{S:ByteArray}{s:Rf}{vn:Value}{ys:List Ny}(h:S5 w B rb S s vn ys):rb<w.heap.size:=by obtain⟨k,hk⟩:=h.rc;exact hk.lt
theorem S5.rst{w w':World}{B rb:Nat}{S:ByteArray}{s s':Rf}{vn:Value}{ys:List Ny}(h:S5 w B rb S s vn ys)(hr:M3 rb S vn s' w w')(hn:s'.ns=s.ns):S5 w' B rb S s' vn ys:=by
 obtain⟨k,hk⟩:=h.rc;have D0:∀(b:Nat) (e:TypeId) (cs:Array Value),e≠64->w.heap[b]? = some (.cells cs e (0,0))->w'.heap[b]? = w.heap[b]?:=fun b e cs he hb=>hr.other b (i3 hb) (B7 hb hk.box he);exact⟨h.lo,hr.at',h.ns.trans hn.symm,r6 h.rn (fun b _ ⟨cs,hb⟩=>D0 b _ cs (by decide) hb),fun y hy=>⟨r6 (h.ry y hy).1 (fun b _ ⟨cs,hb⟩=>D0 b _ cs (by decide) hb),r6 (h.ry y hy).2 (fun b _ ⟨cs,hb⟩=>D0 b _ cs (by decide) hb)⟩⟩
theorem S5.below{w w':World}{B rb:Nat}{S:ByteArray}{s:Rf}{vn:Value}{ys:List Ny}(h:S5 w B rb S s vn ys)(hb:Below w.heap.size w w'):S5 w' B rb S s vn ys:=by
 obtain⟨k,hk⟩:=h.rc;exact h.rst (M3.of hk hb) rfl
theorem O4{w:World}{B e s n z:Nat}{v:Value}{xs:List Value}{cs:Array Value}{t:TypeId}(h:w.ownsRow B e s v n xs)(hb:w.heap[z]? = some (.cells cs t (0,0)))(he:e≠t):v.ownBlock≠some z:=fun e1=>by
 obtain⟨_,⟨e2,_⟩|⟨g,cap,cur,e2,_,hh,_⟩⟩:=h
 ·rw[e2]at e1;simp[Value.ownBlock]at e1
 ·rw[e2]at e1
  simp only[Value.ownBlock,f5]at e1;rw[e1,hb]at hh;simp only[f5,Obj.cells.injEq]at hh;exact he hh.2.1.symm
theorem S5.laid{w w1:World}{B rb:Nat}{S:ByteArray}{s:Rf}{vn v1:Value}{ys:List Ny}{y:Ny}(h:S5 w B rb S s vn ys)(D0:∀b,b<w.heap.size->vn.ownBlock≠some b->w1.heap[b]? = w.heap[b]?)(D2:w1.ownsRow B 42 8 v1 (ys.length+1) ((ys++[y]).flatMap nyC))(hy:a7w w B y) :
 S5 (w1.setCell ⟨rb,2,none⟩ v1) B rb S (s.add y.x) v1 (ys++[y]):=by
 obtain⟨k,hk⟩:=h.rc;have D3:w1.heap[rb]? = w.heap[rb]?:=D0 rb hk.lt (O4 h.rn hk.box (by decide))
 have D1:∀(b:Nat) (e:TypeId) (cs:Array Value),e≠64->w1.heap[b]? = some (.cells cs e (0,0))->(w1.setCell ⟨rb,2,none⟩ v1).heap[b]? = w1.heap[b]?:=fun b e cs he hb=>f7 _ _ _ _ (B7 hb (D3.trans hk.box) he)
 have keep:∀{e s n:Nat} {v:Value} {xs:List Value},e≠42->e≠64->w.ownsRow B e s v n xs->(w1.setCell ⟨rb,2,none⟩ v1).ownsRow B e s v n xs:=fun {e s n v xs} he D9 ho=>by
  have h1:w1.ownsRow B e s v n xs:=r6 ho (fun b hb ⟨cs,hc⟩=>D0 b (i3 hc) (O4 h.rn hc (Ne.symm he)));exact r6 h1 (fun b hb ⟨cs,hc⟩=>D1 b e cs D9 hc)
 refine⟨h.lo,⟨k,hk.le,hk.rest,by rw[o8 (D3.trans hk.box)];rfl⟩,by rw[List.map_append,h.ns];rfl,?_,fun z hz => ?_⟩
 ·rw[e8,j0]
  exact r6 D2 (fun b _ ⟨cs,hc⟩=>D1 b _ cs (by decide) hc)
 ·rcases D6.1 hz with hz|hz
  ·exact⟨keep (by decide) (by decide) (h.ry z hz).1,keep (by decide) (by decide) (h.ry z hz).2⟩
  ·rw[r8.1 hz]
   exact⟨keep (by decide) (by decide) hy.1,keep (by decide) (by decide) hy.2⟩
theorem c0M{w:World}{ops:Array Oper}{rest:List Oper}{o:Oper}{a:Act}{Q:Exit->Act->World->Prop}(D2:o.guard=none)(s x:Operand)(ho:o.op=.call { callee:=.builtin .append,args:=#[s,x],argTypes:=#[28,28] })
 (B:Nat) (v:Value) (l:List Ny) (hs:a.eval s=v) (D1:w.ownsRow B 42 8 v l.length (l.flatMap nyC)) (g:Nat) (y:Ny) (hx:a.eval x=.slice (some ⟨g,0,none⟩) 1 1) (D0:w.heap[g]? = some (.cells #[.int .i64 y.x.k,.int .i64 y.x.n,.string y.x.p,.string y.x.l,.string y.x.u,.string y.x.t,y.d,y.a] 42 (0,0))) (hd:y.d.oneCell'=true) (ha:y.a.oneCell'=true) (hn:l.length<=1000000) (hB:B<=w.heap.size)
 (h:∀v' w',w'.ownsRow B 42 8 v' (l.length+1) ((l++[y]).flatMap nyC)->w.grownBy w' v.ownBlock->(v'.ownBlock=v.ownBlock∨v'.ownBlock=some w.heap.size)->wpList Tryz.prog ops Q rest (a.put o.dst v') w'):wpList Tryz.prog ops Q (o::rest) a w:=by
 refine wpList_plain D2 fun _ hK => ?_;obtain⟨i0,D3,D9,E0,E1⟩:=info_parts a1W
 obtain⟨v',w',hr,h2,h3,_,h5⟩:=run_append_own_at (P:=Tryz.prog) w B 28 o.type 42 i0 _ 8 _ Tryz.underlying28 D3 D9 E0 E1 rfl (by omega) v l.length _ D1 ⟨g,0,none⟩ 1 1 (nyC y) rfl (World.news_of_block D0) (fun u hu=>by
  unfold nyC ndC at hu;simp only[q8,C5,or_false]at hu;rcases hu with rfl|rfl|rfl|rfl|rfl|rfl|rfl|rfl<;>first|rfl|exact hd|exact ha) (by unfold maxLen;omega) (by omega) hB
 unfold Oper.wp execOp;simp only[ho,resolve,invoke,builtin,Sem.run_bind,Sem.run_pure,Result.andThen_ok,List.map_toArray,List.map_cons,List.map_nil,hs,hx,hr];refine hK _ _ (h v' w' ?_ h3 h5);rw[D8];have e:[y].flatMap nyC=nyC y:=by simp
 rw[e];exact h2
def U4(B rb:Nat)(S:ByteArray)(s':Rf)(vn:Value)(w w':World):Prop:=(∃vn' ys',S5 w' B rb S s' vn' ys'/\L7 rb vn vn' w w')/\Below B w w'
theorem b3e:(Value.slice none 0 0).oneCell'=true:=rfl
theorem S5.grown{w w1:World}{B rb:Nat}{S:ByteArray}{s:Rf}{vn v1:Value}{ys:List Ny}{y:Ny}{ob:Obj}(h:S5 w B rb S s vn ys)(hg:(w.alloc ob).grownBy w1 vn.ownBlock)(D2:v1.ownBlock=vn.ownBlock∨v1.ownBlock=some (w.alloc ob).heap.size)(D0:w1.ownsRow B 42 8 v1 (ys.length+1) ((ys++[y]).flatMap nyC))(hy:a7w w B y)(D3:B<=w.heap.size) :
 S5 (w1.setCell ⟨rb,2,none⟩ v1) B rb S (s.add y.x) v1 (ys++[y])/\L7 rb vn v1 w (w1.setCell ⟨rb,2,none⟩ v1)/\Below B w (w1.setCell ⟨rb,2,none⟩ v1):=by
 have D1:∀b,b<w.heap.size->vn.ownBlock≠some b->w1.heap[b]? = w.heap[b]?:=fun b hb D9=>by
  rw[hg.block b (by simp;omega) (fun e=>D9 e.symm)]
  exact((b8 w.heap.size w).alloc (c9 _) ob).block b hb
 refine⟨h.laid D1 D0 hy,⟨fun b hb E0 E1 => ?_,fun b hb => ?_,?_⟩,?_⟩
 ·rw[f7 _ _ _ _ E0]
  exact D1 b hb E1
 ·rcases D2 with h1|h1
  ·exact .inl (h1 ▸ hb)
  ·rw[h1]at hb
   simp only[f5]at hb;exact .inr (by rw[<-hb];simp)
 ·have:=hg.size
  simp[World.setCell]at this ⊢;omega
 ·exact(((b8 B w).alloc D3 _).grown hg (by simp;omega) (fun k hk=>(h.rn.lt k hk).1)).setCell (p:=⟨rb,2,none⟩) h.lo _
theorem b3b(S:ByteArray)(B rb:Nat)(s:Rf)(vn:Value)(ys:List Ny)(n:Int)(t:List UInt8)(w:World)(h:S5 w B rb S s vn ys)(E2:ys.length<=900000) :
 Calls Tryz.prog 105 #[.pointer (some ⟨rb,0,none⟩),.int .i64 n,.string (ba t)] w fun e w'=>e=.returned (.tuple #[])/\U4 B rb S (J2 n t s) vn w w':=by
 have D3:=h.lt;have E0:B<=w.heap.size:=d8 h.lo (A6 D3);obtain⟨k,hk⟩:=h.rc;obtain⟨c0,c1,c2,c3⟩:=hk.cells;have E3:=hk.frozen 2;have H:=a8 h;by_cases ht:t=[]
 ·subst ht
  have hT:((⟨#[]⟩ : ByteArray).toList == [])=true:=by rw[f9];rfl
  have e:J2 n [] s=s:=by unfold J2;rw[g8 rfl]
  rw[e,show ba []=⟨#[]⟩from rfl];clear h hk e;go_enter Tryz.func105,Tryz.ntmps105;go_wp2
  go_end0
  exact⟨rfl,⟨vn,ys,H.out,L7.of_below (b8 _ _)⟩,b8 _ _⟩
 ·have hT:((ba t).toList == [])=false:=by rw[f9,B5,e9];exact ht
  have E4:(ba t).toList.isEmpty=false:=by rw[f9,B5];cases t with|nil=>exact absurd rfl ht|cons c z=>rfl
  have e:J2 n t s=s.add ⟨2,n,⟨#[]⟩,⟨#[]⟩,⟨#[]⟩,ba t,[],[]⟩:=by unfold J2;rw[f6 ht]
  rw[e];generalize ba t=Z at *;obtain⟨An,cn,rfl,E5,E1⟩:=q9 h.rn;clear h hk ht e;go_enter Tryz.func105,Tryz.ntmps105
  go_wp2_with (first
   |(at_builtin;refine c0M rfl (.tmp 12) (.tmp 16) rfl B (.slice An ys.length cn) ys rfl (H.out.rn.alloc _) w.heap.size ⟨⟨2,n,⟨#[]⟩,⟨#[]⟩,⟨#[]⟩,Z,[],[]⟩,.slice none 0 0,.slice none 0 0⟩ rfl (g9 w _) b3e b3e (by omega) (by simp;omega) ?_;intro v1 wa D1 D0 D9;obtain⟨g1,g2,g3⟩:=H.out.grown D0 D9 D1 ⟨r5 _ _ _ _,r5 _ _ _ _⟩ E0;have D2:=(D0.block rb (by simp;omega) (fun e=>O4 H.out.rn (show w.heap[rb]? = _ from(show _ from H.out.rc.choose_spec.box)) (by decide) e.symm)).trans ((((b8 w.heap.size w).alloc (c9 _) _).block rb D3).trans H.out.rc.choose_spec.box);have kc:wa.cell? ⟨rb,2,none⟩=some (.slice An ys.length cn):=(by rw[d9 wa rb 2 _ _ _ D2];rfl);have kf:wa.frozen? ⟨rb,2,none⟩=false:=(by unfold World.frozen?;rw[D2];simp);have HG:=a8 (D5 g1 (D5 g2 g3));obtain⟨A1,c1',rfl,_,_⟩:=q9 D1;clear D2 D1 D0 D9 g1 g2 g3)
   |fail)
  go_end0
  exact⟨rfl,⟨_,_,HG.out.1,HG.out.2.1⟩,HG.out.2.2⟩
theorem P5(p:List UInt8)(s:Rf):(D0 p s).ns=s.ns:=by unfold D0;split<;>rfl
theorem a1E(p:List UInt8)(s:Rf):(J3 p s).2.ns=s.ns:=by unfold J3;split<;>rfl
theorem b2k(s:Rf):(O5 s).ns=s.ns:=rfl
theorem a41(s:Rf):(K8 s).2.ns=s.ns:=by unfold K8;split<;>rfl
theorem a8Q(s:Rf):(M1 s).2.ns=s.ns:=by
 unfold M1
 split
 ·rw[a1E];exact P5 _ _
 ·split
  ·rw[a1E];exact P5 _ _
  ·exact P5 _ _
theorem b12(key:List UInt8)(s:Rf):(Q0 key s).2.ns=s.ns:=by
 unfold Q0
 split
 ·rfl
 ·rw[a8Q,P5];rfl
theorem a4z(S:ByteArray)(B rb:Nat)(s:Rf)(vn:Value)(ys:List Ny)(n:Int)(w:World)(h:S5 w B rb S s vn ys)(hS:S.size<=1000000)(L9:ys.length<=900000) :
 Calls Tryz.prog 63 #[.pointer (some ⟨rb,0,none⟩),.int .i64 n] w fun e w'=>e=.returned (.tuple #[])/\U4 B rb S (a0d n s) vn w w':=by
 have G8:=h.lt;have G9:B<=w.heap.size:=d8 h.lo (A6 G8);obtain⟨k,hk⟩:=h.rc;have J1:Hid (Calls Tryz.prog 59 #[.pointer (some ⟨rb,0,none⟩),.string ⟨#[60,33,45,45]⟩] w fun e w'=>e=.returned (.tuple #[])/\M3 rb S vn (D0 [60,33,45,45] s) w w'):=U7 S ⟨#[60,33,45,45]⟩ rb vn s k w hk hS (by decide)
 have E6:=a8 h.lo;have H:=a8 h;have E7:=P5 [60,33,45,45] s;have E8:a0d n s=(J3 [45,45,62] (D0 [60,33,45,45] s)).2.add ⟨3,n,⟨#[]⟩,⟨#[]⟩,⟨#[]⟩,ba (J3 [45,45,62] (D0 [60,33,45,45] s)).1,[],[]⟩:=rfl;rw[E8];have G0:=a1E [45,45,62] (D0 [60,33,45,45] s);generalize D0 [60,33,45,45] s=s1 at *;have J2:Hid (∀w' k',U5 w' rb S vn s1 k'->Calls Tryz.prog 101 #[.pointer (some ⟨rb,0,none⟩),.string ⟨#[45,45,62]⟩] w' fun e w''=>e=.returned (.string (ba (J3 [45,45,62] s1).1))/\M3 rb S vn (J3 [45,45,62] s1).2 w' w''):=fun w' k' hm=>a1M S ⟨#[45,45,62]⟩ 45 [45,62] rfl rb vn s1 k' w' hm hS (by decide)
 generalize (J3 [45,45,62] s1).2=s2 at *;generalize ba (J3 [45,45,62] s1).1=Z at *;have J4:=a8 E7;have J5:=a8 G0;obtain⟨An,cn,rfl,M0,J6⟩:=q9 h.rn;obtain⟨i0,J7,J8,J9,L0⟩:=info_parts a1W;obtain⟨yn,E2⟩ : ∃yn:Ny,yn=⟨⟨3,n,⟨#[]⟩,⟨#[]⟩,⟨#[]⟩,Z,[],[]⟩,.slice none 0 0,.slice none 0 0⟩:=⟨_,rfl⟩;have G1:=a8 E2
 have G4:Hid ([yn].flatMap nyC=[.int .i64 3,.int .i64 n,.string ⟨#[]⟩,.string ⟨#[]⟩,.string ⟨#[]⟩,.string Z,.slice none 0 0,.slice none 0 0]):=by
  show _=_
  rw[E2];rfl
 have L1:Hid (∀W:World,∀j u,([yn].flatMap nyC)[j]? = some u->(W.alloc (Obj.cells #[.int .i64 3,.int .i64 n,.string ⟨#[]⟩,.string ⟨#[]⟩,.string ⟨#[]⟩,.string Z,.slice none 0 0,.slice none 0 0] 42)).cell? ((⟨W.heap.size,0,none⟩ : Addr).add j)=some u):=fun W j u hu=>by
  rw[G4.out]at hu;exact World.news_of_block (g9 W (Obj.cells #[.int .i64 3,.int .i64 n,.string ⟨#[]⟩,.string ⟨#[]⟩,.string ⟨#[]⟩,.string Z,.slice none 0 0,.slice none 0 0] 42)) j u hu
 have L2:Hid (∀u∈[yn].flatMap nyC,u.oneCell'=true):=fun u hu=>by
  rw[G4.out]at hu;simp only[q8,C5,or_false]at hu;rcases hu with rfl|rfl|rfl|rfl|rfl|rfl|rfl|rfl<;>rfl
 clear h hk E8 E7 G0 E2;go_enter Tryz.func63,Tryz.ntmps63
 go_wp2_with fail
 refine J1.out.mono ?_;rintro e w1⟨rfl,D3⟩;have h1:S5 w1 B rb S s1 (.slice An ys.length cn) ys:=H.out.rst D3 J4.out;have G5:=D3.below E6.out G9;have E0:L7 rb (.slice An ys.length cn) (.slice An ys.length cn) w w1:=⟨fun b hb E3 _=>D3.other b hb E3,fun b hb => .inl hb,D3.size⟩;have M1:=D3.size;obtain⟨k1,E1⟩:=h1.rc;have hU:=J2.out w1.drew k1 (E1.below ((b8 w1.heap.size w1).drew));obtain⟨c0,c1,c2,c3⟩:=E1.cells;have M2:=E1.frozen 2;have L3:=E1.lt;have HU:=a8 hU;have H1:=a8 (h1.below ((b8 w1.heap.size w1).drew));have G6:=a8 G5;have L4:=a8 E0;clear D3 h1 G5 E0 E1 hU c0 c1 c3
 go_upto_region 1 with fail
 go_region_law (first
  |(go_simp;go_at_call 101;refine HU.out.mono ?_;rintro e w2 ⟨rfl,D9⟩;have h2:=H1.out.rst D9 J5.out;have L5:w1.heap.size<=w2.heap.size:=D9.size;have q2:=h2.rc.choose_spec.cells.2.2.1;have qf:=h2.rc.choose_spec.frozen 2;have ql:=h2.lt;have H2:=a8 h2;have L6:=a8 ((G6.out.trans ((b8 B w1).drew)).trans (D9.below E6.out (by have:=G6.out.size;show B<=w1.heap.size;omega)));have L8:=a8 (L4.out.trans ⟨fun b hb E3 _=>D9.other b hb E3,fun b hb => .inl hb,D9.size⟩);clear D9 h2;dsimp only)
  |(refine U3 (P:=Tryz.prog) rfl (.tmp 10) (.tmp 15) 28 rfl B 42 i0 _ 8 _ Tryz.underlying28 J7 J8 J9 L0 rfl (by omega) (.slice An ys.length cn) ys.length (ys.flatMap nyC) rfl (H2.out.rn.alloc _) 1 (.slice (some ⟨w2.heap.size,0,none⟩) 1 1) rfl ([yn].flatMap nyC) (.inr ⟨_,1,rfl,L1.out w2⟩) rfl L2.out (by unfold maxLen;omega) (by omega) (by simp;omega) ?_;intro v1 wa D2 D1 G7;rw[<-D8]at D2;obtain⟨g1,g2,g3⟩:=H2.out.grown D1 G7 D2 (G1.out ▸ ⟨r5 _ _ _ _,r5 _ _ _ _⟩) (by omega);have E4:=(D1.block rb (by simp;omega) (fun e=>O4 H2.out.rn H2.out.rc.choose_spec.box (by decide) e.symm)).trans ((((b8 w2.heap.size w2).alloc (c9 _) _).block rb H2.out.lt).trans H2.out.rc.choose_spec.box);have kc:wa.cell? ⟨rb,2,none⟩=some (.slice An ys.length cn):=(by rw[d9 wa rb 2 _ _ _ E4];rfl);have kf:wa.frozen? ⟨rb,2,none⟩=false:=(by unfold World.frozen?;rw[E4];simp);have HG:=a8 (D5 g1 (D5 g2 g3));obtain⟨A1,c1',rfl,_,_⟩:=q9 D2;clear E4 D2 D1 G7 g1 g2 g3))
 all_goals
  have E5:Hid (U4 B rb S (s2.add ⟨3,n,⟨#[]⟩,⟨#[]⟩,⟨#[]⟩,Z,[],[]⟩) (.slice An ys.length cn) w (wa.setCell ⟨rb,2,none⟩ (.slice A1 (ys.length+1) c1'))):=by
   obtain⟨g1,g2,g3⟩:=HG.out;rw[G1.out]at g1;exact⟨⟨_,_,g1,L8.out.trans g2⟩,L6.out.trans g3⟩
  clear HG kc kf
  go_end0
  exact⟨rfl,E5.out⟩
end Go.Proofs.YteinegfbpfhflaaGreatDoor
