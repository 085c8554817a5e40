/-
  apostilleref08.Reader: full, quoted, said. Conditions: the reader lies as it is; the texts are not too long.
  The document's own reader with its nodes in memory; one more node. apostilleref08.Reader: put. Conditions: the reader lies as it is; there are not too many nodes.
  apostilleref08.Reader: comment. Conditions: the reader lies as it is; there are not too many nodes.
-/
import Derived.Test.YteinegfbpfhflaaGreatDoorM44
import Derived.Test.YteinegfbpfhflaaGreatDoorM38
import Derived.Test.YteinegfbpfhflaaGreatDoorM32
import Derived.Test.YteinegfbpfhflaaGreatDoorM28
namespace Go.Proofs.YteinegfbpfhflaaGreatDoor
open Go.RowKit
set_option linter.unusedVariables false
set_option maxRecDepth 100000
set_option maxHeartbeats 16000000
theorem eR.behind{w:World}{b:Nat}{S:ByteArray}{v:Value}{s:Rf}{k:Nat}(h:eR w b S v s k){c:UInt8}{r:List UInt8}(hp:aH [c] s.rest=some r):k+1<=S.size/\S.data.toList.drop (k+1)=r:=by
 have h1:=ib hp;have h2:=h.len;have h3:=cH hp;simp only[az,bb]at h1;refine⟨by omega,?_⟩
 rw[<-List.drop_drop,<-h.rest,h3];rfl
theorem pV(S:ByteArray)(b:Nat)(v:Value)(s:Rf)(k:Nat)(w:World)(h:eR w b S v s k)(hS:S.size<=1000000) :
 Calls Tryz.prog 65 #[.pointer (some ⟨b,0,none⟩)] w fun e w'=>e=.returned (.tuple #[.string (ba (cQ s).1.1),.string (ba (cQ s).1.2)])/\dA b S v (cQ s).2 w w':=by
 have HN:=aa (nh S b v s k w h hS);have HS:Hid (∀w' k',eR w' b S v (dR s) k'->_):=fun w' k' hm=>dP S ⟨#[58]⟩ b v (dR s) k' w' hm hS (by decide)
 rw[show(⟨#[58]⟩ : ByteArray).data.toList=[58]from rfl]at HS;clear h;cases hp:aH [58] (dR s).rest with
 |none =>
  rw[ek hp]at HS;have hF:cQ s=(([],iR s),dR s):=by unfold cQ;rw[hp]
  rw[hF];clear hp hF;go_enter Tryz.func65,Tryz.ntmps65
  go_wp2_with fail
  refine HN.out.mono ?_;rintro e w1⟨rfl,hr1⟩;obtain⟨k1,hm1⟩:=hr1.at';have HR1:=aa hr1;have HM1:=aa hm1;clear hr1 hm1
  go_wp2_with fail
  refine(HS.out w1 k1 HM1.out).mono ?_;rintro e w2⟨rfl,hr2⟩;have HR2:=aa (HR1.out.trans hr2);clear hr2;go_wp2
  go_ret2
  exact⟨rfl,HR2.out⟩
 |some r =>
  rw[dw hp]at HS;have hF:cQ s=((iR s,iR ((dR s).to r)),dR ((dR s).to r)):=by unfold cQ;rw[hp]
  rw[hF];have HP:=aa hp;have HN2:Hid (∀w' k',eR w' b S v ((dR s).to r) k'->_):=fun w' k' hm=>nh S b v ((dR s).to r) k' w' hm hS;clear hp hF;go_enter Tryz.func65,Tryz.ntmps65
  go_wp2_with fail
  refine HN.out.mono ?_;rintro e w1⟨rfl,hr1⟩;obtain⟨k1,hm1⟩:=hr1.at';have HR1:=aa hr1;have HM1:=aa hm1;clear hr1 hm1
  go_wp2_with fail
  refine(HS.out w1 k1 HM1.out).mono ?_;rintro e w2⟨rfl,hr2⟩;obtain⟨k2,hm2⟩:=hr2.at';obtain⟨hk2,hd2⟩:=hm2.behind HP.out;obtain⟨c0,c1,_,_⟩:=hm2.cells;have hf1:=hm2.frozen 1;have hlt:=hm2.lt;have HR2:=aa (HR1.out.trans hr2);have HM2:=aa hm2;have HD2:=aa hd2;have HEQ:Hid (Value.int .i64 ((k2:Int)+1)=Value.int .i64 ((k2+1:Nat):Int)):=by show _=_;simp
  clear hr2 hm2 hd2 c0
  go_wp2_with fail
  rw[HEQ.out];have hm3:=HM2.out.go hk2;rw[HD2.out]at hm3;refine(HN2.out _ _ hm3).mono ?_;rintro e w3⟨rfl,hr3⟩;have hg:=dA.go HM2.out hk2;rw[HD2.out]at hg;have HR3:=aa (HR2.out.trans (hg.trans hr3));clear hr3 hm3 hg;go_wp2
  go_ret2
  exact⟨rfl,HR3.out⟩
theorem nL(S:ByteArray)(b:Nat)(v:Value)(s:Rf)(k:Nat)(w:World)(h:eR w b S v s k)(hS:S.size<=1000000) :
 Calls Tryz.prog 100 #[.pointer (some ⟨b,0,none⟩)] w fun e w'=>e=.returned (.string (ba (dq s).1))/\dA b S v (dq s).2 w w':=by
 have HB1:=aa (eN S b v s k w h hS);have HT:Hid (∀w' k',eR w' b S v (bG s) k'->_):=fun w' k' hm=>eT S ⟨#[61]⟩ b v (bG s) k' w' hm hS (by decide)
 rw[show(⟨#[61]⟩ : ByteArray).data.toList=[61]from rfl]at HT;obtain⟨s2,hs2⟩ : ∃s2,bI [61] (bG s)=s2:=⟨_,rfl⟩
 have hQ:dq s=(match aH [39] (bG s2).rest with
  |some r=>cR [39] ((bG s2).to r)
  |none=>match aH [34] (bG s2).rest with
   |some r=>cR [34] ((bG s2).to r)
   |none=>([],(bG s2).fail)):=by rw[<-hs2];rfl
 rw[hs2]at HT;have HB2:Hid (∀w' k',eR w' b S v s2 k'->_):=fun w' k' hm=>eN S b v s2 k' w' hm hS;generalize bG s2=s3 at *;have HS1:Hid (∀w' k',eR w' b S v s3 k'->_):=fun w' k' hm=>dP S ⟨#[39]⟩ b v s3 k' w' hm hS (by decide)
 rw[show(⟨#[39]⟩ : ByteArray).data.toList=[39]from rfl]at HS1;have HS2:Hid (∀w' k',eR w' b S v s3 k'->_):=fun w' k' hm=>dP S ⟨#[34]⟩ b v s3 k' w' hm hS (by decide)
 rw[show(⟨#[34]⟩ : ByteArray).data.toList=[34]from rfl]at HS2
 have HSL:Hid (∀(k':Nat) (c:UInt8) (r:List UInt8) w',eR w' b S v s3 k'->aH [c] s3.rest=some r->∀w,(Instr.slice 9 (.string S) (some (.int .i64 (k':Int))) (some (.int .i64 ((k':Int)+1))) none).run Tryz.prog w=.ok (.string ⟨#[c]⟩) w):=fun k' c r w' hm hp w=>by
  obtain⟨h1,h2⟩:=hm.behind hp;rw[show((k':Int)+1)=((k'+1:Nat):Int)by omega,fP S (Nat.le_add_right k' 1) h1]
  have:S.extract k' (k'+1)=⟨#[c]⟩:=by
   apply cp
   rw[qq,<-hm.rest,cH hp];rfl
  rw[this]
 clear h hs2;cases hp:aH [39] s3.rest with
 |some r =>
  rw[dw hp]at HS1;have hF:dq s=cR [39] (s3.to r):=by rw[hQ,hp]
  rw[hF];have HP:=aa hp;have HU:Hid (∀w' k',eR w' b S v (s3.to r) k'->_):=fun w' k' hm=>iY S ⟨#[39]⟩ 39 [] rfl b v (s3.to r) k' w' hm hS (by decide)
  rw[show(⟨#[39]⟩ : ByteArray).data.toList=[39]from rfl]at HU;clear hp hF hQ;go_enter Tryz.func100,Tryz.ntmps100
  go_wp2_with fail
  refine HB1.out.mono ?_;rintro e w1⟨rfl,hr1⟩;obtain⟨k1,hm1⟩:=hr1.at';have HR1:=aa hr1;have HM1:=aa hm1;clear hr1 hm1
  go_wp2_with fail
  refine(HT.out w1 k1 HM1.out).mono ?_;rintro e w2⟨rfl,hr2⟩;obtain⟨k2,hm2⟩:=hr2.at';have HR2:=aa (HR1.out.trans hr2);have HM2:=aa hm2;clear hr2 hm2
  go_wp2_with fail
  refine(HB2.out w2 k2 HM2.out).mono ?_;rintro e w3⟨rfl,hr3⟩;obtain⟨k3,hm3⟩:=hr3.at';have HR3:=aa (HR2.out.trans hr3);have HM3:=aa hm3;clear hr3 hm3
  go_wp2_with fail
  refine(HS1.out w3 k3 HM3.out).mono ?_;rintro e w4⟨rfl,hr4⟩;obtain⟨k4,hm4⟩:=hr4.at';obtain⟨hk4,hd4⟩:=hm4.behind HP.out;have hsl:=HSL.out k4 39 r w4 hm4 HP.out;obtain⟨c0,c1,_,_⟩:=hm4.cells;have hlt:=hm4.lt;have HR4:=aa (HR3.out.trans hr4);have HM4:=aa hm4;have HD4:=aa hd4;have HEQ:Hid (Value.int .i64 ((k4:Int)+1)=Value.int .i64 ((k4+1:Nat):Int)):=by show _=_;simp
  clear hr4 hm4 hd4
  go_wp2_with fail
  go_quiet (fail)
  have hm5:=HM4.out.below (ay (ae w4.heap.size w4) nq);have HR5:=aa (HR4.out.trans (dA.of HM4.out (ay (ae w4.heap.size w4) nq)));obtain⟨d0,d1,_,_⟩:=hm5.cells;have hf1:=hm5.frozen 1;have hlt5:=hm5.lt;have HM5:=aa hm5;clear hm5 c0 c1 hlt d0;generalize w4.drewN nq=w5 at *
  go_wp2_with fail
  rw[HEQ.out];have hm6:=HM5.out.go hk4;rw[HD4.out]at hm6;refine(HU.out _ _ hm6).mono ?_;rintro e w6⟨rfl,hr6⟩;have hg:=dA.go HM5.out hk4;rw[HD4.out]at hg;have HR6:=aa (HR5.out.trans (hg.trans hr6));clear hr6 hm6 hg;go_wp2;go_ret;exact⟨rfl,HR6.out⟩
 |none =>
  rw[ek hp]at HS1;cases hp2:aH [34] s3.rest with
  |some r =>
   rw[dw hp2]at HS2;have hF:dq s=cR [34] (s3.to r):=by rw[hQ,hp];dsimp only;rw[hp2]
   rw[hF];have HP:=aa hp2;have HU:Hid (∀w' k',eR w' b S v (s3.to r) k'->_):=fun w' k' hm=>iY S ⟨#[34]⟩ 34 [] rfl b v (s3.to r) k' w' hm hS (by decide)
   rw[show(⟨#[34]⟩ : ByteArray).data.toList=[34]from rfl]at HU;clear hp hp2 hF hQ;go_enter Tryz.func100,Tryz.ntmps100
   go_wp2_with fail
   refine HB1.out.mono ?_;rintro e w1⟨rfl,hr1⟩;obtain⟨k1,hm1⟩:=hr1.at';have HR1:=aa hr1;have HM1:=aa hm1;clear hr1 hm1
   go_wp2_with fail
   refine(HT.out w1 k1 HM1.out).mono ?_;rintro e w2⟨rfl,hr2⟩;obtain⟨k2,hm2⟩:=hr2.at';have HR2:=aa (HR1.out.trans hr2);have HM2:=aa hm2;clear hr2 hm2
   go_wp2_with fail
   refine(HB2.out w2 k2 HM2.out).mono ?_;rintro e w3⟨rfl,hr3⟩;obtain⟨k3,hm3⟩:=hr3.at';have HR3:=aa (HR2.out.trans hr3);have HM3:=aa hm3;clear hr3 hm3
   go_wp2_with fail
   refine(HS1.out w3 k3 HM3.out).mono ?_;rintro e w3b⟨rfl,hr3b⟩;obtain⟨k3b,hm3b⟩:=hr3b.at';have HR3b:=aa (HR3.out.trans hr3b);have HM3b:=aa hm3b;clear hr3b hm3b
   go_wp2_with fail
   refine(HS2.out w3b k3b HM3b.out).mono ?_;rintro e w4⟨rfl,hr4⟩;obtain⟨k4,hm4⟩:=hr4.at';obtain⟨hk4,hd4⟩:=hm4.behind HP.out;have hsl:=HSL.out k4 34 r w4 hm4 HP.out;obtain⟨c0,c1,_,_⟩:=hm4.cells;have hlt:=hm4.lt;have HR4:=aa (HR3b.out.trans hr4);have HM4:=aa hm4;have HD4:=aa hd4;have HEQ:Hid (Value.int .i64 ((k4:Int)+1)=Value.int .i64 ((k4+1:Nat):Int)):=by show _=_;simp
   clear hr4 hm4 hd4
   go_wp2_with fail
   go_quiet (fail)
   have hm5:=HM4.out.below (ay (ae w4.heap.size w4) nq);have HR5:=aa (HR4.out.trans (dA.of HM4.out (ay (ae w4.heap.size w4) nq)));obtain⟨d0,d1,_,_⟩:=hm5.cells;have hf1:=hm5.frozen 1;have hlt5:=hm5.lt;have HM5:=aa hm5;clear hm5 c0 c1 hlt d0;generalize w4.drewN nq=w5 at *
   go_wp2_with fail
   rw[HEQ.out];have hm6:=HM5.out.go hk4;rw[HD4.out]at hm6;refine(HU.out _ _ hm6).mono ?_;rintro e w6⟨rfl,hr6⟩;have hg:=dA.go HM5.out hk4;rw[HD4.out]at hg;have HR6:=aa (HR5.out.trans (hg.trans hr6));clear hr6 hm6 hg;go_wp2;go_ret;exact⟨rfl,HR6.out⟩
  |none =>
   rw[ek hp2]at HS2;have hF:dq s=([],s3.fail):=by rw[hQ,hp];dsimp only;rw[hp2]
   rw[hF];clear hp hp2 hF hQ;go_enter Tryz.func100,Tryz.ntmps100
   go_wp2_with fail
   refine HB1.out.mono ?_;rintro e w1⟨rfl,hr1⟩;obtain⟨k1,hm1⟩:=hr1.at';have HR1:=aa hr1;have HM1:=aa hm1;clear hr1 hm1
   go_wp2_with fail
   refine(HT.out w1 k1 HM1.out).mono ?_;rintro e w2⟨rfl,hr2⟩;obtain⟨k2,hm2⟩:=hr2.at';have HR2:=aa (HR1.out.trans hr2);have HM2:=aa hm2;clear hr2 hm2
   go_wp2_with fail
   refine(HB2.out w2 k2 HM2.out).mono ?_;rintro e w3⟨rfl,hr3⟩;obtain⟨k3,hm3⟩:=hr3.at';have HR3:=aa (HR2.out.trans hr3);have HM3:=aa hm3;clear hr3 hm3
   go_wp2_with fail
   refine(HS1.out w3 k3 HM3.out).mono ?_;rintro e w3b⟨rfl,hr3b⟩;obtain⟨k3b,hm3b⟩:=hr3b.at';have HR3b:=aa (HR3.out.trans hr3b);have HM3b:=aa hm3b;clear hr3b hm3b
   go_wp2_with fail
   refine(HS2.out w3b k3b HM3b.out).mono ?_;rintro e w4⟨rfl,hr4⟩;obtain⟨k4,hm4⟩:=hr4.at';obtain⟨_,_,_,c3⟩:=hm4.cells;have hf3:=hm4.frozen 3;have hlt:=hm4.lt;have HR4:=aa (HR3b.out.trans hr4);have HM4:=aa hm4;clear hr4 hm4;go_wp2;go_ret;exact⟨rfl,HR4.out.trans (dA.mark HM4.out true)⟩
structure eF(w:World)(B rb:Nat)(S:ByteArray)(s:Rf)(vn:Value)(ys:List Ny):Prop where
 lo:B<=rb
 rc:∃k,eR w rb S vn s k
 ns:ys.map (·.x)=s.ns
 rn:w.ownsRow B 42 8 vn ys.length (ys.flatMap gS)
 ry:∀y∈ys,qL w B y
theorem eF.len{w:World}{B rb:Nat}{S:ByteArray}{s:Rf}{vn:Value}{ys:List Ny}(h:eF w B rb S s vn ys):ys.length=s.ns.length:=by rw[<-h.ns,bN]
theorem eF.lt{w:World}{B rb:Nat}{S:ByteArray}{s:Rf}{vn:Value}{ys:List Ny}(h:eF w B rb S s vn ys):rb<w.heap.size:=by obtain⟨k,hk⟩:=h.rc;exact hk.lt
theorem eF.rst{w w':World}{B rb:Nat}{S:ByteArray}{s s':Rf}{vn:Value}{ys:List Ny}(h:eF w B rb S s vn ys)(hr:dA rb S vn s' w w')(hn:s'.ns=s.ns):eF w' B rb S s' vn ys:=by
 obtain⟨k,hk⟩:=h.rc;have hoth:∀(b:Nat) (e:TypeId) (cs:Array Value),e≠64->w.heap[b]? = some (.cells cs e (0,0))->w'.heap[b]? = w.heap[b]?:=fun b e cs he hb=>hr.other b (au hb) (br hb hk.box he);exact⟨h.lo,hr.at',h.ns.trans hn.symm,aR h.rn (fun b _ ⟨cs,hb⟩=>hoth b _ cs (by decide) hb),fun y hy=>⟨aR (h.ry y hy).1 (fun b _ ⟨cs,hb⟩=>hoth b _ cs (by decide) hb),aR (h.ry y hy).2 (fun b _ ⟨cs,hb⟩=>hoth b _ cs (by decide) hb)⟩⟩
theorem eF.below{w w':World}{B rb:Nat}{S:ByteArray}{s:Rf}{vn:Value}{ys:List Ny}(h:eF w B rb S s vn ys)(hb:Below w.heap.size w w'):eF w' B rb S s vn ys:=by
 obtain⟨k,hk⟩:=h.rc;exact h.rst (dA.of hk hb) rfl
theorem dQ{w:World}{B e s n z:Nat}{v:Value}{xs:List Value}{cs:Array Value}{t:TypeId}(h:w.ownsRow B e s v n xs)(hb:w.heap[z]? = some (.cells cs t (0,0)))(he:e≠t):v.ownBlock≠some z:=fun e1=>by
 obtain⟨_,⟨e2,_⟩|⟨g,cap,cur,e2,_,hh,_⟩⟩:=h
 ·rw[e2]at e1;simp[Value.ownBlock]at e1
 ·rw[e2]at e1
  simp only[Value.ownBlock,al]at e1;rw[e1,hb]at hh;simp only[al,Obj.cells.injEq]at hh;exact he hh.2.1.symm
theorem eF.laid{w w1:World}{B rb:Nat}{S:ByteArray}{s:Rf}{vn v1:Value}{ys:List Ny}{y:Ny}(h:eF w B rb S s vn ys)(hoth:∀b,b<w.heap.size->vn.ownBlock≠some b->w1.heap[b]? = w.heap[b]?)(hown:w1.ownsRow B 42 8 v1 (ys.length+1) ((ys++[y]).flatMap gS))(hy:qL w B y) :
 eF (w1.setCell ⟨rb,2,none⟩ v1) B rb S (s.add y.x) v1 (ys++[y]):=by
 obtain⟨k,hk⟩:=h.rc;have hrb:w1.heap[rb]? = w.heap[rb]?:=hoth rb hk.lt (dQ h.rn hk.box (by decide))
 have hset:∀(b:Nat) (e:TypeId) (cs:Array Value),e≠64->w1.heap[b]? = some (.cells cs e (0,0))->(w1.setCell ⟨rb,2,none⟩ v1).heap[b]? = w1.heap[b]?:=fun b e cs he hb=>ao _ _ _ _ (br hb (hrb.trans hk.box) he)
 have keep:∀{e s n:Nat} {v:Value} {xs:List Value},e≠42->e≠64->w.ownsRow B e s v n xs->(w1.setCell ⟨rb,2,none⟩ v1).ownsRow B e s v n xs:=fun {e s n v xs} he he2 ho=>by
  have h1:w1.ownsRow B e s v n xs:=aR ho (fun b hb ⟨cs,hc⟩=>hoth b (au hc) (dQ h.rn hc (Ne.symm he)));exact aR h1 (fun b hb ⟨cs,hc⟩=>hset b e cs he2 hc)
 refine⟨h.lo,⟨k,hk.le,hk.rest,by rw[aL (hrb.trans hk.box)];rfl⟩,by rw[List.map_append,h.ns];rfl,?_,fun z hz => ?_⟩
 ·rw[aj,aB]
  exact aR hown (fun b _ ⟨cs,hc⟩=>hset b _ cs (by decide) hc)
 ·rcases bS.1 hz with hz|hz
  ·exact⟨keep (by decide) (by decide) (h.ry z hz).1,keep (by decide) (by decide) (h.ry z hz).2⟩
  ·rw[aW.1 hz]
   exact⟨keep (by decide) (by decide) hy.1,keep (by decide) (by decide) hy.2⟩
theorem Hg{w:World}{ops:Array Oper}{rest:List Oper}{o:Oper}{a:Act}{Q:Exit->Act->World->Prop}(hgd:o.guard=none)(s x:Operand)(ho:o.op=.call { callee:=.builtin .append,args:=#[s,x],argTypes:=#[28,28] })
 (B:Nat) (v:Value) (l:List Ny) (hs:a.eval s=v) (hown:w.ownsRow B 42 8 v l.length (l.flatMap gS)) (g:Nat) (y:Ny) (hx:a.eval x=.slice (some ⟨g,0,none⟩) 1 1) (hcell:w.heap[g]? = some (.cells #[.int .i64 y.x.k,.int .i64 y.x.n,.string y.x.p,.string y.x.l,.string y.x.u,.string y.x.t,y.d,y.a] 42 (0,0))) (hd:y.d.oneCell'=true) (ha:y.a.oneCell'=true) (hn:l.length<=1000000) (hB:B<=w.heap.size)
 (h:∀v' w',w'.ownsRow B 42 8 v' (l.length+1) ((l++[y]).flatMap gS)->w.grownBy w' v.ownBlock->(v'.ownBlock=v.ownBlock∨v'.ownBlock=some w.heap.size)->wpList Tryz.prog ops Q rest (a.put o.dst v') w'):wpList Tryz.prog ops Q (o::rest) a w:=by
 refine wpList_plain hgd fun _ hK => ?_;obtain⟨i0,hi0,hz0,hz1,hz2⟩:=info_parts ja
 obtain⟨v',w',hr,h2,h3,_,h5⟩:=run_append_own_at (P:=Tryz.prog) w B 28 o.type 42 i0 _ 8 _ Tryz.underlying28 hi0 hz0 hz1 hz2 rfl (by omega) v l.length _ hown ⟨g,0,none⟩ 1 1 (gS y) rfl (World.news_of_block hcell) (fun u hu=>by
  unfold gS FW at hu;simp only[aU,bE,or_false]at hu;rcases hu with rfl|rfl|rfl|rfl|rfl|rfl|rfl|rfl<;>first|rfl|exact hd|exact ha) (by unfold maxLen;omega) (by omega) hB
 unfold Oper.wp execOp;simp only[ho,resolve,invoke,builtin,Sem.run_bind,Sem.run_pure,Result.andThen_ok,List.map_toArray,List.map_cons,List.map_nil,hs,hx,hr];refine hK _ _ (h v' w' ?_ h3 h5);rw[ch];have e:[y].flatMap gS=gS y:=by simp
 rw[e];exact h2
def eP(B rb:Nat)(S:ByteArray)(s':Rf)(vn:Value)(w w':World):Prop:=(∃vn' ys',eF w' B rb S s' vn' ys'/\du rb vn vn' w w')/\Below B w w'
theorem yD:(Value.slice none 0 0).oneCell'=true:=rfl
theorem eF.grown{w w1:World}{B rb:Nat}{S:ByteArray}{s:Rf}{vn v1:Value}{ys:List Ny}{y:Ny}{ob:Obj}(h:eF w B rb S s vn ys)(hg:(w.alloc ob).grownBy w1 vn.ownBlock)(hat:v1.ownBlock=vn.ownBlock∨v1.ownBlock=some (w.alloc ob).heap.size)(hown:w1.ownsRow B 42 8 v1 (ys.length+1) ((ys++[y]).flatMap gS))(hy:qL w B y)(hBs:B<=w.heap.size) :
 eF (w1.setCell ⟨rb,2,none⟩ v1) B rb S (s.add y.x) v1 (ys++[y])/\du rb vn v1 w (w1.setCell ⟨rb,2,none⟩ v1)/\Below B w (w1.setCell ⟨rb,2,none⟩ v1):=by
 have hkp:∀b,b<w.heap.size->vn.ownBlock≠some b->w1.heap[b]? = w.heap[b]?:=fun b hb hne=>by
  rw[hg.block b (by simp;omega) (fun e=>hne e.symm)]
  exact((ae w.heap.size w).alloc (af _) ob).block b hb
 refine⟨h.laid hkp hown hy,⟨fun b hb hbr hbn => ?_,fun b hb => ?_,?_⟩,?_⟩
 ·rw[ao _ _ _ _ hbr]
  exact hkp b hb hbn
 ·rcases hat with h1|h1
  ·exact .inl (h1 ▸ hb)
  ·rw[h1]at hb
   simp only[al]at hb;exact .inr (by rw[<-hb];simp)
 ·have:=hg.size
  simp[World.setCell]at this ⊢;omega
 ·exact(((ae B w).alloc hBs _).grown hg (by simp;omega) (fun k hk=>(h.rn.lt k hk).1)).setCell (p:=⟨rb,2,none⟩) h.lo _
theorem yy(S:ByteArray)(B rb:Nat)(s:Rf)(vn:Value)(ys:List Ny)(n:Int)(t:List UInt8)(w:World)(h:eF w B rb S s vn ys)(hys:ys.length<=900000) :
 Calls Tryz.prog 105 #[.pointer (some ⟨rb,0,none⟩),.int .i64 n,.string (ba t)] w fun e w'=>e=.returned (.tuple #[])/\eP B rb S (cP n t s) vn w w':=by
 have hrl:=h.lt;have hBs:B<=w.heap.size:=ag h.lo (be hrl);obtain⟨k,hk⟩:=h.rc;obtain⟨c0,c1,c2,c3⟩:=hk.cells;have hf2:=hk.frozen 2;have H:=aa h;by_cases ht:t=[]
 ·subst ht
  have hT:((⟨#[]⟩ : ByteArray).toList == [])=true:=by rw[aq];rfl
  have e:cP n [] s=s:=by unfold cP;rw[av rfl]
  rw[e,show ba []=⟨#[]⟩from rfl];clear h hk e;go_enter Tryz.func105,Tryz.ntmps105;go_wp2
  go_end0
  exact⟨rfl,⟨vn,ys,H.out,du.of_below (ae _ _)⟩,ae _ _⟩
 ·have hT:((ba t).toList == [])=false:=by rw[aq,bp,ak];exact ht
  have hT2:(ba t).toList.isEmpty=false:=by rw[aq,bp];cases t with|nil=>exact absurd rfl ht|cons c z=>rfl
  have e:cP n t s=s.add ⟨2,n,⟨#[]⟩,⟨#[]⟩,⟨#[]⟩,ba t,[],[]⟩:=by unfold cP;rw[am ht]
  rw[e];generalize ba t=Z at *;obtain⟨An,cn,rfl,hcn,hcn2⟩:=aP h.rn;clear h hk ht e;go_enter Tryz.func105,Tryz.ntmps105
  go_wp2_with (first
   |(at_builtin;refine Hg rfl (.tmp 12) (.tmp 16) rfl B (.slice An ys.length cn) ys rfl (H.out.rn.alloc _) w.heap.size ⟨⟨2,n,⟨#[]⟩,⟨#[]⟩,⟨#[]⟩,Z,[],[]⟩,.slice none 0 0,.slice none 0 0⟩ rfl (ar w _) yD yD (by omega) (by simp;omega) ?_;intro v1 wa hown hgrow hat;obtain⟨g1,g2,g3⟩:=H.out.grown hgrow hat hown ⟨aQ _ _ _ _,aQ _ _ _ _⟩ hBs;have hka:=(hgrow.block rb (by simp;omega) (fun e=>dQ H.out.rn (show w.heap[rb]? = _ from(show _ from H.out.rc.choose_spec.box)) (by decide) e.symm)).trans ((((ae w.heap.size w).alloc (af _) _).block rb hrl).trans H.out.rc.choose_spec.box);have kc:wa.cell? ⟨rb,2,none⟩=some (.slice An ys.length cn):=(by rw[ai wa rb 2 _ _ _ hka];rfl);have kf:wa.frozen? ⟨rb,2,none⟩=false:=(by unfold World.frozen?;rw[hka];simp);have HG:=aa (bM g1 (bM g2 g3));obtain⟨A1,c1',rfl,_,_⟩:=aP hown;clear hka hown hgrow hat g1 g2 g3)
   |fail)
  go_end0
  exact⟨rfl,⟨_,_,HG.out.1,HG.out.2.1⟩,HG.out.2.2⟩
theorem dX(p:List UInt8)(s:Rf):(bI p s).ns=s.ns:=by unfold bI;split<;>rfl
theorem iO(p:List UInt8)(s:Rf):(cR p s).2.ns=s.ns:=by unfold cR;split<;>rfl
theorem xx(s:Rf):(dR s).ns=s.ns:=rfl
theorem nn(s:Rf):(cQ s).2.ns=s.ns:=by unfold cQ;split<;>rfl
theorem sK(s:Rf):(dq s).2.ns=s.ns:=by
 unfold dq
 split
 ·rw[iO];exact dX _ _
 ·split
  ·rw[iO];exact dX _ _
  ·exact dX _ _
theorem xd(key:List UInt8)(s:Rf):(ea key s).2.ns=s.ns:=by
 unfold ea
 split
 ·rfl
 ·rw[sK,dX];rfl
theorem mF(S:ByteArray)(B rb:Nat)(s:Rf)(vn:Value)(ys:List Ny)(n:Int)(w:World)(h:eF w B rb S s vn ys)(hS:S.size<=1000000)(hys:ys.length<=900000) :
 Calls Tryz.prog 63 #[.pointer (some ⟨rb,0,none⟩),.int .i64 n] w fun e w'=>e=.returned (.tuple #[])/\eP B rb S (fM n s) vn w w':=by
 have hrl:=h.lt;have hBs:B<=w.heap.size:=ag h.lo (be hrl);obtain⟨k,hk⟩:=h.rc;have HTK:Hid (Calls Tryz.prog 59 #[.pointer (some ⟨rb,0,none⟩),.string ⟨#[60,33,45,45]⟩] w fun e w'=>e=.returned (.tuple #[])/\dA rb S vn (bI [60,33,45,45] s) w w'):=eT S ⟨#[60,33,45,45]⟩ rb vn s k w hk hS (by decide)
 have HLO:=aa h.lo;have H:=aa h;have hn1:=dX [60,33,45,45] s;have hcr:fM n s=(cR [45,45,62] (bI [60,33,45,45] s)).2.add ⟨3,n,⟨#[]⟩,⟨#[]⟩,⟨#[]⟩,ba (cR [45,45,62] (bI [60,33,45,45] s)).1,[],[]⟩:=rfl;rw[hcr];have hn2:=iO [45,45,62] (bI [60,33,45,45] s);generalize bI [60,33,45,45] s=s1 at *;have HUN:Hid (∀w' k',eR w' rb S vn s1 k'->Calls Tryz.prog 101 #[.pointer (some ⟨rb,0,none⟩),.string ⟨#[45,45,62]⟩] w' fun e w''=>e=.returned (.string (ba (cR [45,45,62] s1).1))/\dA rb S vn (cR [45,45,62] s1).2 w' w''):=fun w' k' hm=>iY S ⟨#[45,45,62]⟩ 45 [45,62] rfl rb vn s1 k' w' hm hS (by decide)
 generalize (cR [45,45,62] s1).2=s2 at *;generalize ba (cR [45,45,62] s1).1=Z at *;have HN1:=aa hn1;have HN2:=aa hn2;obtain⟨An,cn,rfl,hcn,hcn2⟩:=aP h.rn;obtain⟨i0,hi0,hz0,hz1,hz2⟩:=info_parts ja;obtain⟨yn,hyn⟩ : ∃yn:Ny,yn=⟨⟨3,n,⟨#[]⟩,⟨#[]⟩,⟨#[]⟩,Z,[],[]⟩,.slice none 0 0,.slice none 0 0⟩:=⟨_,rfl⟩;have HYN:=aa hyn
 have HNC:Hid ([yn].flatMap gS=[.int .i64 3,.int .i64 n,.string ⟨#[]⟩,.string ⟨#[]⟩,.string ⟨#[]⟩,.string Z,.slice none 0 0,.slice none 0 0]):=by
  show _=_
  rw[hyn];rfl
 have HC1:Hid (∀W:World,∀j u,([yn].flatMap gS)[j]? = some u->(W.alloc (Obj.cells #[.int .i64 3,.int .i64 n,.string ⟨#[]⟩,.string ⟨#[]⟩,.string ⟨#[]⟩,.string Z,.slice none 0 0,.slice none 0 0] 42)).cell? ((⟨W.heap.size,0,none⟩ : Addr).add j)=some u):=fun W j u hu=>by
  rw[HNC.out]at hu;exact World.news_of_block (ar W (Obj.cells #[.int .i64 3,.int .i64 n,.string ⟨#[]⟩,.string ⟨#[]⟩,.string ⟨#[]⟩,.string Z,.slice none 0 0,.slice none 0 0] 42)) j u hu
 have HO1:Hid (∀u∈[yn].flatMap gS,u.oneCell'=true):=fun u hu=>by
  rw[HNC.out]at hu;simp only[aU,bE,or_false]at hu;rcases hu with rfl|rfl|rfl|rfl|rfl|rfl|rfl|rfl<;>rfl
 clear h hk hcr hn1 hn2 hyn;go_enter Tryz.func63,Tryz.ntmps63
 go_wp2_with fail
 refine HTK.out.mono ?_;rintro e w1⟨rfl,hr1⟩;have h1:eF w1 B rb S s1 (.slice An ys.length cn) ys:=H.out.rst hr1 HN1.out;have hB1:=hr1.below HLO.out hBs;have hel1:du rb (.slice An ys.length cn) (.slice An ys.length cn) w w1:=⟨fun b hb hbr _=>hr1.other b hb hbr,fun b hb => .inl hb,hr1.size⟩;have hs1:=hr1.size;obtain⟨k1,hm1⟩:=h1.rc;have hU:=HUN.out w1.drew k1 (hm1.below ((ae w1.heap.size w1).drew));obtain⟨c0,c1,c2,c3⟩:=hm1.cells;have hf2:=hm1.frozen 2;have hlt1:=hm1.lt;have HU:=aa hU;have H1:=aa (h1.below ((ae w1.heap.size w1).drew));have HB1:=aa hB1;have HG1:=aa hel1;clear hr1 h1 hB1 hel1 hm1 hU c0 c1 c3
 go_upto_region 1 with fail
 go_region_law (first
  |(go_simp;go_at_call 101;refine HU.out.mono ?_;rintro e w2 ⟨rfl,hr2⟩;have h2:=H1.out.rst hr2 HN2.out;have hsz2:w1.heap.size<=w2.heap.size:=hr2.size;have q2:=h2.rc.choose_spec.cells.2.2.1;have qf:=h2.rc.choose_spec.frozen 2;have ql:=h2.lt;have H2:=aa h2;have HB2:=aa ((HB1.out.trans ((ae B w1).drew)).trans (hr2.below HLO.out (by have:=HB1.out.size;show B<=w1.heap.size;omega)));have HG2:=aa (HG1.out.trans ⟨fun b hb hbr _=>hr2.other b hb hbr,fun b hb => .inl hb,hr2.size⟩);clear hr2 h2;dsimp only)
  |(refine eO (P:=Tryz.prog) rfl (.tmp 10) (.tmp 15) 28 rfl B 42 i0 _ 8 _ Tryz.underlying28 hi0 hz0 hz1 hz2 rfl (by omega) (.slice An ys.length cn) ys.length (ys.flatMap gS) rfl (H2.out.rn.alloc _) 1 (.slice (some ⟨w2.heap.size,0,none⟩) 1 1) rfl ([yn].flatMap gS) (.inr ⟨_,1,rfl,HC1.out w2⟩) rfl HO1.out (by unfold maxLen;omega) (by omega) (by simp;omega) ?_;intro v1 wa hown hgrow hat;rw[<-ch]at hown;obtain⟨g1,g2,g3⟩:=H2.out.grown hgrow hat hown (HYN.out ▸ ⟨aQ _ _ _ _,aQ _ _ _ _⟩) (by omega);have hka:=(hgrow.block rb (by simp;omega) (fun e=>dQ H2.out.rn H2.out.rc.choose_spec.box (by decide) e.symm)).trans ((((ae w2.heap.size w2).alloc (af _) _).block rb H2.out.lt).trans H2.out.rc.choose_spec.box);have kc:wa.cell? ⟨rb,2,none⟩=some (.slice An ys.length cn):=(by rw[ai wa rb 2 _ _ _ hka];rfl);have kf:wa.frozen? ⟨rb,2,none⟩=false:=(by unfold World.frozen?;rw[hka];simp);have HG:=aa (bM g1 (bM g2 g3));obtain⟨A1,c1',rfl,_,_⟩:=aP hown;clear hka hown hgrow hat g1 g2 g3))
 all_goals
  have HEND:Hid (eP B rb S (s2.add ⟨3,n,⟨#[]⟩,⟨#[]⟩,⟨#[]⟩,Z,[],[]⟩) (.slice An ys.length cn) w (wa.setCell ⟨rb,2,none⟩ (.slice A1 (ys.length+1) c1'))):=by
   obtain⟨g1,g2,g3⟩:=HG.out;rw[HYN.out]at g1;exact⟨⟨_,_,g1,HG2.out.trans g2⟩,HB2.out.trans g3⟩
  clear HG kc kf
  go_end0
  exact⟨rfl,HEND.out⟩
end Go.Proofs.YteinegfbpfhflaaGreatDoor
