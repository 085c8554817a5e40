/-
  What mark stands on: an element's own rows grow. Conditions: none.
  parse.reader: mark, by what its calls answer. Conditions: the reader and the element lie as they are; nothing is too long; the tables lie as they are laid.
-/
import Derived.Test.YtlgcigmolfhamaaGreatDoorK23
import Derived.Test.YtlgcigmolfhamaaGreatDoorK27
namespace Go.Proofs.YtlgcigmolfhamaaGreatDoor
open Go.RowKit
set_option linter.unusedVariables false
set_option maxRecDepth 100000
set_option maxHeartbeats 16000000
theorem a6F{v v':Value}(h:v.ownBlock=none∨v.ownBlock≠v'.ownBlock):v'.ownBlock=none∨v'.ownBlock≠v.ownBlock:=by
 rcases h with h|h
 ·cases hv:v'.ownBlock with
  |none=>exact .inl rfl
  |some b=>exact .inr (by rw[h];simp)
 ·exact .inr (fun e=>h e.symm)
theorem a9i{w w1:World}{B rb:Nat}{st:Rd}{vn vo vd vt vD vA v1:Value}{ys:List Ny}{ds:List Dc}{as':List At}{d:Dc}(h:S7 w B rb st vn vo vd vt ys)(hx:a0X w B ys vd vD vA ds as')(hs:w.heap.size<=w1.heap.size)(D0:∀b,b<w.heap.size->vD.ownBlock≠some b->w1.heap[b]? = w.heap[b]?)(D3:v1.ownBlock=vD.ownBlock∨∀b,v1.ownBlock=some b->w.heap.size<=b)(D1:w1.ownsRow B 34 2 v1 (ds.length+1) ((ds++[d]).flatMap C1)) :
 S7 w1 B rb st vn vo vd vt ys/\a0X w1 B ys vd v1 vA (ds++[d]) as':=by
 have D2:∀{e s n:Nat} {v:Value} {xs:List Value},w.ownsRow B e s v n xs->(vD.ownBlock=none∨vD.ownBlock≠v.ownBlock)->v1.ownBlock=none∨v1.ownBlock≠v.ownBlock:=fun {e s n v xs} ho D9=>by
  rcases D3 with h1|h1
  ·rw[h1];exact D9
  ·cases hv:v1.ownBlock with
   |none=>exact .inl rfl
   |some b =>
    refine .inr (fun e0 => ?_);have:=h1 b hv;have:=(ho.lt b e0.symm).2;omega
 refine⟨⟨h.lo,(D0 rb (i3 h.box) (a3I hx.rD h.box (by decide))).trans h.box,h.ns,J1 D0 hx.rD (.inl (by decide)) h.rn,J1 D0 hx.rD (.inl (by decide)) h.ro,J1 D0 hx.rD (.inr (a6F hx.dd)) h.rd,J1 D0 hx.rD (.inl (by decide)) h.rt,fun y hy=>⟨J1 D0 hx.rD (.inr (hx.yd y hy)) (h.ry y hy).1,J1 D0 hx.rD (.inl (by decide)) (h.ry y hy).2⟩,h.di⟩,⟨?_,J1 D0 hx.rD (.inl (by decide)) hx.rA,D2 h.rd hx.dd,fun y hy=>a6F (D2 (h.ry y hy).1 (a6F (hx.yd y hy))),hx.ya⟩⟩
 rw[e8,j0];exact D1
theorem a9j{w w1:World}{B rb:Nat}{st:Rd}{vn vo vd vt vD vA v1:Value}{ys:List Ny}{ds:List Dc}{as':List At}{a:At}(h:S7 w B rb st vn vo vd vt ys)(hx:a0X w B ys vd vD vA ds as')(hs:w.heap.size<=w1.heap.size)(D0:∀b,b<w.heap.size->vA.ownBlock≠some b->w1.heap[b]? = w.heap[b]?)(D2:v1.ownBlock=vA.ownBlock∨∀b,v1.ownBlock=some b->w.heap.size<=b)(D1:w1.ownsRow B 103 4 v1 (as'.length+1) ((as'++[a]).flatMap atC)) :
 S7 w1 B rb st vn vo vd vt ys/\a0X w1 B ys vd vD v1 ds (as'++[a]):=by
 have D3:∀{e s n:Nat} {v:Value} {xs:List Value},w.ownsRow B e s v n xs->(vA.ownBlock=none∨vA.ownBlock≠v.ownBlock)->v1.ownBlock=none∨v1.ownBlock≠v.ownBlock:=fun {e s n v xs} ho D9=>by
  rcases D2 with h1|h1
  ·rw[h1];exact D9
  ·cases hv:v1.ownBlock with
   |none=>exact .inl rfl
   |some b =>
    refine .inr (fun e0 => ?_);have:=h1 b hv;have:=(ho.lt b e0.symm).2;omega
 refine⟨⟨h.lo,(D0 rb (i3 h.box) (a3I hx.rA h.box (by decide))).trans h.box,h.ns,J1 D0 hx.rA (.inl (by decide)) h.rn,J1 D0 hx.rA (.inl (by decide)) h.ro,J1 D0 hx.rA (.inl (by decide)) h.rd,J1 D0 hx.rA (.inl (by decide)) h.rt,fun y hy=>⟨J1 D0 hx.rA (.inl (by decide)) (h.ry y hy).1,J1 D0 hx.rA (.inr (hx.ya y hy)) (h.ry y hy).2⟩,h.di⟩,⟨J1 D0 hx.rA (.inl (by decide)) hx.rD,?_,hx.dd,hx.yd,fun y hy=>a6F (D3 (h.ry y hy).2 (a6F (hx.ya y hy)))⟩⟩
 rw[e8,j0];exact D1
theorem a2U{w:World}{ops:Array Oper}{rest:List Oper}{o:Oper}{a:Act}{Q:Exit->Act->World->Prop}(D2:o.guard=none)(s x:Operand)(ho:o.op=.call { callee:=.builtin .append,args:=#[s,x],argTypes:=#[31,31] })
 (B:Nat) (v:Value) (l:List Dc) (hs:a.eval s=v) (D1:w.ownsRow B 34 2 v l.length (l.flatMap C1)) (g:Nat) (p:Dc) (hx:a.eval x=.slice (some ⟨g,0,none⟩) 1 1) (D0:w.heap[g]? = some (.cells #[.string p.p,.string p.u] 34 (0,0))) (hn:l.length<=1000000) (hB:B<=w.heap.size)
 (h:∀v' w',w'.ownsRow B 34 2 v' (l.length+1) ((l++[p]).flatMap C1)->w.grownBy w' v.ownBlock->(v'.ownBlock=v.ownBlock∨v'.ownBlock=some w.heap.size)->wpList Tryz.prog ops Q rest (a.put o.dst v') w'):wpList Tryz.prog ops Q (o::rest) a w:=by
 refine wpList_plain D2 fun _ hK => ?_;obtain⟨i0,D3,D9,E0,E1⟩:=info_parts a0W
 obtain⟨v',w',hr,h2,h3,_,h5⟩:=run_append_own_at (P:=Tryz.prog) w B 31 o.type 34 i0 _ 2 _ Tryz.underlying31 D3 D9 E0 E1 rfl (by omega) v l.length _ D1 ⟨g,0,none⟩ 1 1 (C1 p) rfl (World.news_of_block D0) (fun u hu=>by
  unfold C1 at hu;simp only[q8,C5,or_false]at hu;rcases hu with rfl|rfl<;>rfl) (by unfold maxLen;omega) (by omega) hB
 unfold Oper.wp execOp;simp only[ho,resolve,invoke,builtin,Sem.run_bind,Sem.run_pure,Result.andThen_ok,List.map_toArray,List.map_cons,List.map_nil,hs,hx,hr];refine hK _ _ (h v' w' ?_ h3 h5);rw[D8];have e:[p].flatMap C1=C1 p:=by simp
 rw[e];exact h2
theorem a2V{w:World}{ops:Array Oper}{rest:List Oper}{o:Oper}{a:Act}{Q:Exit->Act->World->Prop}(D2:o.guard=none)(s x:Operand)(ho:o.op=.call { callee:=.builtin .append,args:=#[s,x],argTypes:=#[44,44] })
 (B:Nat) (v:Value) (l:List At) (hs:a.eval s=v) (D1:w.ownsRow B 103 4 v l.length (l.flatMap atC)) (g:Nat) (p:At) (hx:a.eval x=.slice (some ⟨g,0,none⟩) 1 1) (D0:w.heap[g]? = some (.cells #[.string p.p,.string p.l,.string p.u,.string p.v] 103 (0,0))) (hn:l.length<=1000000) (hB:B<=w.heap.size)
 (h:∀v' w',w'.ownsRow B 103 4 v' (l.length+1) ((l++[p]).flatMap atC)->w.grownBy w' v.ownBlock->(v'.ownBlock=v.ownBlock∨v'.ownBlock=some w.heap.size)->wpList Tryz.prog ops Q rest (a.put o.dst v') w'):wpList Tryz.prog ops Q (o::rest) a w:=by
 refine wpList_plain D2 fun _ hK => ?_;obtain⟨i0,D3,D9,E0,E1⟩:=info_parts a2u
 obtain⟨v',w',hr,h2,h3,_,h5⟩:=run_append_own_at (P:=Tryz.prog) w B 44 o.type 103 i0 _ 4 _ Tryz.underlying44 D3 D9 E0 E1 rfl (by omega) v l.length _ D1 ⟨g,0,none⟩ 1 1 (atC p) rfl (World.news_of_block D0) (fun u hu=>by
  unfold atC at hu;simp only[q8,C5,or_false]at hu;rcases hu with rfl|rfl|rfl|rfl<;>rfl) (by unfold maxLen;omega) (by omega) hB
 unfold Oper.wp execOp;simp only[ho,resolve,invoke,builtin,Sem.run_bind,Sem.run_pure,Result.andThen_ok,List.map_toArray,List.map_cons,List.map_nil,hs,hx,hr];refine hK _ _ (h v' w' ?_ h3 h5);rw[D8];have e:[p].flatMap atC=atC p:=by simp
 rw[e];exact h2
def T8(B rb xb:Nat)(st:Rd)(vn vo vd vt:Value)(ys:List Ny)(x:Nd)(r:List UInt8)(ds:List Dc)(as':List At)(w w':World):Prop :=
 S7 w' B rb { st with rest:=r } vn vo vd vt ys/\Below B w w'/\∃vD vA,w'.heap[xb]? = some (.cells #[.int .i64 x.k,.int .i64 x.n,.string x.p,.string x.l,.string x.u,.string x.t,vD,vA] 46 (0,0))/\a0X w' B ys vd vD vA ds as'
theorem b4J(w:World)(B rb xb:Nat)(st:Rd)(vn vo vd vt vD vA:Value)(ys:List Ny)(x:Nd)(P L Sq V:ByteArray)(found okv:Bool)(r1 r2 r3:List UInt8)(h:S7 w B rb st vn vo vd vt ys)(E7:w.heap[xb]? = some (.cells #[.int .i64 x.k,.int .i64 x.n,.string x.p,.string x.l,.string x.u,.string x.t,vD,vA] 46 (0,0)))(hx:a0X w B ys vd vD vA x.ds x.ats)(J6:B<=xb)(J7:vn.ownBlock≠some xb)(M2:x.ds.length<=100000)(M3:x.ats.length<=100000)(hB : 8<=B)(hW:Wd w)
 (L2:Hid (Calls Tryz.prog 157 #[.pointer (some ⟨rb,0,none⟩),.string ⟨#[32,9,10,61,47,62]⟩] w fun r w'=>r=.returned (.string Sq)/\N7 rb (ba r1) w w'))
 (L3:Hid (∀w',Wd w'->Calls Tryz.prog 160 #[.string Sq] w' fun e w''=>e=.returned (.tuple #[.string P,.string L,.bool true])/\Below w'.heap.size w' w''))
 (L4:Hid (∀w',n0 w' rb (ba r1)->Calls Tryz.prog 151 #[.pointer (some ⟨rb,0,none⟩)] w' fun e w''=>e=.returned (.bool true)/\N7 rb (ba r2) w' w''))
 (S2:ByteArray) (L5:Hid (∀w',n0 w' rb (ba r2)->I3 w'->Calls Tryz.prog 152 #[.pointer (some ⟨rb,0,none⟩)] w' fun e w''=>e=.returned (.tuple #[.string S2,.bool found])/\N7 rb (ba r3) w' w''))
 (L6:Hid (∀w',Wd w'->Calls Tryz.prog 201 #[.string S2] w' fun e w''=>e=.returned (.tuple #[.string V,.bool okv])/\Below w'.heap.size w' w''))
 (hP:P.data.toList=[]) (hL:L.data.toList=[120,109,108,110,115]) :
 Calls Tryz.prog 162 #[.pointer (some ⟨rb,0,none⟩),.pointer (some ⟨xb,0,none⟩)] w fun e w'=>e=.returned (.bool (found&&okv))/\T8 B rb xb st vn vo vd vt ys x r3 (x.ds++[⟨⟨#[]⟩,V⟩]) x.ats w w':=by
 have E6:B<=w.heap.size:=d8 h.lo (A6 (i3 h.box));obtain⟨Ad,cd,rfl,_,_⟩:=q9 hx.rD;obtain⟨Aa,ca,rfl,_,_⟩:=q9 hx.rA;have H:=a8 h;have HX:=a8 hx;have M4:=a8 E7;have HW:=a8 hW;have J8:=a8 J7;have L7:Hid (∀w1,(∀b,b<w.heap.size->b≠rb->w1.heap[b]? = w.heap[b]?)->a0X w1 B ys vd (.slice Ad x.ds.length cd) (.slice Aa x.ats.length ca) x.ds x.ats/\w1.heap[xb]? = some (.cells #[.int .i64 x.k,.int .i64 x.n,.string x.p,.string x.l,.string x.u,.string x.t,.slice Ad x.ds.length cd,.slice Aa x.ats.length ca] 46 (0,0))):=fun w1 hk=>⟨⟨r6 hx.rD (fun b _ ⟨cs,hc⟩=>hk b (i3 hc) (B7 hc h.box (by decide))),r6 hx.rA (fun b _ ⟨cs,hc⟩=>hk b (i3 hc) (B7 hc h.box (by decide))),hx.dd,hx.yd,hx.ya⟩,(hk xb (i3 E7) (B7 E7 h.box (by decide))).trans E7⟩
 have te:P.toList.isEmpty=true:=by rw[f9,hP];rfl
 have tl:(L.toList == [120,109,108,110,115])=true:=by rw[f9,hL];rfl
 clear hP hL;clear h hx E7 hW J7;go_enter Tryz.func162,Tryz.ntmps162
 go_wp2_with fail
 refine L2.out.mono ?_;rintro e w1⟨rfl,G4⟩;have H1:=a8 (H.out.cur G4);have G5:=a8 (G4.below H.out.lo E6);have L8:Hid (∀b,b<w.heap.size->b≠rb->w1.heap[b]? = w.heap[b]?):=G4.other;clear G4
 go_wp2_with fail
 refine(L3.out w1 (HW.out.low hB G5.out)).mono ?_;rintro e w2⟨rfl,G6⟩;have H2:=a8 (H1.out.below G6);have J3:=a8 (G5.out.trans (G6.mono (d8 E6 G5.out.size)));have L9:Hid (∀b,b<w.heap.size->b≠rb->w2.heap[b]? = w.heap[b]?):=fun b h1 h2=>(G6.block b (x9 h1 G5.out.size)).trans (L8.out b h1 h2);clear G6
 go_wp2_with fail
 refine(L4.out w2 H2.out.curAt).mono ?_;rintro e w3⟨rfl,G7⟩;have H3:=a8 (H2.out.cur G7);have G8:=a8 (J3.out.trans (G7.below H.out.lo (d8 E6 J3.out.size)));have M0:Hid (∀b,b<w.heap.size->b≠rb->w3.heap[b]? = w.heap[b]?):=fun b h1 h2=>(G7.other b (x9 h1 J3.out.size) h2).trans (L9.out b h1 h2);clear G7
 go_wp2_with fail
 refine(L5.out w3 H3.out.curAt (HW.out.low hB G8.out).max).mono ?_;rintro e w4⟨rfl,G9⟩;have H4:=a8 (H3.out.cur G9);have J1:=a8 (G8.out.trans (G9.below H.out.lo (d8 E6 G8.out.size)));have M1:Hid (∀b,b<w.heap.size->b≠rb->w4.heap[b]? = w.heap[b]?):=fun b h1 h2=>(G9.other b (x9 h1 G8.out.size) h2).trans (M0.out b h1 h2);clear G9
 go_wp2_with fail
 refine(L6.out w4 (HW.out.low hB J1.out)).mono ?_;rintro e w5⟨rfl,J2⟩;have H5:=a8 (H4.out.below J2);have J4:=a8 (J1.out.trans (J2.mono (d8 E6 J1.out.size)));have J9:∀b,b<w.heap.size->b≠rb->w5.heap[b]? = w.heap[b]?:=fun b h1 h2=>(J2.block b (x9 h1 J1.out.size)).trans (M1.out b h1 h2);obtain⟨L0,D9⟩:=L7.out w5 J9;have E3:=a8 L0;have D1:=a8 D9;have L1:B<=w5.heap.size:=d8 E6 J4.out.size;have k6:w5.cell? ⟨xb,6,none⟩=some (.slice Ad x.ds.length cd):=by rw[d9 w5 xb 6 _ _ _ D9];rfl
 have k7:w5.cell? ⟨xb,7,none⟩=some (.slice Aa x.ats.length ca):=by rw[d9 w5 xb 7 _ _ _ D9];rfl
 clear J2 J9 L0 D9;cases found with
 |false =>
  go_wp2_with (first
   |(at_builtin;refine a2U rfl (.tmp 65) (.tmp 68) rfl B (.slice Ad x.ds.length cd) x.ds rfl (E3.out.rD.alloc _) w5.heap.size ⟨⟨#[]⟩,V⟩ rfl (g9 w5 _) (by omega) (by simp;omega) ?_;intro v1 wa D3 D0 E8;have E0:=(D0.block xb (by have:=i3 D1.out;simp;omega) (fun e=>a2h E3.out.rD D1.out (by decide) e.symm)).trans ((((b8 w5.heap.size w5).alloc (c9 _) _).block xb (i3 D1.out)).trans D1.out);have kc:wa.cell? ⟨xb,6,none⟩=some (.slice Ad x.ds.length cd):=(by rw[d9 wa xb 6 _ _ _ E0];rfl);have kf:wa.frozen? ⟨xb,6,none⟩=false:=(by unfold World.frozen?;rw[E0];simp);have E1:=a8 E0;have G0:=a8 D3;have E2:=a8 D0;have G1:=a8 E8;obtain⟨A1,c1,rfl,_,_⟩:=q9 D3;clear E0 D3 D0 E8 k6 k7)
   |fail)
  have E4:Hid (T8 B rb xb st vn vo vd vt ys x r3 (x.ds++[⟨⟨#[]⟩,V⟩]) x.ats w (wa.setCell ⟨xb,6,none⟩ (.slice A1 (x.ds.length+1) c1))):=by
   have E5:∀b,b<w5.heap.size->((.slice Ad x.ds.length cd):Value).ownBlock≠some b->wa.heap[b]? = w5.heap[b]?:=fun b hb J5=>by
    rw[E2.out.block b (by simp;omega) (fun e=>J5 e.symm)]
    exact((b8 w5.heap.size w5).alloc (c9 _) _).block b hb
   have hs:w5.heap.size<=wa.heap.size:=by have:=E2.out.size;simp at this;omega
   obtain⟨g1,g2⟩:=a9i H5.out E3.out hs E5 (by
    rcases G1.out with h1|h1
    ·exact .inl h1
    ·exact .inr (fun b hb=>by
      rw[h1]at hb;simp only[f5]at hb;rw[<-hb];simp)) G0.out
   have D2:∀{e s n:Nat} {v:Value} {xs:List Value},e≠46->wa.ownsRow B e s v n xs->(wa.setCell ⟨xb,6,none⟩ (.slice A1 (x.ds.length+1) c1)).ownsRow B e s v n xs:=fun {e s n v xs} he hh=>r6 hh (fun b _ ⟨cs,hc⟩=>f7 _ _ _ _ (B7 hc E1.out he));refine⟨g1.setNode E1.out J8.out,((J4.out.alloc L1 _).grown E2.out (by simp;omega) (fun q hq=>(E3.out.rD.lt q hq).1)).setCell (p:=⟨xb,6,none⟩) J6 _,(.slice A1 (x.ds.length+1) c1),(.slice Aa x.ats.length ca),by rw[o8 E1.out];rfl,⟨D2 (by decide) g2.rD,D2 (by decide) g2.rA,g2.dd,g2.yd,g2.ya⟩⟩
  clear E1 G0 E2 G1 kc kf;go_ret;exact⟨rfl,E4.out⟩
 |true =>
  go_wp2_with (first
   |(at_builtin;refine a2U rfl (.tmp 65) (.tmp 68) rfl B (.slice Ad x.ds.length cd) x.ds rfl (E3.out.rD.alloc _) w5.heap.size ⟨⟨#[]⟩,V⟩ rfl (g9 w5 _) (by omega) (by simp;omega) ?_;intro v1 wa D3 D0 E8;have E0:=(D0.block xb (by have:=i3 D1.out;simp;omega) (fun e=>a2h E3.out.rD D1.out (by decide) e.symm)).trans ((((b8 w5.heap.size w5).alloc (c9 _) _).block xb (i3 D1.out)).trans D1.out);have kc:wa.cell? ⟨xb,6,none⟩=some (.slice Ad x.ds.length cd):=(by rw[d9 wa xb 6 _ _ _ E0];rfl);have kf:wa.frozen? ⟨xb,6,none⟩=false:=(by unfold World.frozen?;rw[E0];simp);have E1:=a8 E0;have G0:=a8 D3;have E2:=a8 D0;have G1:=a8 E8;obtain⟨A1,c1,rfl,_,_⟩:=q9 D3;clear E0 D3 D0 E8 k6 k7)
   |fail)
  have E4:Hid (T8 B rb xb st vn vo vd vt ys x r3 (x.ds++[⟨⟨#[]⟩,V⟩]) x.ats w (wa.setCell ⟨xb,6,none⟩ (.slice A1 (x.ds.length+1) c1))):=by
   have E5:∀b,b<w5.heap.size->((.slice Ad x.ds.length cd):Value).ownBlock≠some b->wa.heap[b]? = w5.heap[b]?:=fun b hb J5=>by
    rw[E2.out.block b (by simp;omega) (fun e=>J5 e.symm)]
    exact((b8 w5.heap.size w5).alloc (c9 _) _).block b hb
   have hs:w5.heap.size<=wa.heap.size:=by have:=E2.out.size;simp at this;omega
   obtain⟨g1,g2⟩:=a9i H5.out E3.out hs E5 (by
    rcases G1.out with h1|h1
    ·exact .inl h1
    ·exact .inr (fun b hb=>by
      rw[h1]at hb;simp only[f5]at hb;rw[<-hb];simp)) G0.out
   have D2:∀{e s n:Nat} {v:Value} {xs:List Value},e≠46->wa.ownsRow B e s v n xs->(wa.setCell ⟨xb,6,none⟩ (.slice A1 (x.ds.length+1) c1)).ownsRow B e s v n xs:=fun {e s n v xs} he hh=>r6 hh (fun b _ ⟨cs,hc⟩=>f7 _ _ _ _ (B7 hc E1.out he));refine⟨g1.setNode E1.out J8.out,((J4.out.alloc L1 _).grown E2.out (by simp;omega) (fun q hq=>(E3.out.rD.lt q hq).1)).setCell (p:=⟨xb,6,none⟩) J6 _,(.slice A1 (x.ds.length+1) c1),(.slice Aa x.ats.length ca),by rw[o8 E1.out];rfl,⟨D2 (by decide) g2.rD,D2 (by decide) g2.rA,g2.dd,g2.yd,g2.ya⟩⟩
  clear E1 G0 E2 G1 kc kf;go_ret;exact⟨rfl,E4.out⟩
theorem b4L(w:World)(B rb xb:Nat)(st:Rd)(vn vo vd vt vD vA:Value)(ys:List Ny)(x:Nd)(P L Sq V:ByteArray)(found okv:Bool)(r1 r2 r3:List UInt8)(h:S7 w B rb st vn vo vd vt ys)(E7:w.heap[xb]? = some (.cells #[.int .i64 x.k,.int .i64 x.n,.string x.p,.string x.l,.string x.u,.string x.t,vD,vA] 46 (0,0)))(hx:a0X w B ys vd vD vA x.ds x.ats)(J6:B<=xb)(J7:vn.ownBlock≠some xb)(M2:x.ds.length<=100000)(M3:x.ats.length<=100000)(hB : 8<=B)(hW:Wd w)
 (L2:Hid (Calls Tryz.prog 157 #[.pointer (some ⟨rb,0,none⟩),.string ⟨#[32,9,10,61,47,62]⟩] w fun r w'=>r=.returned (.string Sq)/\N7 rb (ba r1) w w'))
 (L3:Hid (∀w',Wd w'->Calls Tryz.prog 160 #[.string Sq] w' fun e w''=>e=.returned (.tuple #[.string P,.string L,.bool true])/\Below w'.heap.size w' w''))
 (L4:Hid (∀w',n0 w' rb (ba r1)->Calls Tryz.prog 151 #[.pointer (some ⟨rb,0,none⟩)] w' fun e w''=>e=.returned (.bool true)/\N7 rb (ba r2) w' w''))
 (S2:ByteArray) (L5:Hid (∀w',n0 w' rb (ba r2)->I3 w'->Calls Tryz.prog 152 #[.pointer (some ⟨rb,0,none⟩)] w' fun e w''=>e=.returned (.tuple #[.string S2,.bool found])/\N7 rb (ba r3) w' w''))
 (L6:Hid (∀w',Wd w'->Calls Tryz.prog 201 #[.string S2] w' fun e w''=>e=.returned (.tuple #[.string V,.bool okv])/\Below w'.heap.size w' w''))
 (hP:P.data.toList=[120,109,108,110,115]) :
 Calls Tryz.prog 162 #[.pointer (some ⟨rb,0,none⟩),.pointer (some ⟨xb,0,none⟩)] w fun e w'=>e=.returned (.bool (found&&okv))/\T8 B rb xb st vn vo vd vt ys x r3 (x.ds++[⟨L,V⟩]) x.ats w w':=by
 have E6:B<=w.heap.size:=d8 h.lo (A6 (i3 h.box));obtain⟨Ad,cd,rfl,_,_⟩:=q9 hx.rD;obtain⟨Aa,ca,rfl,_,_⟩:=q9 hx.rA;have H:=a8 h;have HX:=a8 hx;have M4:=a8 E7;have HW:=a8 hW;have J8:=a8 J7;have L7:Hid (∀w1,(∀b,b<w.heap.size->b≠rb->w1.heap[b]? = w.heap[b]?)->a0X w1 B ys vd (.slice Ad x.ds.length cd) (.slice Aa x.ats.length ca) x.ds x.ats/\w1.heap[xb]? = some (.cells #[.int .i64 x.k,.int .i64 x.n,.string x.p,.string x.l,.string x.u,.string x.t,.slice Ad x.ds.length cd,.slice Aa x.ats.length ca] 46 (0,0))):=fun w1 hk=>⟨⟨r6 hx.rD (fun b _ ⟨cs,hc⟩=>hk b (i3 hc) (B7 hc h.box (by decide))),r6 hx.rA (fun b _ ⟨cs,hc⟩=>hk b (i3 hc) (B7 hc h.box (by decide))),hx.dd,hx.yd,hx.ya⟩,(hk xb (i3 E7) (B7 E7 h.box (by decide))).trans E7⟩
 have te:P.toList.isEmpty=false:=by rw[f9,hP];rfl
 have tp:(P.toList == [120,109,108,110,115])=true:=by rw[f9,hP];rfl
 clear hP;clear h hx E7 hW J7;go_enter Tryz.func162,Tryz.ntmps162
 go_wp2_with fail
 refine L2.out.mono ?_;rintro e w1⟨rfl,G4⟩;have H1:=a8 (H.out.cur G4);have G5:=a8 (G4.below H.out.lo E6);have L8:Hid (∀b,b<w.heap.size->b≠rb->w1.heap[b]? = w.heap[b]?):=G4.other;clear G4
 go_wp2_with fail
 refine(L3.out w1 (HW.out.low hB G5.out)).mono ?_;rintro e w2⟨rfl,G6⟩;have H2:=a8 (H1.out.below G6);have J3:=a8 (G5.out.trans (G6.mono (d8 E6 G5.out.size)));have L9:Hid (∀b,b<w.heap.size->b≠rb->w2.heap[b]? = w.heap[b]?):=fun b h1 h2=>(G6.block b (x9 h1 G5.out.size)).trans (L8.out b h1 h2);clear G6
 go_wp2_with fail
 refine(L4.out w2 H2.out.curAt).mono ?_;rintro e w3⟨rfl,G7⟩;have H3:=a8 (H2.out.cur G7);have G8:=a8 (J3.out.trans (G7.below H.out.lo (d8 E6 J3.out.size)));have M0:Hid (∀b,b<w.heap.size->b≠rb->w3.heap[b]? = w.heap[b]?):=fun b h1 h2=>(G7.other b (x9 h1 J3.out.size) h2).trans (L9.out b h1 h2);clear G7
 go_wp2_with fail
 refine(L5.out w3 H3.out.curAt (HW.out.low hB G8.out).max).mono ?_;rintro e w4⟨rfl,G9⟩;have H4:=a8 (H3.out.cur G9);have J1:=a8 (G8.out.trans (G9.below H.out.lo (d8 E6 G8.out.size)));have M1:Hid (∀b,b<w.heap.size->b≠rb->w4.heap[b]? = w.heap[b]?):=fun b h1 h2=>(G9.other b (x9 h1 G8.out.size) h2).trans (M0.out b h1 h2);clear G9
 go_wp2_with fail
 refine(L6.out w4 (HW.out.low hB J1.out)).mono ?_;rintro e w5⟨rfl,J2⟩;have H5:=a8 (H4.out.below J2);have J4:=a8 (J1.out.trans (J2.mono (d8 E6 J1.out.size)));have J9:∀b,b<w.heap.size->b≠rb->w5.heap[b]? = w.heap[b]?:=fun b h1 h2=>(J2.block b (x9 h1 J1.out.size)).trans (M1.out b h1 h2);obtain⟨L0,D9⟩:=L7.out w5 J9;have E3:=a8 L0;have D1:=a8 D9;have L1:B<=w5.heap.size:=d8 E6 J4.out.size;have k6:w5.cell? ⟨xb,6,none⟩=some (.slice Ad x.ds.length cd):=by rw[d9 w5 xb 6 _ _ _ D9];rfl
 have k7:w5.cell? ⟨xb,7,none⟩=some (.slice Aa x.ats.length ca):=by rw[d9 w5 xb 7 _ _ _ D9];rfl
 clear J2 J9 L0 D9;cases found with
 |false =>
  go_wp2_with (first
   |(at_builtin;refine a2U rfl (.tmp 79) (.tmp 83) rfl B (.slice Ad x.ds.length cd) x.ds rfl (E3.out.rD.alloc _) w5.heap.size ⟨L,V⟩ rfl (g9 w5 _) (by omega) (by simp;omega) ?_;intro v1 wa D3 D0 E8;have E0:=(D0.block xb (by have:=i3 D1.out;simp;omega) (fun e=>a2h E3.out.rD D1.out (by decide) e.symm)).trans ((((b8 w5.heap.size w5).alloc (c9 _) _).block xb (i3 D1.out)).trans D1.out);have kc:wa.cell? ⟨xb,6,none⟩=some (.slice Ad x.ds.length cd):=(by rw[d9 wa xb 6 _ _ _ E0];rfl);have kf:wa.frozen? ⟨xb,6,none⟩=false:=(by unfold World.frozen?;rw[E0];simp);have E1:=a8 E0;have G0:=a8 D3;have E2:=a8 D0;have G1:=a8 E8;obtain⟨A1,c1,rfl,_,_⟩:=q9 D3;clear E0 D3 D0 E8 k6 k7)
   |fail)
  have E4:Hid (T8 B rb xb st vn vo vd vt ys x r3 (x.ds++[⟨L,V⟩]) x.ats w (wa.setCell ⟨xb,6,none⟩ (.slice A1 (x.ds.length+1) c1))):=by
   have E5:∀b,b<w5.heap.size->((.slice Ad x.ds.length cd):Value).ownBlock≠some b->wa.heap[b]? = w5.heap[b]?:=fun b hb J5=>by
    rw[E2.out.block b (by simp;omega) (fun e=>J5 e.symm)]
    exact((b8 w5.heap.size w5).alloc (c9 _) _).block b hb
   have hs:w5.heap.size<=wa.heap.size:=by have:=E2.out.size;simp at this;omega
   obtain⟨g1,g2⟩:=a9i H5.out E3.out hs E5 (by
    rcases G1.out with h1|h1
    ·exact .inl h1
    ·exact .inr (fun b hb=>by
      rw[h1]at hb;simp only[f5]at hb;rw[<-hb];simp)) G0.out
   have D2:∀{e s n:Nat} {v:Value} {xs:List Value},e≠46->wa.ownsRow B e s v n xs->(wa.setCell ⟨xb,6,none⟩ (.slice A1 (x.ds.length+1) c1)).ownsRow B e s v n xs:=fun {e s n v xs} he hh=>r6 hh (fun b _ ⟨cs,hc⟩=>f7 _ _ _ _ (B7 hc E1.out he));refine⟨g1.setNode E1.out J8.out,((J4.out.alloc L1 _).grown E2.out (by simp;omega) (fun q hq=>(E3.out.rD.lt q hq).1)).setCell (p:=⟨xb,6,none⟩) J6 _,(.slice A1 (x.ds.length+1) c1),(.slice Aa x.ats.length ca),by rw[o8 E1.out];rfl,⟨D2 (by decide) g2.rD,D2 (by decide) g2.rA,g2.dd,g2.yd,g2.ya⟩⟩
  clear E1 G0 E2 G1 kc kf;go_ret;exact⟨rfl,E4.out⟩
 |true =>
  go_wp2_with (first
   |(at_builtin;refine a2U rfl (.tmp 79) (.tmp 83) rfl B (.slice Ad x.ds.length cd) x.ds rfl (E3.out.rD.alloc _) w5.heap.size ⟨L,V⟩ rfl (g9 w5 _) (by omega) (by simp;omega) ?_;intro v1 wa D3 D0 E8;have E0:=(D0.block xb (by have:=i3 D1.out;simp;omega) (fun e=>a2h E3.out.rD D1.out (by decide) e.symm)).trans ((((b8 w5.heap.size w5).alloc (c9 _) _).block xb (i3 D1.out)).trans D1.out);have kc:wa.cell? ⟨xb,6,none⟩=some (.slice Ad x.ds.length cd):=(by rw[d9 wa xb 6 _ _ _ E0];rfl);have kf:wa.frozen? ⟨xb,6,none⟩=false:=(by unfold World.frozen?;rw[E0];simp);have E1:=a8 E0;have G0:=a8 D3;have E2:=a8 D0;have G1:=a8 E8;obtain⟨A1,c1,rfl,_,_⟩:=q9 D3;clear E0 D3 D0 E8 k6 k7)
   |fail)
  have E4:Hid (T8 B rb xb st vn vo vd vt ys x r3 (x.ds++[⟨L,V⟩]) x.ats w (wa.setCell ⟨xb,6,none⟩ (.slice A1 (x.ds.length+1) c1))):=by
   have E5:∀b,b<w5.heap.size->((.slice Ad x.ds.length cd):Value).ownBlock≠some b->wa.heap[b]? = w5.heap[b]?:=fun b hb J5=>by
    rw[E2.out.block b (by simp;omega) (fun e=>J5 e.symm)]
    exact((b8 w5.heap.size w5).alloc (c9 _) _).block b hb
   have hs:w5.heap.size<=wa.heap.size:=by have:=E2.out.size;simp at this;omega
   obtain⟨g1,g2⟩:=a9i H5.out E3.out hs E5 (by
    rcases G1.out with h1|h1
    ·exact .inl h1
    ·exact .inr (fun b hb=>by
      rw[h1]at hb;simp only[f5]at hb;rw[<-hb];simp)) G0.out
   have D2:∀{e s n:Nat} {v:Value} {xs:List Value},e≠46->wa.ownsRow B e s v n xs->(wa.setCell ⟨xb,6,none⟩ (.slice A1 (x.ds.length+1) c1)).ownsRow B e s v n xs:=fun {e s n v xs} he hh=>r6 hh (fun b _ ⟨cs,hc⟩=>f7 _ _ _ _ (B7 hc E1.out he));refine⟨g1.setNode E1.out J8.out,((J4.out.alloc L1 _).grown E2.out (by simp;omega) (fun q hq=>(E3.out.rD.lt q hq).1)).setCell (p:=⟨xb,6,none⟩) J6 _,(.slice A1 (x.ds.length+1) c1),(.slice Aa x.ats.length ca),by rw[o8 E1.out];rfl,⟨D2 (by decide) g2.rD,D2 (by decide) g2.rA,g2.dd,g2.yd,g2.ya⟩⟩
  clear E1 G0 E2 G1 kc kf;go_ret;exact⟨rfl,E4.out⟩
end Go.Proofs.YtlgcigmolfhamaaGreatDoor
