/-
  What mark stands on: an element's own rows grow. Conditions: none.
  parse.reader: mark, by what its calls answer. Conditions: the reader and the element lie as they are; nothing is too long; the tables lie as they are laid.
-/
import Derived.Test.YteinegfbpfhflaaGreatDoorM23
import Derived.Test.YteinegfbpfhflaaGreatDoorM27
namespace Go.Proofs.YteinegfbpfhflaaGreatDoor
open Go.RowKit
set_option linter.unusedVariables false
set_option maxRecDepth 100000
set_option maxHeartbeats 16000000
theorem pM{v v':Value}(h:v.ownBlock=none∨v.ownBlock≠v'.ownBlock):v'.ownBlock=none∨v'.ownBlock≠v.ownBlock:=by
 rcases h with h|h
 ·cases hv:v'.ownBlock with
  |none=>exact .inl rfl
  |some b=>exact .inr (by rw[h];simp)
 ·exact .inr (fun e=>h e.symm)
theorem tm{w w1:World}{B rb:Nat}{st:Rd}{vn vo vd vt vD vA v1:Value}{ys:List Ny}{ds:List Dc}{as':List At}{d:Dc}(h:eH w B rb st vn vo vd vt ys)(hx:gR w B ys vd vD vA ds as')(hs:w.heap.size<=w1.heap.size)(hoth:∀b,b<w.heap.size->vD.ownBlock≠some b->w1.heap[b]? = w.heap[b]?)(hat:v1.ownBlock=vD.ownBlock∨∀b,v1.ownBlock=some b->w.heap.size<=b)(hown:w1.ownsRow B 48 2 v1 (ds.length+1) ((ds++[d]).flatMap jP)) :
 eH w1 B rb st vn vo vd vt ys/\gR w1 B ys vd v1 vA (ds++[d]) as':=by
 have hgn:∀{e s n:Nat} {v:Value} {xs:List Value},w.ownsRow B e s v n xs->(vD.ownBlock=none∨vD.ownBlock≠v.ownBlock)->v1.ownBlock=none∨v1.ownBlock≠v.ownBlock:=fun {e s n v xs} ho hne=>by
  rcases hat with h1|h1
  ·rw[h1];exact hne
  ·cases hv:v1.ownBlock with
   |none=>exact .inl rfl
   |some b =>
    refine .inr (fun e0 => ?_);have:=h1 b hv;have:=(ho.lt b e0.symm).2;omega
 refine⟨⟨h.lo,(hoth rb (au h.box) (lw hx.rD h.box (by decide))).trans h.box,h.ns,cO hoth hx.rD (.inl (by decide)) h.rn,cO hoth hx.rD (.inl (by decide)) h.ro,cO hoth hx.rD (.inr (pM hx.dd)) h.rd,cO hoth hx.rD (.inl (by decide)) h.rt,fun y hy=>⟨cO hoth hx.rD (.inr (hx.yd y hy)) (h.ry y hy).1,cO hoth hx.rD (.inl (by decide)) (h.ry y hy).2⟩,h.di⟩,⟨?_,cO hoth hx.rD (.inl (by decide)) hx.rA,hgn h.rd hx.dd,fun y hy=>pM (hgn (h.ry y hy).1 (pM (hx.yd y hy))),hx.ya⟩⟩
 rw[aj,aB];exact hown
theorem tn{w w1:World}{B rb:Nat}{st:Rd}{vn vo vd vt vD vA v1:Value}{ys:List Ny}{ds:List Dc}{as':List At}{a:At}(h:eH w B rb st vn vo vd vt ys)(hx:gR w B ys vd vD vA ds as')(hs:w.heap.size<=w1.heap.size)(hoth:∀b,b<w.heap.size->vA.ownBlock≠some b->w1.heap[b]? = w.heap[b]?)(hat:v1.ownBlock=vA.ownBlock∨∀b,v1.ownBlock=some b->w.heap.size<=b)(hown:w1.ownsRow B 73 4 v1 (as'.length+1) ((as'++[a]).flatMap jt)) :
 eH w1 B rb st vn vo vd vt ys/\gR w1 B ys vd vD v1 ds (as'++[a]):=by
 have hgn:∀{e s n:Nat} {v:Value} {xs:List Value},w.ownsRow B e s v n xs->(vA.ownBlock=none∨vA.ownBlock≠v.ownBlock)->v1.ownBlock=none∨v1.ownBlock≠v.ownBlock:=fun {e s n v xs} ho hne=>by
  rcases hat with h1|h1
  ·rw[h1];exact hne
  ·cases hv:v1.ownBlock with
   |none=>exact .inl rfl
   |some b =>
    refine .inr (fun e0 => ?_);have:=h1 b hv;have:=(ho.lt b e0.symm).2;omega
 refine⟨⟨h.lo,(hoth rb (au h.box) (lw hx.rA h.box (by decide))).trans h.box,h.ns,cO hoth hx.rA (.inl (by decide)) h.rn,cO hoth hx.rA (.inl (by decide)) h.ro,cO hoth hx.rA (.inl (by decide)) h.rd,cO hoth hx.rA (.inl (by decide)) h.rt,fun y hy=>⟨cO hoth hx.rA (.inl (by decide)) (h.ry y hy).1,cO hoth hx.rA (.inr (hx.ya y hy)) (h.ry y hy).2⟩,h.di⟩,⟨cO hoth hx.rA (.inl (by decide)) hx.rD,?_,hx.dd,hx.yd,fun y hy=>pM (hgn (h.ry y hy).2 (pM (hx.ya y hy)))⟩⟩
 rw[aj,aB];exact hown
theorem ks{w:World}{ops:Array Oper}{rest:List Oper}{o:Oper}{a:Act}{Q:Exit->Act->World->Prop}(hgd:o.guard=none)(s x:Operand)(ho:o.op=.call { callee:=.builtin .append,args:=#[s,x],argTypes:=#[39,39] })
 (B:Nat) (v:Value) (l:List Dc) (hs:a.eval s=v) (hown:w.ownsRow B 48 2 v l.length (l.flatMap jP)) (g:Nat) (p:Dc) (hx:a.eval x=.slice (some ⟨g,0,none⟩) 1 1) (hcell:w.heap[g]? = some (.cells #[.string p.p,.string p.u] 48 (0,0))) (hn:l.length<=1000000) (hB:B<=w.heap.size)
 (h:∀v' w',w'.ownsRow B 48 2 v' (l.length+1) ((l++[p]).flatMap jP)->w.grownBy w' v.ownBlock->(v'.ownBlock=v.ownBlock∨v'.ownBlock=some w.heap.size)->wpList Tryz.prog ops Q rest (a.put o.dst v') w'):wpList Tryz.prog ops Q (o::rest) a w:=by
 refine wpList_plain hgd fun _ hK => ?_;obtain⟨i0,hi0,hz0,hz1,hz2⟩:=info_parts gP
 obtain⟨v',w',hr,h2,h3,_,h5⟩:=run_append_own_at (P:=Tryz.prog) w B 39 o.type 48 i0 _ 2 _ Tryz.underlying39 hi0 hz0 hz1 hz2 rfl (by omega) v l.length _ hown ⟨g,0,none⟩ 1 1 (jP p) rfl (World.news_of_block hcell) (fun u hu=>by
  unfold jP at hu;simp only[aU,bE,or_false]at hu;rcases hu with rfl|rfl<;>rfl) (by unfold maxLen;omega) (by omega) hB
 unfold Oper.wp execOp;simp only[ho,resolve,invoke,builtin,Sem.run_bind,Sem.run_pure,Result.andThen_ok,List.map_toArray,List.map_cons,List.map_nil,hs,hx,hr];refine hK _ _ (h v' w' ?_ h3 h5);rw[ch];have e:[p].flatMap jP=jP p:=by simp
 rw[e];exact h2
theorem ku{w:World}{ops:Array Oper}{rest:List Oper}{o:Oper}{a:Act}{Q:Exit->Act->World->Prop}(hgd:o.guard=none)(s x:Operand)(ho:o.op=.call { callee:=.builtin .append,args:=#[s,x],argTypes:=#[40,40] })
 (B:Nat) (v:Value) (l:List At) (hs:a.eval s=v) (hown:w.ownsRow B 73 4 v l.length (l.flatMap jt)) (g:Nat) (p:At) (hx:a.eval x=.slice (some ⟨g,0,none⟩) 1 1) (hcell:w.heap[g]? = some (.cells #[.string p.p,.string p.l,.string p.u,.string p.v] 73 (0,0))) (hn:l.length<=1000000) (hB:B<=w.heap.size)
 (h:∀v' w',w'.ownsRow B 73 4 v' (l.length+1) ((l++[p]).flatMap jt)->w.grownBy w' v.ownBlock->(v'.ownBlock=v.ownBlock∨v'.ownBlock=some w.heap.size)->wpList Tryz.prog ops Q rest (a.put o.dst v') w'):wpList Tryz.prog ops Q (o::rest) a w:=by
 refine wpList_plain hgd fun _ hK => ?_;obtain⟨i0,hi0,hz0,hz1,hz2⟩:=info_parts jQ
 obtain⟨v',w',hr,h2,h3,_,h5⟩:=run_append_own_at (P:=Tryz.prog) w B 40 o.type 73 i0 _ 4 _ Tryz.underlying40 hi0 hz0 hz1 hz2 rfl (by omega) v l.length _ hown ⟨g,0,none⟩ 1 1 (jt p) rfl (World.news_of_block hcell) (fun u hu=>by
  unfold jt at hu;simp only[aU,bE,or_false]at hu;rcases hu with rfl|rfl|rfl|rfl<;>rfl) (by unfold maxLen;omega) (by omega) hB
 unfold Oper.wp execOp;simp only[ho,resolve,invoke,builtin,Sem.run_bind,Sem.run_pure,Result.andThen_ok,List.map_toArray,List.map_cons,List.map_nil,hs,hx,hr];refine hK _ _ (h v' w' ?_ h3 h5);rw[ch];have e:[p].flatMap jt=jt p:=by simp
 rw[e];exact h2
def eJ(B rb xb:Nat)(st:Rd)(vn vo vd vt:Value)(ys:List Ny)(x:Nd)(r:List UInt8)(ds:List Dc)(as':List At)(w w':World):Prop :=
 eH w' B rb { st with rest:=r } vn vo vd vt ys/\Below B w w'/\∃vD vA,w'.heap[xb]? = some (.cells #[.int .i64 x.k,.int .i64 x.n,.string x.p,.string x.l,.string x.u,.string x.t,vD,vA] 42 (0,0))/\gR w' B ys vd vD vA ds as'
theorem Ay(w:World)(B rb xb:Nat)(st:Rd)(vn vo vd vt vD vA:Value)(ys:List Ny)(x:Nd)(P L Sq V:ByteArray)(found okv:Bool)(r1 r2 r3:List UInt8)(h:eH w B rb st vn vo vd vt ys)(hbx:w.heap[xb]? = some (.cells #[.int .i64 x.k,.int .i64 x.n,.string x.p,.string x.l,.string x.u,.string x.t,vD,vA] 42 (0,0)))(hx:gR w B ys vd vD vA x.ds x.ats)(hBx:B<=xb)(hnx:vn.ownBlock≠some xb)(hxd:x.ds.length<=100000)(hxa:x.ats.length<=100000)(hB : 8<=B)(hW:Wd w)
 (HUP:Hid (Calls Tryz.prog 129 #[.pointer (some ⟨rb,0,none⟩),.string ⟨#[32,9,10,61,47,62]⟩] w fun r w'=>r=.returned (.string Sq)/\dK rb (ba r1) w w'))
 (HSP:Hid (∀w',Wd w'->Calls Tryz.prog 132 #[.string Sq] w' fun e w''=>e=.returned (.tuple #[.string P,.string L,.bool true])/\Below w'.heap.size w' w''))
 (HEQ:Hid (∀w',aG w' rb (ba r1)->Calls Tryz.prog 123 #[.pointer (some ⟨rb,0,none⟩)] w' fun e w''=>e=.returned (.bool true)/\dK rb (ba r2) w' w''))
 (S2:ByteArray) (HQU:Hid (∀w',aG w' rb (ba r2)->cD w'->Calls Tryz.prog 124 #[.pointer (some ⟨rb,0,none⟩)] w' fun e w''=>e=.returned (.tuple #[.string S2,.bool found])/\dK rb (ba r3) w' w''))
 (HVA:Hid (∀w',Wd w'->Calls Tryz.prog 172 #[.string S2] w' fun e w''=>e=.returned (.tuple #[.string V,.bool okv])/\Below w'.heap.size w' w''))
 (hP:P.data.toList=[]) (hL:L.data.toList=[120,109,108,110,115]) :
 Calls Tryz.prog 134 #[.pointer (some ⟨rb,0,none⟩),.pointer (some ⟨xb,0,none⟩)] w fun e w'=>e=.returned (.bool (found&&okv))/\eJ B rb xb st vn vo vd vt ys x r3 (x.ds++[⟨⟨#[]⟩,V⟩]) x.ats w w':=by
 have hBs:B<=w.heap.size:=ag h.lo (be (au h.box));obtain⟨Ad,cd,rfl,_,_⟩:=aP hx.rD;obtain⟨Aa,ca,rfl,_,_⟩:=aP hx.rA;have H:=aa h;have HX:=aa hx;have HBX:=aa hbx;have HW:=aa hW;have HNX:=aa hnx;have HXK:Hid (∀w1,(∀b,b<w.heap.size->b≠rb->w1.heap[b]? = w.heap[b]?)->gR w1 B ys vd (.slice Ad x.ds.length cd) (.slice Aa x.ats.length ca) x.ds x.ats/\w1.heap[xb]? = some (.cells #[.int .i64 x.k,.int .i64 x.n,.string x.p,.string x.l,.string x.u,.string x.t,.slice Ad x.ds.length cd,.slice Aa x.ats.length ca] 42 (0,0))):=fun w1 hk=>⟨⟨aR hx.rD (fun b _ ⟨cs,hc⟩=>hk b (au hc) (br hc h.box (by decide))),aR hx.rA (fun b _ ⟨cs,hc⟩=>hk b (au hc) (br hc h.box (by decide))),hx.dd,hx.yd,hx.ya⟩,(hk xb (au hbx) (br hbx h.box (by decide))).trans hbx⟩
 have te:P.toList.isEmpty=true:=by rw[aq,hP];rfl
 have tl:(L.toList == [120,109,108,110,115])=true:=by rw[aq,hL];rfl
 clear hP hL;clear h hx hbx hW hnx;go_enter Tryz.func134,Tryz.ntmps134
 go_wp2_with fail
 refine HUP.out.mono ?_;rintro e w1⟨rfl,hc1⟩;have H1:=aa (H.out.cur hc1);have HB1:=aa (hc1.below H.out.lo hBs);have HK1:Hid (∀b,b<w.heap.size->b≠rb->w1.heap[b]? = w.heap[b]?):=hc1.other;clear hc1
 go_wp2_with fail
 refine(HSP.out w1 (HW.out.low hB HB1.out)).mono ?_;rintro e w2⟨rfl,hb2⟩;have H2:=aa (H1.out.below hb2);have HB2:=aa (HB1.out.trans (hb2.mono (ag hBs HB1.out.size)));have HK2:Hid (∀b,b<w.heap.size->b≠rb->w2.heap[b]? = w.heap[b]?):=fun b h1 h2=>(hb2.block b (a8 h1 HB1.out.size)).trans (HK1.out b h1 h2);clear hb2
 go_wp2_with fail
 refine(HEQ.out w2 H2.out.curAt).mono ?_;rintro e w3⟨rfl,hc3⟩;have H3:=aa (H2.out.cur hc3);have HB3:=aa (HB2.out.trans (hc3.below H.out.lo (ag hBs HB2.out.size)));have HK3:Hid (∀b,b<w.heap.size->b≠rb->w3.heap[b]? = w.heap[b]?):=fun b h1 h2=>(hc3.other b (a8 h1 HB2.out.size) h2).trans (HK2.out b h1 h2);clear hc3
 go_wp2_with fail
 refine(HQU.out w3 H3.out.curAt (HW.out.low hB HB3.out).max).mono ?_;rintro e w4⟨rfl,hc4⟩;have H4:=aa (H3.out.cur hc4);have HB4:=aa (HB3.out.trans (hc4.below H.out.lo (ag hBs HB3.out.size)));have HK4:Hid (∀b,b<w.heap.size->b≠rb->w4.heap[b]? = w.heap[b]?):=fun b h1 h2=>(hc4.other b (a8 h1 HB3.out.size) h2).trans (HK3.out b h1 h2);clear hc4
 go_wp2_with fail
 refine(HVA.out w4 (HW.out.low hB HB4.out)).mono ?_;rintro e w5⟨rfl,hb5⟩;have H5:=aa (H4.out.below hb5);have HB5:=aa (HB4.out.trans (hb5.mono (ag hBs HB4.out.size)));have hk5:∀b,b<w.heap.size->b≠rb->w5.heap[b]? = w.heap[b]?:=fun b h1 h2=>(hb5.block b (a8 h1 HB4.out.size)).trans (HK4.out b h1 h2);obtain⟨hx5,hbx5⟩:=HXK.out w5 hk5;have HX5:=aa hx5;have HBX5:=aa hbx5;have hB5:B<=w5.heap.size:=ag hBs HB5.out.size;have k6:w5.cell? ⟨xb,6,none⟩=some (.slice Ad x.ds.length cd):=by rw[ai w5 xb 6 _ _ _ hbx5];rfl
 have k7:w5.cell? ⟨xb,7,none⟩=some (.slice Aa x.ats.length ca):=by rw[ai w5 xb 7 _ _ _ hbx5];rfl
 clear hb5 hk5 hx5 hbx5;cases found with
 |false =>
  go_wp2_with (first
   |(at_builtin;refine ks rfl (.tmp 65) (.tmp 68) rfl B (.slice Ad x.ds.length cd) x.ds rfl (HX5.out.rD.alloc _) w5.heap.size ⟨⟨#[]⟩,V⟩ rfl (ar w5 _) (by omega) (by simp;omega) ?_;intro v1 wa hown hgrow hat;have hka:=(hgrow.block xb (by have:=au HBX5.out;simp;omega) (fun e=>jD HX5.out.rD HBX5.out (by decide) e.symm)).trans ((((ae w5.heap.size w5).alloc (af _) _).block xb (au HBX5.out)).trans HBX5.out);have kc:wa.cell? ⟨xb,6,none⟩=some (.slice Ad x.ds.length cd):=(by rw[ai wa xb 6 _ _ _ hka];rfl);have kf:wa.frozen? ⟨xb,6,none⟩=false:=(by unfold World.frozen?;rw[hka];simp);have HKA:=aa hka;have HOW:=aa hown;have HGR:=aa hgrow;have HAT:=aa hat;obtain⟨A1,c1,rfl,_,_⟩:=aP hown;clear hka hown hgrow hat k6 k7)
   |fail)
  have HEND:Hid (eJ B rb xb st vn vo vd vt ys x r3 (x.ds++[⟨⟨#[]⟩,V⟩]) x.ats w (wa.setCell ⟨xb,6,none⟩ (.slice A1 (x.ds.length+1) c1))):=by
   have hoth:∀b,b<w5.heap.size->((.slice Ad x.ds.length cd):Value).ownBlock≠some b->wa.heap[b]? = w5.heap[b]?:=fun b hb hne=>by
    rw[HGR.out.block b (by simp;omega) (fun e=>hne e.symm)]
    exact((ae w5.heap.size w5).alloc (af _) _).block b hb
   have hs:w5.heap.size<=wa.heap.size:=by have:=HGR.out.size;simp at this;omega
   obtain⟨g1,g2⟩:=tm H5.out HX5.out hs hoth (by
    rcases HAT.out with h1|h1
    ·exact .inl h1
    ·exact .inr (fun b hb=>by
      rw[h1]at hb;simp only[al]at hb;rw[<-hb];simp)) HOW.out
   have hnode:∀{e s n:Nat} {v:Value} {xs:List Value},e≠42->wa.ownsRow B e s v n xs->(wa.setCell ⟨xb,6,none⟩ (.slice A1 (x.ds.length+1) c1)).ownsRow B e s v n xs:=fun {e s n v xs} he hh=>aR hh (fun b _ ⟨cs,hc⟩=>ao _ _ _ _ (br hc HKA.out he));refine⟨g1.setNode HKA.out HNX.out,((HB5.out.alloc hB5 _).grown HGR.out (by simp;omega) (fun q hq=>(HX5.out.rD.lt q hq).1)).setCell (p:=⟨xb,6,none⟩) hBx _,(.slice A1 (x.ds.length+1) c1),(.slice Aa x.ats.length ca),by rw[aL HKA.out];rfl,⟨hnode (by decide) g2.rD,hnode (by decide) g2.rA,g2.dd,g2.yd,g2.ya⟩⟩
  clear HKA HOW HGR HAT kc kf;go_ret;exact⟨rfl,HEND.out⟩
 |true =>
  go_wp2_with (first
   |(at_builtin;refine ks rfl (.tmp 65) (.tmp 68) rfl B (.slice Ad x.ds.length cd) x.ds rfl (HX5.out.rD.alloc _) w5.heap.size ⟨⟨#[]⟩,V⟩ rfl (ar w5 _) (by omega) (by simp;omega) ?_;intro v1 wa hown hgrow hat;have hka:=(hgrow.block xb (by have:=au HBX5.out;simp;omega) (fun e=>jD HX5.out.rD HBX5.out (by decide) e.symm)).trans ((((ae w5.heap.size w5).alloc (af _) _).block xb (au HBX5.out)).trans HBX5.out);have kc:wa.cell? ⟨xb,6,none⟩=some (.slice Ad x.ds.length cd):=(by rw[ai wa xb 6 _ _ _ hka];rfl);have kf:wa.frozen? ⟨xb,6,none⟩=false:=(by unfold World.frozen?;rw[hka];simp);have HKA:=aa hka;have HOW:=aa hown;have HGR:=aa hgrow;have HAT:=aa hat;obtain⟨A1,c1,rfl,_,_⟩:=aP hown;clear hka hown hgrow hat k6 k7)
   |fail)
  have HEND:Hid (eJ B rb xb st vn vo vd vt ys x r3 (x.ds++[⟨⟨#[]⟩,V⟩]) x.ats w (wa.setCell ⟨xb,6,none⟩ (.slice A1 (x.ds.length+1) c1))):=by
   have hoth:∀b,b<w5.heap.size->((.slice Ad x.ds.length cd):Value).ownBlock≠some b->wa.heap[b]? = w5.heap[b]?:=fun b hb hne=>by
    rw[HGR.out.block b (by simp;omega) (fun e=>hne e.symm)]
    exact((ae w5.heap.size w5).alloc (af _) _).block b hb
   have hs:w5.heap.size<=wa.heap.size:=by have:=HGR.out.size;simp at this;omega
   obtain⟨g1,g2⟩:=tm H5.out HX5.out hs hoth (by
    rcases HAT.out with h1|h1
    ·exact .inl h1
    ·exact .inr (fun b hb=>by
      rw[h1]at hb;simp only[al]at hb;rw[<-hb];simp)) HOW.out
   have hnode:∀{e s n:Nat} {v:Value} {xs:List Value},e≠42->wa.ownsRow B e s v n xs->(wa.setCell ⟨xb,6,none⟩ (.slice A1 (x.ds.length+1) c1)).ownsRow B e s v n xs:=fun {e s n v xs} he hh=>aR hh (fun b _ ⟨cs,hc⟩=>ao _ _ _ _ (br hc HKA.out he));refine⟨g1.setNode HKA.out HNX.out,((HB5.out.alloc hB5 _).grown HGR.out (by simp;omega) (fun q hq=>(HX5.out.rD.lt q hq).1)).setCell (p:=⟨xb,6,none⟩) hBx _,(.slice A1 (x.ds.length+1) c1),(.slice Aa x.ats.length ca),by rw[aL HKA.out];rfl,⟨hnode (by decide) g2.rD,hnode (by decide) g2.rA,g2.dd,g2.yd,g2.ya⟩⟩
  clear HKA HOW HGR HAT kc kf;go_ret;exact⟨rfl,HEND.out⟩
theorem AA(w:World)(B rb xb:Nat)(st:Rd)(vn vo vd vt vD vA:Value)(ys:List Ny)(x:Nd)(P L Sq V:ByteArray)(found okv:Bool)(r1 r2 r3:List UInt8)(h:eH w B rb st vn vo vd vt ys)(hbx:w.heap[xb]? = some (.cells #[.int .i64 x.k,.int .i64 x.n,.string x.p,.string x.l,.string x.u,.string x.t,vD,vA] 42 (0,0)))(hx:gR w B ys vd vD vA x.ds x.ats)(hBx:B<=xb)(hnx:vn.ownBlock≠some xb)(hxd:x.ds.length<=100000)(hxa:x.ats.length<=100000)(hB : 8<=B)(hW:Wd w)
 (HUP:Hid (Calls Tryz.prog 129 #[.pointer (some ⟨rb,0,none⟩),.string ⟨#[32,9,10,61,47,62]⟩] w fun r w'=>r=.returned (.string Sq)/\dK rb (ba r1) w w'))
 (HSP:Hid (∀w',Wd w'->Calls Tryz.prog 132 #[.string Sq] w' fun e w''=>e=.returned (.tuple #[.string P,.string L,.bool true])/\Below w'.heap.size w' w''))
 (HEQ:Hid (∀w',aG w' rb (ba r1)->Calls Tryz.prog 123 #[.pointer (some ⟨rb,0,none⟩)] w' fun e w''=>e=.returned (.bool true)/\dK rb (ba r2) w' w''))
 (S2:ByteArray) (HQU:Hid (∀w',aG w' rb (ba r2)->cD w'->Calls Tryz.prog 124 #[.pointer (some ⟨rb,0,none⟩)] w' fun e w''=>e=.returned (.tuple #[.string S2,.bool found])/\dK rb (ba r3) w' w''))
 (HVA:Hid (∀w',Wd w'->Calls Tryz.prog 172 #[.string S2] w' fun e w''=>e=.returned (.tuple #[.string V,.bool okv])/\Below w'.heap.size w' w''))
 (hP:P.data.toList=[120,109,108,110,115]) :
 Calls Tryz.prog 134 #[.pointer (some ⟨rb,0,none⟩),.pointer (some ⟨xb,0,none⟩)] w fun e w'=>e=.returned (.bool (found&&okv))/\eJ B rb xb st vn vo vd vt ys x r3 (x.ds++[⟨L,V⟩]) x.ats w w':=by
 have hBs:B<=w.heap.size:=ag h.lo (be (au h.box));obtain⟨Ad,cd,rfl,_,_⟩:=aP hx.rD;obtain⟨Aa,ca,rfl,_,_⟩:=aP hx.rA;have H:=aa h;have HX:=aa hx;have HBX:=aa hbx;have HW:=aa hW;have HNX:=aa hnx;have HXK:Hid (∀w1,(∀b,b<w.heap.size->b≠rb->w1.heap[b]? = w.heap[b]?)->gR w1 B ys vd (.slice Ad x.ds.length cd) (.slice Aa x.ats.length ca) x.ds x.ats/\w1.heap[xb]? = some (.cells #[.int .i64 x.k,.int .i64 x.n,.string x.p,.string x.l,.string x.u,.string x.t,.slice Ad x.ds.length cd,.slice Aa x.ats.length ca] 42 (0,0))):=fun w1 hk=>⟨⟨aR hx.rD (fun b _ ⟨cs,hc⟩=>hk b (au hc) (br hc h.box (by decide))),aR hx.rA (fun b _ ⟨cs,hc⟩=>hk b (au hc) (br hc h.box (by decide))),hx.dd,hx.yd,hx.ya⟩,(hk xb (au hbx) (br hbx h.box (by decide))).trans hbx⟩
 have te:P.toList.isEmpty=false:=by rw[aq,hP];rfl
 have tp:(P.toList == [120,109,108,110,115])=true:=by rw[aq,hP];rfl
 clear hP;clear h hx hbx hW hnx;go_enter Tryz.func134,Tryz.ntmps134
 go_wp2_with fail
 refine HUP.out.mono ?_;rintro e w1⟨rfl,hc1⟩;have H1:=aa (H.out.cur hc1);have HB1:=aa (hc1.below H.out.lo hBs);have HK1:Hid (∀b,b<w.heap.size->b≠rb->w1.heap[b]? = w.heap[b]?):=hc1.other;clear hc1
 go_wp2_with fail
 refine(HSP.out w1 (HW.out.low hB HB1.out)).mono ?_;rintro e w2⟨rfl,hb2⟩;have H2:=aa (H1.out.below hb2);have HB2:=aa (HB1.out.trans (hb2.mono (ag hBs HB1.out.size)));have HK2:Hid (∀b,b<w.heap.size->b≠rb->w2.heap[b]? = w.heap[b]?):=fun b h1 h2=>(hb2.block b (a8 h1 HB1.out.size)).trans (HK1.out b h1 h2);clear hb2
 go_wp2_with fail
 refine(HEQ.out w2 H2.out.curAt).mono ?_;rintro e w3⟨rfl,hc3⟩;have H3:=aa (H2.out.cur hc3);have HB3:=aa (HB2.out.trans (hc3.below H.out.lo (ag hBs HB2.out.size)));have HK3:Hid (∀b,b<w.heap.size->b≠rb->w3.heap[b]? = w.heap[b]?):=fun b h1 h2=>(hc3.other b (a8 h1 HB2.out.size) h2).trans (HK2.out b h1 h2);clear hc3
 go_wp2_with fail
 refine(HQU.out w3 H3.out.curAt (HW.out.low hB HB3.out).max).mono ?_;rintro e w4⟨rfl,hc4⟩;have H4:=aa (H3.out.cur hc4);have HB4:=aa (HB3.out.trans (hc4.below H.out.lo (ag hBs HB3.out.size)));have HK4:Hid (∀b,b<w.heap.size->b≠rb->w4.heap[b]? = w.heap[b]?):=fun b h1 h2=>(hc4.other b (a8 h1 HB3.out.size) h2).trans (HK3.out b h1 h2);clear hc4
 go_wp2_with fail
 refine(HVA.out w4 (HW.out.low hB HB4.out)).mono ?_;rintro e w5⟨rfl,hb5⟩;have H5:=aa (H4.out.below hb5);have HB5:=aa (HB4.out.trans (hb5.mono (ag hBs HB4.out.size)));have hk5:∀b,b<w.heap.size->b≠rb->w5.heap[b]? = w.heap[b]?:=fun b h1 h2=>(hb5.block b (a8 h1 HB4.out.size)).trans (HK4.out b h1 h2);obtain⟨hx5,hbx5⟩:=HXK.out w5 hk5;have HX5:=aa hx5;have HBX5:=aa hbx5;have hB5:B<=w5.heap.size:=ag hBs HB5.out.size;have k6:w5.cell? ⟨xb,6,none⟩=some (.slice Ad x.ds.length cd):=by rw[ai w5 xb 6 _ _ _ hbx5];rfl
 have k7:w5.cell? ⟨xb,7,none⟩=some (.slice Aa x.ats.length ca):=by rw[ai w5 xb 7 _ _ _ hbx5];rfl
 clear hb5 hk5 hx5 hbx5;cases found with
 |false =>
  go_wp2_with (first
   |(at_builtin;refine ks rfl (.tmp 79) (.tmp 83) rfl B (.slice Ad x.ds.length cd) x.ds rfl (HX5.out.rD.alloc _) w5.heap.size ⟨L,V⟩ rfl (ar w5 _) (by omega) (by simp;omega) ?_;intro v1 wa hown hgrow hat;have hka:=(hgrow.block xb (by have:=au HBX5.out;simp;omega) (fun e=>jD HX5.out.rD HBX5.out (by decide) e.symm)).trans ((((ae w5.heap.size w5).alloc (af _) _).block xb (au HBX5.out)).trans HBX5.out);have kc:wa.cell? ⟨xb,6,none⟩=some (.slice Ad x.ds.length cd):=(by rw[ai wa xb 6 _ _ _ hka];rfl);have kf:wa.frozen? ⟨xb,6,none⟩=false:=(by unfold World.frozen?;rw[hka];simp);have HKA:=aa hka;have HOW:=aa hown;have HGR:=aa hgrow;have HAT:=aa hat;obtain⟨A1,c1,rfl,_,_⟩:=aP hown;clear hka hown hgrow hat k6 k7)
   |fail)
  have HEND:Hid (eJ B rb xb st vn vo vd vt ys x r3 (x.ds++[⟨L,V⟩]) x.ats w (wa.setCell ⟨xb,6,none⟩ (.slice A1 (x.ds.length+1) c1))):=by
   have hoth:∀b,b<w5.heap.size->((.slice Ad x.ds.length cd):Value).ownBlock≠some b->wa.heap[b]? = w5.heap[b]?:=fun b hb hne=>by
    rw[HGR.out.block b (by simp;omega) (fun e=>hne e.symm)]
    exact((ae w5.heap.size w5).alloc (af _) _).block b hb
   have hs:w5.heap.size<=wa.heap.size:=by have:=HGR.out.size;simp at this;omega
   obtain⟨g1,g2⟩:=tm H5.out HX5.out hs hoth (by
    rcases HAT.out with h1|h1
    ·exact .inl h1
    ·exact .inr (fun b hb=>by
      rw[h1]at hb;simp only[al]at hb;rw[<-hb];simp)) HOW.out
   have hnode:∀{e s n:Nat} {v:Value} {xs:List Value},e≠42->wa.ownsRow B e s v n xs->(wa.setCell ⟨xb,6,none⟩ (.slice A1 (x.ds.length+1) c1)).ownsRow B e s v n xs:=fun {e s n v xs} he hh=>aR hh (fun b _ ⟨cs,hc⟩=>ao _ _ _ _ (br hc HKA.out he));refine⟨g1.setNode HKA.out HNX.out,((HB5.out.alloc hB5 _).grown HGR.out (by simp;omega) (fun q hq=>(HX5.out.rD.lt q hq).1)).setCell (p:=⟨xb,6,none⟩) hBx _,(.slice A1 (x.ds.length+1) c1),(.slice Aa x.ats.length ca),by rw[aL HKA.out];rfl,⟨hnode (by decide) g2.rD,hnode (by decide) g2.rA,g2.dd,g2.yd,g2.ya⟩⟩
  clear HKA HOW HGR HAT kc kf;go_ret;exact⟨rfl,HEND.out⟩
 |true =>
  go_wp2_with (first
   |(at_builtin;refine ks rfl (.tmp 79) (.tmp 83) rfl B (.slice Ad x.ds.length cd) x.ds rfl (HX5.out.rD.alloc _) w5.heap.size ⟨L,V⟩ rfl (ar w5 _) (by omega) (by simp;omega) ?_;intro v1 wa hown hgrow hat;have hka:=(hgrow.block xb (by have:=au HBX5.out;simp;omega) (fun e=>jD HX5.out.rD HBX5.out (by decide) e.symm)).trans ((((ae w5.heap.size w5).alloc (af _) _).block xb (au HBX5.out)).trans HBX5.out);have kc:wa.cell? ⟨xb,6,none⟩=some (.slice Ad x.ds.length cd):=(by rw[ai wa xb 6 _ _ _ hka];rfl);have kf:wa.frozen? ⟨xb,6,none⟩=false:=(by unfold World.frozen?;rw[hka];simp);have HKA:=aa hka;have HOW:=aa hown;have HGR:=aa hgrow;have HAT:=aa hat;obtain⟨A1,c1,rfl,_,_⟩:=aP hown;clear hka hown hgrow hat k6 k7)
   |fail)
  have HEND:Hid (eJ B rb xb st vn vo vd vt ys x r3 (x.ds++[⟨L,V⟩]) x.ats w (wa.setCell ⟨xb,6,none⟩ (.slice A1 (x.ds.length+1) c1))):=by
   have hoth:∀b,b<w5.heap.size->((.slice Ad x.ds.length cd):Value).ownBlock≠some b->wa.heap[b]? = w5.heap[b]?:=fun b hb hne=>by
    rw[HGR.out.block b (by simp;omega) (fun e=>hne e.symm)]
    exact((ae w5.heap.size w5).alloc (af _) _).block b hb
   have hs:w5.heap.size<=wa.heap.size:=by have:=HGR.out.size;simp at this;omega
   obtain⟨g1,g2⟩:=tm H5.out HX5.out hs hoth (by
    rcases HAT.out with h1|h1
    ·exact .inl h1
    ·exact .inr (fun b hb=>by
      rw[h1]at hb;simp only[al]at hb;rw[<-hb];simp)) HOW.out
   have hnode:∀{e s n:Nat} {v:Value} {xs:List Value},e≠42->wa.ownsRow B e s v n xs->(wa.setCell ⟨xb,6,none⟩ (.slice A1 (x.ds.length+1) c1)).ownsRow B e s v n xs:=fun {e s n v xs} he hh=>aR hh (fun b _ ⟨cs,hc⟩=>ao _ _ _ _ (br hc HKA.out he));refine⟨g1.setNode HKA.out HNX.out,((HB5.out.alloc hB5 _).grown HGR.out (by simp;omega) (fun q hq=>(HX5.out.rD.lt q hq).1)).setCell (p:=⟨xb,6,none⟩) hBx _,(.slice A1 (x.ds.length+1) c1),(.slice Aa x.ats.length ca),by rw[aL HKA.out];rfl,⟨hnode (by decide) g2.rD,hnode (by decide) g2.rA,g2.dd,g2.yd,g2.ya⟩⟩
  clear HKA HOW HGR HAT kc kf;go_ret;exact⟨rfl,HEND.out⟩
end Go.Proofs.YteinegfbpfhflaaGreatDoor
