/-
  parse.reader: mark of an attribute, by what its calls answer. Conditions: the reader and the element lie as they are; nothing is too long; the tables lie as they are laid.
  name.Split: a full name's prefix and local name. Conditions: the tables lie as they are laid; the text is not too long.
  parse.reader: mark, as a function of what stands there. Conditions: the reader and the element lie as they are; nothing is too long; the tables lie as they are laid; upTo answers so.
-/
import Derived.Test.YteinegfbpfhflaaGreatDoorM28
import Derived.Test.YteinegfbpfhflaaGreatDoorM08
import Derived.Test.YteinegfbpfhflaaGreatDoorM10
namespace Go.Proofs.YteinegfbpfhflaaGreatDoor
open Go.RowKit
set_option linter.unusedVariables false
set_option maxRecDepth 100000
set_option maxHeartbeats 16000000
theorem AB(w:World)(B rb xb:Nat)(st:Rd)(vn vo vd vt vD vA:Value)(ys:List Ny)(x:Nd)(P L Sq V:ByteArray)(found okv:Bool)(r1 r2 r3:List UInt8)(h:eH w B rb st vn vo vd vt ys)(hbx:w.heap[xb]? = some (.cells #[.int .i64 x.k,.int .i64 x.n,.string x.p,.string x.l,.string x.u,.string x.t,vD,vA] 42 (0,0)))(hx:gR w B ys vd vD vA x.ds x.ats)(hBx:B<=xb)(hnx:vn.ownBlock≠some xb)(hxd:x.ds.length<=100000)(hxa:x.ats.length<=100000)(hB : 8<=B)(hW:Wd w)
 (HUP:Hid (Calls Tryz.prog 129 #[.pointer (some ⟨rb,0,none⟩),.string ⟨#[32,9,10,61,47,62]⟩] w fun r w'=>r=.returned (.string Sq)/\dK rb (ba r1) w w'))
 (HSP:Hid (∀w',Wd w'->Calls Tryz.prog 132 #[.string Sq] w' fun e w''=>e=.returned (.tuple #[.string P,.string L,.bool true])/\Below w'.heap.size w' w''))
 (HEQ:Hid (∀w',aG w' rb (ba r1)->Calls Tryz.prog 123 #[.pointer (some ⟨rb,0,none⟩)] w' fun e w''=>e=.returned (.bool true)/\dK rb (ba r2) w' w''))
 (S2:ByteArray) (HQU:Hid (∀w',aG w' rb (ba r2)->cD w'->Calls Tryz.prog 124 #[.pointer (some ⟨rb,0,none⟩)] w' fun e w''=>e=.returned (.tuple #[.string S2,.bool found])/\dK rb (ba r3) w' w''))
 (HVA:Hid (∀w',Wd w'->Calls Tryz.prog 172 #[.string S2] w' fun e w''=>e=.returned (.tuple #[.string V,.bool okv])/\Below w'.heap.size w' w''))
 (hP:P.data.toList≠[120,109,108,110,115]) (hE:P.data.toList=[]) (hL:L.data.toList≠[120,109,108,110,115]) :
 Calls Tryz.prog 134 #[.pointer (some ⟨rb,0,none⟩),.pointer (some ⟨xb,0,none⟩)] w fun e w'=>e=.returned (.bool (found&&okv))/\eJ B rb xb st vn vo vd vt ys x r3 x.ds (x.ats++[⟨P,L,⟨#[]⟩,V⟩]) w w':=by
 have hBs:B<=w.heap.size:=ag h.lo (be (au h.box));obtain⟨Ad,cd,rfl,_,_⟩:=aP hx.rD;obtain⟨Aa,ca,rfl,_,_⟩:=aP hx.rA;have H:=aa h;have HX:=aa hx;have HBX:=aa hbx;have HW:=aa hW;have HNX:=aa hnx;have HXK:Hid (∀w1,(∀b,b<w.heap.size->b≠rb->w1.heap[b]? = w.heap[b]?)->gR w1 B ys vd (.slice Ad x.ds.length cd) (.slice Aa x.ats.length ca) x.ds x.ats/\w1.heap[xb]? = some (.cells #[.int .i64 x.k,.int .i64 x.n,.string x.p,.string x.l,.string x.u,.string x.t,.slice Ad x.ds.length cd,.slice Aa x.ats.length ca] 42 (0,0))):=fun w1 hk=>⟨⟨aR hx.rD (fun b _ ⟨cs,hc⟩=>hk b (au hc) (br hc h.box (by decide))),aR hx.rA (fun b _ ⟨cs,hc⟩=>hk b (au hc) (br hc h.box (by decide))),hx.dd,hx.yd,hx.ya⟩,(hk xb (au hbx) (br hbx h.box (by decide))).trans hbx⟩
 have tp:(P.toList == [120,109,108,110,115])=false:=by rw[aq,ak];exact hP
 have te:P.toList.isEmpty=true:=by rw[aq,hE];rfl
 have tl:(L.toList == [120,109,108,110,115])=false:=by rw[aq,ak];exact hL
 clear hP hE hL;clear h hx hbx hW hnx;go_enter Tryz.func134,Tryz.ntmps134
 go_wp2_with fail
 refine HUP.out.mono ?_;rintro e w1⟨rfl,hc1⟩;have H1:=aa (H.out.cur hc1);have HB1:=aa (hc1.below H.out.lo hBs);have HK1:Hid (∀b,b<w.heap.size->b≠rb->w1.heap[b]? = w.heap[b]?):=hc1.other;clear hc1
 go_wp2_with fail
 refine(HSP.out w1 (HW.out.low hB HB1.out)).mono ?_;rintro e w2⟨rfl,hb2⟩;have H2:=aa (H1.out.below hb2);have HB2:=aa (HB1.out.trans (hb2.mono (ag hBs HB1.out.size)));have HK2:Hid (∀b,b<w.heap.size->b≠rb->w2.heap[b]? = w.heap[b]?):=fun b h1 h2=>(hb2.block b (a8 h1 HB1.out.size)).trans (HK1.out b h1 h2);clear hb2
 go_wp2_with fail
 refine(HEQ.out w2 H2.out.curAt).mono ?_;rintro e w3⟨rfl,hc3⟩;have H3:=aa (H2.out.cur hc3);have HB3:=aa (HB2.out.trans (hc3.below H.out.lo (ag hBs HB2.out.size)));have HK3:Hid (∀b,b<w.heap.size->b≠rb->w3.heap[b]? = w.heap[b]?):=fun b h1 h2=>(hc3.other b (a8 h1 HB2.out.size) h2).trans (HK2.out b h1 h2);clear hc3
 go_wp2_with fail
 refine(HQU.out w3 H3.out.curAt (HW.out.low hB HB3.out).max).mono ?_;rintro e w4⟨rfl,hc4⟩;have H4:=aa (H3.out.cur hc4);have HB4:=aa (HB3.out.trans (hc4.below H.out.lo (ag hBs HB3.out.size)));have HK4:Hid (∀b,b<w.heap.size->b≠rb->w4.heap[b]? = w.heap[b]?):=fun b h1 h2=>(hc4.other b (a8 h1 HB3.out.size) h2).trans (HK3.out b h1 h2);clear hc4
 go_wp2_with fail
 refine(HVA.out w4 (HW.out.low hB HB4.out)).mono ?_;rintro e w5⟨rfl,hb5⟩;have H5:=aa (H4.out.below hb5);have HB5:=aa (HB4.out.trans (hb5.mono (ag hBs HB4.out.size)));have hk5:∀b,b<w.heap.size->b≠rb->w5.heap[b]? = w.heap[b]?:=fun b h1 h2=>(hb5.block b (a8 h1 HB4.out.size)).trans (HK4.out b h1 h2);obtain⟨hx5,hbx5⟩:=HXK.out w5 hk5;have HX5:=aa hx5;have HBX5:=aa hbx5;have hB5:B<=w5.heap.size:=ag hBs HB5.out.size;have k6:w5.cell? ⟨xb,6,none⟩=some (.slice Ad x.ds.length cd):=by rw[ai w5 xb 6 _ _ _ hbx5];rfl
 have k7:w5.cell? ⟨xb,7,none⟩=some (.slice Aa x.ats.length ca):=by rw[ai w5 xb 7 _ _ _ hbx5];rfl
 clear hb5 hk5 hx5 hbx5;cases found with
 |false =>
  go_wp2_with (first
   |(at_builtin;refine ku rfl (.tmp 45) (.tmp 50) rfl B (.slice Aa x.ats.length ca) x.ats rfl (HX5.out.rA.alloc _) w5.heap.size ⟨P,L,⟨#[]⟩,V⟩ rfl (ar w5 _) (by omega) (by simp;omega) ?_;intro v1 wa hown hgrow hat;have hka:=(hgrow.block xb (by have:=au HBX5.out;simp;omega) (fun e=>jD HX5.out.rA HBX5.out (by decide) e.symm)).trans ((((ae w5.heap.size w5).alloc (af _) _).block xb (au HBX5.out)).trans HBX5.out);have kc:wa.cell? ⟨xb,7,none⟩=some (.slice Aa x.ats.length ca):=(by rw[ai wa xb 7 _ _ _ hka];rfl);have kf:wa.frozen? ⟨xb,7,none⟩=false:=(by unfold World.frozen?;rw[hka];simp);have HKA:=aa hka;have HOW:=aa hown;have HGR:=aa hgrow;have HAT:=aa hat;obtain⟨A1,c1,rfl,_,_⟩:=aP hown;clear hka hown hgrow hat k6 k7)
   |fail)
  have HEND:Hid (eJ B rb xb st vn vo vd vt ys x r3 x.ds (x.ats++[⟨P,L,⟨#[]⟩,V⟩]) w (wa.setCell ⟨xb,7,none⟩ (.slice A1 (x.ats.length+1) c1))):=by
   have hoth:∀b,b<w5.heap.size->((.slice Aa x.ats.length ca):Value).ownBlock≠some b->wa.heap[b]? = w5.heap[b]?:=fun b hb hne=>by
    rw[HGR.out.block b (by simp;omega) (fun e=>hne e.symm)]
    exact((ae w5.heap.size w5).alloc (af _) _).block b hb
   have hs:w5.heap.size<=wa.heap.size:=by have:=HGR.out.size;simp at this;omega
   obtain⟨g1,g2⟩:=tn H5.out HX5.out hs hoth (by
    rcases HAT.out with h1|h1
    ·exact .inl h1
    ·exact .inr (fun b hb=>by
      rw[h1]at hb;simp only[al]at hb;rw[<-hb];simp)) HOW.out
   have hnode:∀{e s n:Nat} {v:Value} {xs:List Value},e≠42->wa.ownsRow B e s v n xs->(wa.setCell ⟨xb,7,none⟩ (.slice A1 (x.ats.length+1) c1)).ownsRow B e s v n xs:=fun {e s n v xs} he hh=>aR hh (fun b _ ⟨cs,hc⟩=>ao _ _ _ _ (br hc HKA.out he));refine⟨g1.setNode HKA.out HNX.out,((HB5.out.alloc hB5 _).grown HGR.out (by simp;omega) (fun q hq=>(HX5.out.rA.lt q hq).1)).setCell (p:=⟨xb,7,none⟩) hBx _,(.slice Ad x.ds.length cd),(.slice A1 (x.ats.length+1) c1),by rw[aL HKA.out];rfl,⟨hnode (by decide) g2.rD,hnode (by decide) g2.rA,g2.dd,g2.yd,g2.ya⟩⟩
  clear HKA HOW HGR HAT kc kf;go_ret;exact⟨rfl,HEND.out⟩
 |true =>
  go_wp2_with (first
   |(at_builtin;refine ku rfl (.tmp 45) (.tmp 50) rfl B (.slice Aa x.ats.length ca) x.ats rfl (HX5.out.rA.alloc _) w5.heap.size ⟨P,L,⟨#[]⟩,V⟩ rfl (ar w5 _) (by omega) (by simp;omega) ?_;intro v1 wa hown hgrow hat;have hka:=(hgrow.block xb (by have:=au HBX5.out;simp;omega) (fun e=>jD HX5.out.rA HBX5.out (by decide) e.symm)).trans ((((ae w5.heap.size w5).alloc (af _) _).block xb (au HBX5.out)).trans HBX5.out);have kc:wa.cell? ⟨xb,7,none⟩=some (.slice Aa x.ats.length ca):=(by rw[ai wa xb 7 _ _ _ hka];rfl);have kf:wa.frozen? ⟨xb,7,none⟩=false:=(by unfold World.frozen?;rw[hka];simp);have HKA:=aa hka;have HOW:=aa hown;have HGR:=aa hgrow;have HAT:=aa hat;obtain⟨A1,c1,rfl,_,_⟩:=aP hown;clear hka hown hgrow hat k6 k7)
   |fail)
  have HEND:Hid (eJ B rb xb st vn vo vd vt ys x r3 x.ds (x.ats++[⟨P,L,⟨#[]⟩,V⟩]) w (wa.setCell ⟨xb,7,none⟩ (.slice A1 (x.ats.length+1) c1))):=by
   have hoth:∀b,b<w5.heap.size->((.slice Aa x.ats.length ca):Value).ownBlock≠some b->wa.heap[b]? = w5.heap[b]?:=fun b hb hne=>by
    rw[HGR.out.block b (by simp;omega) (fun e=>hne e.symm)]
    exact((ae w5.heap.size w5).alloc (af _) _).block b hb
   have hs:w5.heap.size<=wa.heap.size:=by have:=HGR.out.size;simp at this;omega
   obtain⟨g1,g2⟩:=tn H5.out HX5.out hs hoth (by
    rcases HAT.out with h1|h1
    ·exact .inl h1
    ·exact .inr (fun b hb=>by
      rw[h1]at hb;simp only[al]at hb;rw[<-hb];simp)) HOW.out
   have hnode:∀{e s n:Nat} {v:Value} {xs:List Value},e≠42->wa.ownsRow B e s v n xs->(wa.setCell ⟨xb,7,none⟩ (.slice A1 (x.ats.length+1) c1)).ownsRow B e s v n xs:=fun {e s n v xs} he hh=>aR hh (fun b _ ⟨cs,hc⟩=>ao _ _ _ _ (br hc HKA.out he));refine⟨g1.setNode HKA.out HNX.out,((HB5.out.alloc hB5 _).grown HGR.out (by simp;omega) (fun q hq=>(HX5.out.rA.lt q hq).1)).setCell (p:=⟨xb,7,none⟩) hBx _,(.slice Ad x.ds.length cd),(.slice A1 (x.ats.length+1) c1),by rw[aL HKA.out];rfl,⟨hnode (by decide) g2.rD,hnode (by decide) g2.rA,g2.dd,g2.yd,g2.ya⟩⟩
  clear HKA HOW HGR HAT kc kf;go_ret;exact⟨rfl,HEND.out⟩
theorem AD(w:World)(B rb xb:Nat)(st:Rd)(vn vo vd vt vD vA:Value)(ys:List Ny)(x:Nd)(P L Sq V:ByteArray)(found okv:Bool)(r1 r2 r3:List UInt8)(h:eH w B rb st vn vo vd vt ys)(hbx:w.heap[xb]? = some (.cells #[.int .i64 x.k,.int .i64 x.n,.string x.p,.string x.l,.string x.u,.string x.t,vD,vA] 42 (0,0)))(hx:gR w B ys vd vD vA x.ds x.ats)(hBx:B<=xb)(hnx:vn.ownBlock≠some xb)(hxd:x.ds.length<=100000)(hxa:x.ats.length<=100000)(hB : 8<=B)(hW:Wd w)
 (HUP:Hid (Calls Tryz.prog 129 #[.pointer (some ⟨rb,0,none⟩),.string ⟨#[32,9,10,61,47,62]⟩] w fun r w'=>r=.returned (.string Sq)/\dK rb (ba r1) w w'))
 (HSP:Hid (∀w',Wd w'->Calls Tryz.prog 132 #[.string Sq] w' fun e w''=>e=.returned (.tuple #[.string P,.string L,.bool true])/\Below w'.heap.size w' w''))
 (HEQ:Hid (∀w',aG w' rb (ba r1)->Calls Tryz.prog 123 #[.pointer (some ⟨rb,0,none⟩)] w' fun e w''=>e=.returned (.bool true)/\dK rb (ba r2) w' w''))
 (S2:ByteArray) (HQU:Hid (∀w',aG w' rb (ba r2)->cD w'->Calls Tryz.prog 124 #[.pointer (some ⟨rb,0,none⟩)] w' fun e w''=>e=.returned (.tuple #[.string S2,.bool found])/\dK rb (ba r3) w' w''))
 (HVA:Hid (∀w',Wd w'->Calls Tryz.prog 172 #[.string S2] w' fun e w''=>e=.returned (.tuple #[.string V,.bool okv])/\Below w'.heap.size w' w''))
 (hP:P.data.toList≠[120,109,108,110,115]) (hE:P.data.toList≠[]) :
 Calls Tryz.prog 134 #[.pointer (some ⟨rb,0,none⟩),.pointer (some ⟨xb,0,none⟩)] w fun e w'=>e=.returned (.bool (found&&okv))/\eJ B rb xb st vn vo vd vt ys x r3 x.ds (x.ats++[⟨P,L,⟨#[]⟩,V⟩]) w w':=by
 have hBs:B<=w.heap.size:=ag h.lo (be (au h.box));obtain⟨Ad,cd,rfl,_,_⟩:=aP hx.rD;obtain⟨Aa,ca,rfl,_,_⟩:=aP hx.rA;have H:=aa h;have HX:=aa hx;have HBX:=aa hbx;have HW:=aa hW;have HNX:=aa hnx;have HXK:Hid (∀w1,(∀b,b<w.heap.size->b≠rb->w1.heap[b]? = w.heap[b]?)->gR w1 B ys vd (.slice Ad x.ds.length cd) (.slice Aa x.ats.length ca) x.ds x.ats/\w1.heap[xb]? = some (.cells #[.int .i64 x.k,.int .i64 x.n,.string x.p,.string x.l,.string x.u,.string x.t,.slice Ad x.ds.length cd,.slice Aa x.ats.length ca] 42 (0,0))):=fun w1 hk=>⟨⟨aR hx.rD (fun b _ ⟨cs,hc⟩=>hk b (au hc) (br hc h.box (by decide))),aR hx.rA (fun b _ ⟨cs,hc⟩=>hk b (au hc) (br hc h.box (by decide))),hx.dd,hx.yd,hx.ya⟩,(hk xb (au hbx) (br hbx h.box (by decide))).trans hbx⟩
 have tp:(P.toList == [120,109,108,110,115])=false:=by rw[aq,ak];exact hP
 have te:P.toList.isEmpty=false:=by
  rw[aq];cases hq:P.data.toList with
  |nil=>exact absurd hq hE
  |cons c t=>rfl
 clear hP hE;clear h hx hbx hW hnx;go_enter Tryz.func134,Tryz.ntmps134
 go_wp2_with fail
 refine HUP.out.mono ?_;rintro e w1⟨rfl,hc1⟩;have H1:=aa (H.out.cur hc1);have HB1:=aa (hc1.below H.out.lo hBs);have HK1:Hid (∀b,b<w.heap.size->b≠rb->w1.heap[b]? = w.heap[b]?):=hc1.other;clear hc1
 go_wp2_with fail
 refine(HSP.out w1 (HW.out.low hB HB1.out)).mono ?_;rintro e w2⟨rfl,hb2⟩;have H2:=aa (H1.out.below hb2);have HB2:=aa (HB1.out.trans (hb2.mono (ag hBs HB1.out.size)));have HK2:Hid (∀b,b<w.heap.size->b≠rb->w2.heap[b]? = w.heap[b]?):=fun b h1 h2=>(hb2.block b (a8 h1 HB1.out.size)).trans (HK1.out b h1 h2);clear hb2
 go_wp2_with fail
 refine(HEQ.out w2 H2.out.curAt).mono ?_;rintro e w3⟨rfl,hc3⟩;have H3:=aa (H2.out.cur hc3);have HB3:=aa (HB2.out.trans (hc3.below H.out.lo (ag hBs HB2.out.size)));have HK3:Hid (∀b,b<w.heap.size->b≠rb->w3.heap[b]? = w.heap[b]?):=fun b h1 h2=>(hc3.other b (a8 h1 HB2.out.size) h2).trans (HK2.out b h1 h2);clear hc3
 go_wp2_with fail
 refine(HQU.out w3 H3.out.curAt (HW.out.low hB HB3.out).max).mono ?_;rintro e w4⟨rfl,hc4⟩;have H4:=aa (H3.out.cur hc4);have HB4:=aa (HB3.out.trans (hc4.below H.out.lo (ag hBs HB3.out.size)));have HK4:Hid (∀b,b<w.heap.size->b≠rb->w4.heap[b]? = w.heap[b]?):=fun b h1 h2=>(hc4.other b (a8 h1 HB3.out.size) h2).trans (HK3.out b h1 h2);clear hc4
 go_wp2_with fail
 refine(HVA.out w4 (HW.out.low hB HB4.out)).mono ?_;rintro e w5⟨rfl,hb5⟩;have H5:=aa (H4.out.below hb5);have HB5:=aa (HB4.out.trans (hb5.mono (ag hBs HB4.out.size)));have hk5:∀b,b<w.heap.size->b≠rb->w5.heap[b]? = w.heap[b]?:=fun b h1 h2=>(hb5.block b (a8 h1 HB4.out.size)).trans (HK4.out b h1 h2);obtain⟨hx5,hbx5⟩:=HXK.out w5 hk5;have HX5:=aa hx5;have HBX5:=aa hbx5;have hB5:B<=w5.heap.size:=ag hBs HB5.out.size;have k6:w5.cell? ⟨xb,6,none⟩=some (.slice Ad x.ds.length cd):=by rw[ai w5 xb 6 _ _ _ hbx5];rfl
 have k7:w5.cell? ⟨xb,7,none⟩=some (.slice Aa x.ats.length ca):=by rw[ai w5 xb 7 _ _ _ hbx5];rfl
 clear hb5 hk5 hx5 hbx5;cases found with
 |false =>
  go_wp2_with (first
   |(at_builtin;refine ku rfl (.tmp 45) (.tmp 50) rfl B (.slice Aa x.ats.length ca) x.ats rfl (HX5.out.rA.alloc _) w5.heap.size ⟨P,L,⟨#[]⟩,V⟩ rfl (ar w5 _) (by omega) (by simp;omega) ?_;intro v1 wa hown hgrow hat;have hka:=(hgrow.block xb (by have:=au HBX5.out;simp;omega) (fun e=>jD HX5.out.rA HBX5.out (by decide) e.symm)).trans ((((ae w5.heap.size w5).alloc (af _) _).block xb (au HBX5.out)).trans HBX5.out);have kc:wa.cell? ⟨xb,7,none⟩=some (.slice Aa x.ats.length ca):=(by rw[ai wa xb 7 _ _ _ hka];rfl);have kf:wa.frozen? ⟨xb,7,none⟩=false:=(by unfold World.frozen?;rw[hka];simp);have HKA:=aa hka;have HOW:=aa hown;have HGR:=aa hgrow;have HAT:=aa hat;obtain⟨A1,c1,rfl,_,_⟩:=aP hown;clear hka hown hgrow hat k6 k7)
   |fail)
  have HEND:Hid (eJ B rb xb st vn vo vd vt ys x r3 x.ds (x.ats++[⟨P,L,⟨#[]⟩,V⟩]) w (wa.setCell ⟨xb,7,none⟩ (.slice A1 (x.ats.length+1) c1))):=by
   have hoth:∀b,b<w5.heap.size->((.slice Aa x.ats.length ca):Value).ownBlock≠some b->wa.heap[b]? = w5.heap[b]?:=fun b hb hne=>by
    rw[HGR.out.block b (by simp;omega) (fun e=>hne e.symm)]
    exact((ae w5.heap.size w5).alloc (af _) _).block b hb
   have hs:w5.heap.size<=wa.heap.size:=by have:=HGR.out.size;simp at this;omega
   obtain⟨g1,g2⟩:=tn H5.out HX5.out hs hoth (by
    rcases HAT.out with h1|h1
    ·exact .inl h1
    ·exact .inr (fun b hb=>by
      rw[h1]at hb;simp only[al]at hb;rw[<-hb];simp)) HOW.out
   have hnode:∀{e s n:Nat} {v:Value} {xs:List Value},e≠42->wa.ownsRow B e s v n xs->(wa.setCell ⟨xb,7,none⟩ (.slice A1 (x.ats.length+1) c1)).ownsRow B e s v n xs:=fun {e s n v xs} he hh=>aR hh (fun b _ ⟨cs,hc⟩=>ao _ _ _ _ (br hc HKA.out he));refine⟨g1.setNode HKA.out HNX.out,((HB5.out.alloc hB5 _).grown HGR.out (by simp;omega) (fun q hq=>(HX5.out.rA.lt q hq).1)).setCell (p:=⟨xb,7,none⟩) hBx _,(.slice Ad x.ds.length cd),(.slice A1 (x.ats.length+1) c1),by rw[aL HKA.out];rfl,⟨hnode (by decide) g2.rD,hnode (by decide) g2.rA,g2.dd,g2.yd,g2.ya⟩⟩
  clear HKA HOW HGR HAT kc kf;go_ret;exact⟨rfl,HEND.out⟩
 |true =>
  go_wp2_with (first
   |(at_builtin;refine ku rfl (.tmp 45) (.tmp 50) rfl B (.slice Aa x.ats.length ca) x.ats rfl (HX5.out.rA.alloc _) w5.heap.size ⟨P,L,⟨#[]⟩,V⟩ rfl (ar w5 _) (by omega) (by simp;omega) ?_;intro v1 wa hown hgrow hat;have hka:=(hgrow.block xb (by have:=au HBX5.out;simp;omega) (fun e=>jD HX5.out.rA HBX5.out (by decide) e.symm)).trans ((((ae w5.heap.size w5).alloc (af _) _).block xb (au HBX5.out)).trans HBX5.out);have kc:wa.cell? ⟨xb,7,none⟩=some (.slice Aa x.ats.length ca):=(by rw[ai wa xb 7 _ _ _ hka];rfl);have kf:wa.frozen? ⟨xb,7,none⟩=false:=(by unfold World.frozen?;rw[hka];simp);have HKA:=aa hka;have HOW:=aa hown;have HGR:=aa hgrow;have HAT:=aa hat;obtain⟨A1,c1,rfl,_,_⟩:=aP hown;clear hka hown hgrow hat k6 k7)
   |fail)
  have HEND:Hid (eJ B rb xb st vn vo vd vt ys x r3 x.ds (x.ats++[⟨P,L,⟨#[]⟩,V⟩]) w (wa.setCell ⟨xb,7,none⟩ (.slice A1 (x.ats.length+1) c1))):=by
   have hoth:∀b,b<w5.heap.size->((.slice Aa x.ats.length ca):Value).ownBlock≠some b->wa.heap[b]? = w5.heap[b]?:=fun b hb hne=>by
    rw[HGR.out.block b (by simp;omega) (fun e=>hne e.symm)]
    exact((ae w5.heap.size w5).alloc (af _) _).block b hb
   have hs:w5.heap.size<=wa.heap.size:=by have:=HGR.out.size;simp at this;omega
   obtain⟨g1,g2⟩:=tn H5.out HX5.out hs hoth (by
    rcases HAT.out with h1|h1
    ·exact .inl h1
    ·exact .inr (fun b hb=>by
      rw[h1]at hb;simp only[al]at hb;rw[<-hb];simp)) HOW.out
   have hnode:∀{e s n:Nat} {v:Value} {xs:List Value},e≠42->wa.ownsRow B e s v n xs->(wa.setCell ⟨xb,7,none⟩ (.slice A1 (x.ats.length+1) c1)).ownsRow B e s v n xs:=fun {e s n v xs} he hh=>aR hh (fun b _ ⟨cs,hc⟩=>ao _ _ _ _ (br hc HKA.out he));refine⟨g1.setNode HKA.out HNX.out,((HB5.out.alloc hB5 _).grown HGR.out (by simp;omega) (fun q hq=>(HX5.out.rA.lt q hq).1)).setCell (p:=⟨xb,7,none⟩) hBx _,(.slice Ad x.ds.length cd),(.slice A1 (x.ats.length+1) c1),by rw[aL HKA.out];rfl,⟨hnode (by decide) g2.rD,hnode (by decide) g2.rA,g2.dd,g2.yd,g2.ya⟩⟩
  clear HKA HOW HGR HAT kc kf;go_ret;exact⟨rfl,HEND.out⟩
def DU(S:ByteArray)(e:Ending):Prop :=
 (∃P L:ByteArray,lh S.data.toList P.data.toList L.data.toList/\P.size<=S.size/\L.size<=S.size/\e=.returned (.tuple #[.string P,.string L,.bool true]))∨((∀p l,¬lh S.data.toList p l)/\e=.returned (.tuple #[.string ⟨#[]⟩,.string ⟨#[]⟩,.bool false]))
theorem qV(S:ByteArray)(hlen:S.size<=100000)(w:World)(hT:kz w):Calls Tryz.prog 132 #[.string S] w fun e w'=>DU S e/\Below w.heap.size w w':=by
 have h5:=hT.five;have HT:=aa hT;have HC:=aa (oI 58 S (by omega) w)
 clear hT;go_enter Tryz.func132,Tryz.ntmps132
 go_wp2_with fail
 refine HC.out.mono ?_;rintro e w1⟨⟨hno,rfl⟩|⟨P,R,hs,hno,rfl⟩,hb1⟩
 ·have HNO:=aa hno
  have hs1:=hb1.size;have HIS:=aa (lz S (by omega) w1 (HT.out.below h5 hb1))
  clear hno HC;cases hq:xu S.data.toList with
  |false =>
   rw[hq]at HIS;have HQ:=aa hq;clear hq
   go_wp2_with fail
   refine HIS.out.mono ?_;rintro e w2⟨rfl,hb2⟩;have hbf:=hb1.trans (hb2.mono hs1);go_wp2
   go_ret3
   refine⟨.inr ⟨fun p l h => ?_,rfl⟩,hbf⟩;have:=kL ((lC HNO.out).1 h).2.2;rw[HQ.out]at this;cases this
  |true =>
   rw[hq]at HIS;have HQ:=aa hq;clear hq
   go_wp2_with fail
   refine HIS.out.mono ?_;rintro e w2⟨rfl,hb2⟩;have hbf:=hb1.trans (hb2.mono hs1)
   go_wp2_with fail
   refine(dE ⟨#[]⟩ (by show(0:Nat)<=_;omega) _).mono ?_
   rintro e w3⟨rfl,hb3⟩;have hbg:=hbf.trans (hb3.mono hbf.size)
   go_wp2_with fail
   refine(dE S (by omega) _).mono ?_
   rintro e w4⟨rfl,hb4⟩;have hbh:=hbg.trans (hb4.mono hbg.size);go_wp2
   go_ret3
   exact⟨.inl ⟨⟨#[]⟩,S,.inl ⟨rfl,rfl,lY.1 HQ.out⟩,aM _,af _,rfl⟩,hbh⟩
 ·have HNO:=aa hno
  have HS:=aa hs;have hs1:=hb1.size;have hPR:P.size+1+R.size=S.size:=by rw[aF,aF,aF,hs];simp;omega
  have HIP:=aa (lz P (by omega) w1 (HT.out.below h5 hb1))
  clear hno hs HC;cases hp:xu P.data.toList with
  |false =>
   rw[hp]at HIP;have HQ:=aa hp;clear hp
   go_wp2_with fail
   refine HIP.out.mono ?_;rintro e w2⟨rfl,hb2⟩;have hbf:=hb1.trans (hb2.mono hs1);go_wp2
   go_ret3
   refine⟨.inr ⟨fun p l h => ?_,rfl⟩,hbf⟩;rw[HS.out]at h;have:=kL ((km HNO.out).1 h).2.2.1;rw[HQ.out]at this;cases this
  |true =>
   rw[hp]at HIP;have HP:=aa hp;clear hp
   go_wp2_with fail
   refine HIP.out.mono ?_;rintro e w2⟨rfl,hb2⟩;have hbf:=hb1.trans (hb2.mono hs1);have HIR:=aa (lz R (by omega) w2 (HT.out.below h5 hbf))
   clear HIP;cases hq:xu R.data.toList with
   |false =>
    rw[hq]at HIR;have HQ:=aa hq;clear hq
    go_wp2_with fail
    refine HIR.out.mono ?_;rintro e w3⟨rfl,hb3⟩;have hbg:=hbf.trans (hb3.mono hbf.size);go_wp2
    go_ret3
    refine⟨.inr ⟨fun p l h => ?_,rfl⟩,hbg⟩;rw[HS.out]at h;have:=kL ((km HNO.out).1 h).2.2.2;rw[HQ.out]at this;cases this
   |true =>
    rw[hq]at HIR;have HQ:=aa hq;clear hq
    go_wp2_with fail
    refine HIR.out.mono ?_;rintro e w3⟨rfl,hb3⟩;have hbg:=hbf.trans (hb3.mono hbf.size)
    go_wp2_with fail
    refine(dE P (by omega) _).mono ?_
    rintro e w4⟨rfl,hb4⟩;have hbh:=hbg.trans (hb4.mono hbg.size)
    go_wp2_with fail
    refine(dE R (by omega) _).mono ?_
    rintro e w5⟨rfl,hb5⟩;have hbi:=hbh.trans (hb5.mono hbh.size);go_wp2
    go_ret3
    exact⟨.inl ⟨P,R,by rw[HS.out];exact(km HNO.out).2 ⟨rfl,rfl,lY.1 HP.out,lY.1 HQ.out⟩,by omega,by omega,rfl⟩,hbi⟩
theorem vx{s p l p' l':List UInt8}(h:lh s p l)(h':lh s p' l'):p=p'/\l=l':=by
 by_cases h58:(58:UInt8)∈s
 ·obtain⟨a,b,rfl,ha⟩ : ∃a b,s=a++58::b/\(58:UInt8)∉a:=by
   have key:∀s:List UInt8,(58:UInt8)∈s->∃a b,s=a++58::b/\(58:UInt8)∉a:=fun s=>by
    induction s with
    |nil=>intro h;cases h
    |cons c r ih =>
     intro h;by_cases hc:c=58
     ·subst hc;exact⟨[],r,rfl,by simp⟩
     ·obtain⟨a,b,e,h2⟩:=ih (by
       rcases aU.1 h with h|h
       ·exact absurd h.symm hc
       ·exact h)
      exact⟨c::a,b,by rw[e];rfl,by simp[h2,Ne.symm hc]⟩
   exact key s h58
  obtain⟨e1,e2,_⟩:=(km ha).1 h;obtain⟨e3,e4,_⟩:=(km ha).1 h';exact⟨e1.trans e3.symm,e2.trans e4.symm⟩
 ·obtain⟨e1,e2,_⟩:=(lC h58).1 h
  obtain⟨e3,e4,_⟩:=(lC h58).1 h';exact⟨e1.trans e3.symm,e2.trans e4.symm⟩
open Classical in
noncomputable def dL(s:List UInt8):Option (List UInt8×List UInt8):=if h:∃q:List UInt8×List UInt8,lh s q.1 q.2 then some h.choose else none
theorem iE{s p l:List UInt8}(h:lh s p l):dL s=some (p,l):=by
 have hx:∃q:List UInt8×List UInt8,lh s q.1 q.2:=⟨(p,l),h⟩;unfold dL;rw[dif_pos hx];have:=vx hx.choose_spec h
 congr 1
 exact Prod.ext this.1 this.2
theorem uy{s:List UInt8}(h:∀p l,¬lh s p l):dL s=none:=by
 unfold dL;rw[dif_neg];rintro⟨q,hq⟩;exact h _ _ hq
theorem ls{s p l:List UInt8}(hs:s.length<=100000)(h:dL s=some (p,l))(w:World)(hW:Wd w):Calls Tryz.prog 132 #[.string (ba s)] w fun e w'=>e=.returned (.tuple #[.string (ba p),.string (ba l),.bool true])/\Below w.heap.size w w' :=
 (qV (ba s) (by rw[cV];omega) w hW.tabs).mono fun e w' ⟨ha,hb⟩=>by
   rcases ha with⟨P,L,hF,_,_,rfl⟩|⟨hN,_⟩
   ·rw[bp]at hF
    have:=iE hF;rw[h]at this;simp only[al,Prod.mk.injEq]at this;exact⟨by rw[this.1,this.2,kZ,kZ],hb⟩
   ·rw[bp]at hN
    rw[uy hN]at h;cases h
theorem ph{s:List UInt8}(hs:s.length<=100000)(h:dL s=none)(w:World)(hW:Wd w):Calls Tryz.prog 132 #[.string (ba s)] w fun e w'=>e=.returned (.tuple #[.string ⟨#[]⟩,.string ⟨#[]⟩,.bool false])/\Below w.heap.size w w' :=
 (qV (ba s) (by rw[cV];omega) w hW.tabs).mono fun e w' ⟨ha,hb⟩=>by
   rcases ha with⟨P,L,hF,_,_,rfl⟩|⟨hN,rfl⟩
   ·rw[bp]at hF
    rw[iE hF]at h;cases h
   ·exact⟨rfl,hb⟩
theorem o0{s y:List UInt8}(hs:s.length<=100000)(h:fA s=some y)(w:World)(hW:Wd w):Calls Tryz.prog 172 #[.string (ba s)] w fun e w'=>e=.returned (.tuple #[.string (ba y),.bool true])/\Below w.heap.size w w' :=
 (qN (ba s) (by rw[cV];omega) w hW).mono fun e w' ⟨ha,hb⟩=>by
   rw[bp,h]at ha;rcases ha with⟨Y,h1,rfl⟩|⟨h1,_⟩
   ·simp only[al]at h1
    exact⟨by rw[h1,kZ],hb⟩
   ·cases h1
theorem o4{s:List UInt8}(hs:s.length<=100000)(h:fA s=none)(w:World)(hW:Wd w):Calls Tryz.prog 172 #[.string (ba s)] w fun e w'=>e=.returned (.tuple #[.string ⟨#[]⟩,.bool false])/\Below w.heap.size w w' :=
 (qN (ba s) (by rw[cV];omega) w hW).mono fun e w' ⟨ha,hb⟩=>by
   rw[bp,h]at ha;rcases ha with⟨Y,h1,_⟩|⟨_,rfl⟩
   ·cases h1
   ·exact⟨rfl,hb⟩
def iM:List UInt8:=[120,109,108,110,115]
def fj(x:Nd)(p l:List UInt8)(v:ByteArray):Nd :=
 if p=[]/\l=iM then { x with ds:=x.ds++[⟨⟨#[]⟩,v⟩] } else if p=iM then { x with ds:=x.ds++[⟨ba l,v⟩] } else { x with ats:=x.ats++[⟨ba p,ba l,⟨#[]⟩,v⟩] }
def bd:List UInt8:=[32,9,10,61,47,62]
noncomputable def eV(s:List UInt8)(x:Nd):Option (List UInt8×Nd) :=
 match dL (cE bd s)with
 |none=>none
 |some (p,l)=>match fe (c9 bd s)with
  |none=>none
  |some r2=>match e9 r2 with
   |none=>none
   |some (q,r3)=>match fA q with
    |none=>none
    |some v=>some (r3,fj x p l (ba v))
theorem gh{s r:List UInt8}(h:fe s=some r):r.length<=s.length:=by
 unfold fe at h;obtain⟨q,hq,rfl⟩:=Option.map_eq_some_iff.1 h;have:=cB q;have:=cx hq;have:=cB s;omega
theorem il{s p r:List UInt8}(h:e9 s=some (p,r)):p.length<=s.length/\r.length<=s.length:=by
 unfold e9 at h;cases h1:aH [39] s with
 |some q =>
  rw[h1]at h;have:=dW h;have:=cx h1;omega
 |none =>
  rw[h1]at h;cases h2:aH [34] s with
  |some q =>
   rw[h2]at h;have:=dW h;have:=cx h2;omega
  |none=>rw[h2]at h;cases h
theorem me(w:World)(B rb xb:Nat)(st:Rd)(vn vo vd vt vD vA:Value)(ys:List Ny)(x:Nd)(p l:List UInt8)(Sq V:ByteArray)(found okv:Bool)(r1 r2 r3:List UInt8)(h:eH w B rb st vn vo vd vt ys)(hbx:w.heap[xb]? = some (.cells #[.int .i64 x.k,.int .i64 x.n,.string x.p,.string x.l,.string x.u,.string x.t,vD,vA] 42 (0,0)))(hx:gR w B ys vd vD vA x.ds x.ats)(hBx:B<=xb)(hnx:vn.ownBlock≠some xb)(hxd:x.ds.length<=100000)(hxa:x.ats.length<=100000)(hB : 8<=B)(hW:Wd w)
 (HUP:Hid (Calls Tryz.prog 129 #[.pointer (some ⟨rb,0,none⟩),.string ⟨#[32,9,10,61,47,62]⟩] w fun r w'=>r=.returned (.string Sq)/\dK rb (ba r1) w w'))
 (HSP:Hid (∀w',Wd w'->Calls Tryz.prog 132 #[.string Sq] w' fun e w''=>e=.returned (.tuple #[.string (ba p),.string (ba l),.bool true])/\Below w'.heap.size w' w''))
 (HEQ:Hid (∀w',aG w' rb (ba r1)->Calls Tryz.prog 123 #[.pointer (some ⟨rb,0,none⟩)] w' fun e w''=>e=.returned (.bool true)/\dK rb (ba r2) w' w''))
 (S2:ByteArray) (HQU:Hid (∀w',aG w' rb (ba r2)->cD w'->Calls Tryz.prog 124 #[.pointer (some ⟨rb,0,none⟩)] w' fun e w''=>e=.returned (.tuple #[.string S2,.bool found])/\dK rb (ba r3) w' w''))
 (HVA:Hid (∀w',Wd w'->Calls Tryz.prog 172 #[.string S2] w' fun e w''=>e=.returned (.tuple #[.string V,.bool okv])/\Below w'.heap.size w' w'')) :
 Calls Tryz.prog 134 #[.pointer (some ⟨rb,0,none⟩),.pointer (some ⟨xb,0,none⟩)] w fun e w'=>e=.returned (.bool (found&&okv))/\eJ B rb xb st vn vo vd vt ys x r3 (fj x p l V).ds (fj x p l V).ats w w':=by
 by_cases h1:p=[]/\l=iM
 ·have e:fj x p l V={ x with ds:=x.ds++[⟨⟨#[]⟩,V⟩] }:=by unfold fj;rw[av h1]
  rw[e];exact Ay w B rb xb st vn vo vd vt vD vA ys x (ba p) (ba l) Sq V found okv r1 r2 r3 h hbx hx hBx hnx hxd hxa hB hW HUP HSP HEQ S2 HQU HVA (by rw[bp];exact h1.1) (by rw[bp];exact h1.2)
 ·by_cases h2:p=iM
  ·have e:fj x p l V={ x with ds:=x.ds++[⟨ba l,V⟩] }:=by unfold fj;rw[am h1,av h2]
   rw[e];exact AA w B rb xb st vn vo vd vt vD vA ys x (ba p) (ba l) Sq V found okv r1 r2 r3 h hbx hx hBx hnx hxd hxa hB hW HUP HSP HEQ S2 HQU HVA (by rw[bp];exact h2)
  ·have e:fj x p l V={ x with ats:=x.ats++[⟨ba p,ba l,⟨#[]⟩,V⟩] }:=by unfold fj;rw[am h1,am h2]
   rw[e];by_cases h3:p=[]
   ·exact AB w B rb xb st vn vo vd vt vD vA ys x (ba p) (ba l) Sq V found okv r1 r2 r3 h hbx hx hBx hnx hxd hxa hB hW HUP HSP HEQ S2 HQU HVA (by rw[bp];exact h2) (by rw[bp];exact h3) (by rw[bp];exact fun h4=>h1 ⟨h3,h4⟩)
   ·exact AD w B rb xb st vn vo vd vt vD vA ys x (ba p) (ba l) Sq V found okv r1 r2 r3 h hbx hx hBx hnx hxd hxa hB hW HUP HSP HEQ S2 HQU HVA (by rw[bp];exact h2) (by rw[bp];exact h3)
end Go.Proofs.YteinegfbpfhflaaGreatDoor
