/-
  parse.reader: mark of an attribute, by what its calls answer. Conditions: the reader and the element lie as they are; nothing is too long; the tables lie as they are laid.
  name.Split: a full name's prefix and local name. Conditions: the tables lie as they are laid; the text is not too long.
  parse.reader: mark, as a function of what stands there. Conditions: the reader and the element lie as they are; nothing is too long; the tables lie as they are laid; upTo answers so.
-/
import Derived.Test.YtlgcigmolfhamaaGreatDoorK28
import Derived.Test.YtlgcigmolfhamaaGreatDoorK08
import Derived.Test.YtlgcigmolfhamaaGreatDoorK10
namespace Go.Proofs.YtlgcigmolfhamaaGreatDoor
open Go.RowKit
set_option linter.unusedVariables false
set_option maxRecDepth 100000
set_option maxHeartbeats 16000000
theorem b4M(w:World)(B rb xb:Nat)(st:Rd)(vn vo vd vt vD vA:Value)(ys:List Ny)(x:Nd)(P L Sq V:ByteArray)(found okv:Bool)(r1 r2 r3:List UInt8)(h:S7 w B rb st vn vo vd vt ys)(E7:w.heap[xb]? = some (.cells #[.int .i64 x.k,.int .i64 x.n,.string x.p,.string x.l,.string x.u,.string x.t,vD,vA] 46 (0,0)))(hx:a0X w B ys vd vD vA x.ds x.ats)(J6:B<=xb)(J7:vn.ownBlock≠some xb)(M2:x.ds.length<=100000)(M3:x.ats.length<=100000)(hB : 8<=B)(hW:Wd w)
 (L2:Hid (Calls Tryz.prog 157 #[.pointer (some ⟨rb,0,none⟩),.string ⟨#[32,9,10,61,47,62]⟩] w fun r w'=>r=.returned (.string Sq)/\N7 rb (ba r1) w w'))
 (L3:Hid (∀w',Wd w'->Calls Tryz.prog 160 #[.string Sq] w' fun e w''=>e=.returned (.tuple #[.string P,.string L,.bool true])/\Below w'.heap.size w' w''))
 (L4:Hid (∀w',n0 w' rb (ba r1)->Calls Tryz.prog 151 #[.pointer (some ⟨rb,0,none⟩)] w' fun e w''=>e=.returned (.bool true)/\N7 rb (ba r2) w' w''))
 (S2:ByteArray) (L5:Hid (∀w',n0 w' rb (ba r2)->I3 w'->Calls Tryz.prog 152 #[.pointer (some ⟨rb,0,none⟩)] w' fun e w''=>e=.returned (.tuple #[.string S2,.bool found])/\N7 rb (ba r3) w' w''))
 (L6:Hid (∀w',Wd w'->Calls Tryz.prog 201 #[.string S2] w' fun e w''=>e=.returned (.tuple #[.string V,.bool okv])/\Below w'.heap.size w' w''))
 (hP:P.data.toList≠[120,109,108,110,115]) (hE:P.data.toList=[]) (hL:L.data.toList≠[120,109,108,110,115]) :
 Calls Tryz.prog 162 #[.pointer (some ⟨rb,0,none⟩),.pointer (some ⟨xb,0,none⟩)] w fun e w'=>e=.returned (.bool (found&&okv))/\T8 B rb xb st vn vo vd vt ys x r3 x.ds (x.ats++[⟨P,L,⟨#[]⟩,V⟩]) w w':=by
 have E6:B<=w.heap.size:=d8 h.lo (A6 (i3 h.box));obtain⟨Ad,cd,rfl,_,_⟩:=q9 hx.rD;obtain⟨Aa,ca,rfl,_,_⟩:=q9 hx.rA;have H:=a8 h;have HX:=a8 hx;have M4:=a8 E7;have HW:=a8 hW;have J8:=a8 J7;have L7:Hid (∀w1,(∀b,b<w.heap.size->b≠rb->w1.heap[b]? = w.heap[b]?)->a0X w1 B ys vd (.slice Ad x.ds.length cd) (.slice Aa x.ats.length ca) x.ds x.ats/\w1.heap[xb]? = some (.cells #[.int .i64 x.k,.int .i64 x.n,.string x.p,.string x.l,.string x.u,.string x.t,.slice Ad x.ds.length cd,.slice Aa x.ats.length ca] 46 (0,0))):=fun w1 hk=>⟨⟨r6 hx.rD (fun b _ ⟨cs,hc⟩=>hk b (i3 hc) (B7 hc h.box (by decide))),r6 hx.rA (fun b _ ⟨cs,hc⟩=>hk b (i3 hc) (B7 hc h.box (by decide))),hx.dd,hx.yd,hx.ya⟩,(hk xb (i3 E7) (B7 E7 h.box (by decide))).trans E7⟩
 have tp:(P.toList == [120,109,108,110,115])=false:=by rw[f9,e9];exact hP
 have te:P.toList.isEmpty=true:=by rw[f9,hE];rfl
 have tl:(L.toList == [120,109,108,110,115])=false:=by rw[f9,e9];exact hL
 clear hP hE hL;clear h hx E7 hW J7;go_enter Tryz.func162,Tryz.ntmps162
 go_wp2_with fail
 refine L2.out.mono ?_;rintro e w1⟨rfl,G4⟩;have H1:=a8 (H.out.cur G4);have G5:=a8 (G4.below H.out.lo E6);have L8:Hid (∀b,b<w.heap.size->b≠rb->w1.heap[b]? = w.heap[b]?):=G4.other;clear G4
 go_wp2_with fail
 refine(L3.out w1 (HW.out.low hB G5.out)).mono ?_;rintro e w2⟨rfl,G6⟩;have H2:=a8 (H1.out.below G6);have J3:=a8 (G5.out.trans (G6.mono (d8 E6 G5.out.size)));have L9:Hid (∀b,b<w.heap.size->b≠rb->w2.heap[b]? = w.heap[b]?):=fun b h1 h2=>(G6.block b (x9 h1 G5.out.size)).trans (L8.out b h1 h2);clear G6
 go_wp2_with fail
 refine(L4.out w2 H2.out.curAt).mono ?_;rintro e w3⟨rfl,G7⟩;have H3:=a8 (H2.out.cur G7);have G8:=a8 (J3.out.trans (G7.below H.out.lo (d8 E6 J3.out.size)));have M0:Hid (∀b,b<w.heap.size->b≠rb->w3.heap[b]? = w.heap[b]?):=fun b h1 h2=>(G7.other b (x9 h1 J3.out.size) h2).trans (L9.out b h1 h2);clear G7
 go_wp2_with fail
 refine(L5.out w3 H3.out.curAt (HW.out.low hB G8.out).max).mono ?_;rintro e w4⟨rfl,G9⟩;have H4:=a8 (H3.out.cur G9);have J1:=a8 (G8.out.trans (G9.below H.out.lo (d8 E6 G8.out.size)));have M1:Hid (∀b,b<w.heap.size->b≠rb->w4.heap[b]? = w.heap[b]?):=fun b h1 h2=>(G9.other b (x9 h1 G8.out.size) h2).trans (M0.out b h1 h2);clear G9
 go_wp2_with fail
 refine(L6.out w4 (HW.out.low hB J1.out)).mono ?_;rintro e w5⟨rfl,J2⟩;have H5:=a8 (H4.out.below J2);have J4:=a8 (J1.out.trans (J2.mono (d8 E6 J1.out.size)));have J9:∀b,b<w.heap.size->b≠rb->w5.heap[b]? = w.heap[b]?:=fun b h1 h2=>(J2.block b (x9 h1 J1.out.size)).trans (M1.out b h1 h2);obtain⟨L0,D9⟩:=L7.out w5 J9;have E3:=a8 L0;have D1:=a8 D9;have L1:B<=w5.heap.size:=d8 E6 J4.out.size;have k6:w5.cell? ⟨xb,6,none⟩=some (.slice Ad x.ds.length cd):=by rw[d9 w5 xb 6 _ _ _ D9];rfl
 have k7:w5.cell? ⟨xb,7,none⟩=some (.slice Aa x.ats.length ca):=by rw[d9 w5 xb 7 _ _ _ D9];rfl
 clear J2 J9 L0 D9;cases found with
 |false =>
  go_wp2_with (first
   |(at_builtin;refine a2V rfl (.tmp 45) (.tmp 50) rfl B (.slice Aa x.ats.length ca) x.ats rfl (E3.out.rA.alloc _) w5.heap.size ⟨P,L,⟨#[]⟩,V⟩ rfl (g9 w5 _) (by omega) (by simp;omega) ?_;intro v1 wa D3 D0 E8;have E0:=(D0.block xb (by have:=i3 D1.out;simp;omega) (fun e=>a2h E3.out.rA D1.out (by decide) e.symm)).trans ((((b8 w5.heap.size w5).alloc (c9 _) _).block xb (i3 D1.out)).trans D1.out);have kc:wa.cell? ⟨xb,7,none⟩=some (.slice Aa x.ats.length ca):=(by rw[d9 wa xb 7 _ _ _ E0];rfl);have kf:wa.frozen? ⟨xb,7,none⟩=false:=(by unfold World.frozen?;rw[E0];simp);have E1:=a8 E0;have G0:=a8 D3;have E2:=a8 D0;have G1:=a8 E8;obtain⟨A1,c1,rfl,_,_⟩:=q9 D3;clear E0 D3 D0 E8 k6 k7)
   |fail)
  have E4:Hid (T8 B rb xb st vn vo vd vt ys x r3 x.ds (x.ats++[⟨P,L,⟨#[]⟩,V⟩]) w (wa.setCell ⟨xb,7,none⟩ (.slice A1 (x.ats.length+1) c1))):=by
   have E5:∀b,b<w5.heap.size->((.slice Aa x.ats.length ca):Value).ownBlock≠some b->wa.heap[b]? = w5.heap[b]?:=fun b hb J5=>by
    rw[E2.out.block b (by simp;omega) (fun e=>J5 e.symm)]
    exact((b8 w5.heap.size w5).alloc (c9 _) _).block b hb
   have hs:w5.heap.size<=wa.heap.size:=by have:=E2.out.size;simp at this;omega
   obtain⟨g1,g2⟩:=a9j H5.out E3.out hs E5 (by
    rcases G1.out with h1|h1
    ·exact .inl h1
    ·exact .inr (fun b hb=>by
      rw[h1]at hb;simp only[f5]at hb;rw[<-hb];simp)) G0.out
   have D2:∀{e s n:Nat} {v:Value} {xs:List Value},e≠46->wa.ownsRow B e s v n xs->(wa.setCell ⟨xb,7,none⟩ (.slice A1 (x.ats.length+1) c1)).ownsRow B e s v n xs:=fun {e s n v xs} he hh=>r6 hh (fun b _ ⟨cs,hc⟩=>f7 _ _ _ _ (B7 hc E1.out he));refine⟨g1.setNode E1.out J8.out,((J4.out.alloc L1 _).grown E2.out (by simp;omega) (fun q hq=>(E3.out.rA.lt q hq).1)).setCell (p:=⟨xb,7,none⟩) J6 _,(.slice Ad x.ds.length cd),(.slice A1 (x.ats.length+1) c1),by rw[o8 E1.out];rfl,⟨D2 (by decide) g2.rD,D2 (by decide) g2.rA,g2.dd,g2.yd,g2.ya⟩⟩
  clear E1 G0 E2 G1 kc kf;go_ret;exact⟨rfl,E4.out⟩
 |true =>
  go_wp2_with (first
   |(at_builtin;refine a2V rfl (.tmp 45) (.tmp 50) rfl B (.slice Aa x.ats.length ca) x.ats rfl (E3.out.rA.alloc _) w5.heap.size ⟨P,L,⟨#[]⟩,V⟩ rfl (g9 w5 _) (by omega) (by simp;omega) ?_;intro v1 wa D3 D0 E8;have E0:=(D0.block xb (by have:=i3 D1.out;simp;omega) (fun e=>a2h E3.out.rA D1.out (by decide) e.symm)).trans ((((b8 w5.heap.size w5).alloc (c9 _) _).block xb (i3 D1.out)).trans D1.out);have kc:wa.cell? ⟨xb,7,none⟩=some (.slice Aa x.ats.length ca):=(by rw[d9 wa xb 7 _ _ _ E0];rfl);have kf:wa.frozen? ⟨xb,7,none⟩=false:=(by unfold World.frozen?;rw[E0];simp);have E1:=a8 E0;have G0:=a8 D3;have E2:=a8 D0;have G1:=a8 E8;obtain⟨A1,c1,rfl,_,_⟩:=q9 D3;clear E0 D3 D0 E8 k6 k7)
   |fail)
  have E4:Hid (T8 B rb xb st vn vo vd vt ys x r3 x.ds (x.ats++[⟨P,L,⟨#[]⟩,V⟩]) w (wa.setCell ⟨xb,7,none⟩ (.slice A1 (x.ats.length+1) c1))):=by
   have E5:∀b,b<w5.heap.size->((.slice Aa x.ats.length ca):Value).ownBlock≠some b->wa.heap[b]? = w5.heap[b]?:=fun b hb J5=>by
    rw[E2.out.block b (by simp;omega) (fun e=>J5 e.symm)]
    exact((b8 w5.heap.size w5).alloc (c9 _) _).block b hb
   have hs:w5.heap.size<=wa.heap.size:=by have:=E2.out.size;simp at this;omega
   obtain⟨g1,g2⟩:=a9j H5.out E3.out hs E5 (by
    rcases G1.out with h1|h1
    ·exact .inl h1
    ·exact .inr (fun b hb=>by
      rw[h1]at hb;simp only[f5]at hb;rw[<-hb];simp)) G0.out
   have D2:∀{e s n:Nat} {v:Value} {xs:List Value},e≠46->wa.ownsRow B e s v n xs->(wa.setCell ⟨xb,7,none⟩ (.slice A1 (x.ats.length+1) c1)).ownsRow B e s v n xs:=fun {e s n v xs} he hh=>r6 hh (fun b _ ⟨cs,hc⟩=>f7 _ _ _ _ (B7 hc E1.out he));refine⟨g1.setNode E1.out J8.out,((J4.out.alloc L1 _).grown E2.out (by simp;omega) (fun q hq=>(E3.out.rA.lt q hq).1)).setCell (p:=⟨xb,7,none⟩) J6 _,(.slice Ad x.ds.length cd),(.slice A1 (x.ats.length+1) c1),by rw[o8 E1.out];rfl,⟨D2 (by decide) g2.rD,D2 (by decide) g2.rA,g2.dd,g2.yd,g2.ya⟩⟩
  clear E1 G0 E2 G1 kc kf;go_ret;exact⟨rfl,E4.out⟩
theorem b4N(w:World)(B rb xb:Nat)(st:Rd)(vn vo vd vt vD vA:Value)(ys:List Ny)(x:Nd)(P L Sq V:ByteArray)(found okv:Bool)(r1 r2 r3:List UInt8)(h:S7 w B rb st vn vo vd vt ys)(E7:w.heap[xb]? = some (.cells #[.int .i64 x.k,.int .i64 x.n,.string x.p,.string x.l,.string x.u,.string x.t,vD,vA] 46 (0,0)))(hx:a0X w B ys vd vD vA x.ds x.ats)(J6:B<=xb)(J7:vn.ownBlock≠some xb)(M2:x.ds.length<=100000)(M3:x.ats.length<=100000)(hB : 8<=B)(hW:Wd w)
 (L2:Hid (Calls Tryz.prog 157 #[.pointer (some ⟨rb,0,none⟩),.string ⟨#[32,9,10,61,47,62]⟩] w fun r w'=>r=.returned (.string Sq)/\N7 rb (ba r1) w w'))
 (L3:Hid (∀w',Wd w'->Calls Tryz.prog 160 #[.string Sq] w' fun e w''=>e=.returned (.tuple #[.string P,.string L,.bool true])/\Below w'.heap.size w' w''))
 (L4:Hid (∀w',n0 w' rb (ba r1)->Calls Tryz.prog 151 #[.pointer (some ⟨rb,0,none⟩)] w' fun e w''=>e=.returned (.bool true)/\N7 rb (ba r2) w' w''))
 (S2:ByteArray) (L5:Hid (∀w',n0 w' rb (ba r2)->I3 w'->Calls Tryz.prog 152 #[.pointer (some ⟨rb,0,none⟩)] w' fun e w''=>e=.returned (.tuple #[.string S2,.bool found])/\N7 rb (ba r3) w' w''))
 (L6:Hid (∀w',Wd w'->Calls Tryz.prog 201 #[.string S2] w' fun e w''=>e=.returned (.tuple #[.string V,.bool okv])/\Below w'.heap.size w' w''))
 (hP:P.data.toList≠[120,109,108,110,115]) (hE:P.data.toList≠[]) :
 Calls Tryz.prog 162 #[.pointer (some ⟨rb,0,none⟩),.pointer (some ⟨xb,0,none⟩)] w fun e w'=>e=.returned (.bool (found&&okv))/\T8 B rb xb st vn vo vd vt ys x r3 x.ds (x.ats++[⟨P,L,⟨#[]⟩,V⟩]) w w':=by
 have E6:B<=w.heap.size:=d8 h.lo (A6 (i3 h.box));obtain⟨Ad,cd,rfl,_,_⟩:=q9 hx.rD;obtain⟨Aa,ca,rfl,_,_⟩:=q9 hx.rA;have H:=a8 h;have HX:=a8 hx;have M4:=a8 E7;have HW:=a8 hW;have J8:=a8 J7;have L7:Hid (∀w1,(∀b,b<w.heap.size->b≠rb->w1.heap[b]? = w.heap[b]?)->a0X w1 B ys vd (.slice Ad x.ds.length cd) (.slice Aa x.ats.length ca) x.ds x.ats/\w1.heap[xb]? = some (.cells #[.int .i64 x.k,.int .i64 x.n,.string x.p,.string x.l,.string x.u,.string x.t,.slice Ad x.ds.length cd,.slice Aa x.ats.length ca] 46 (0,0))):=fun w1 hk=>⟨⟨r6 hx.rD (fun b _ ⟨cs,hc⟩=>hk b (i3 hc) (B7 hc h.box (by decide))),r6 hx.rA (fun b _ ⟨cs,hc⟩=>hk b (i3 hc) (B7 hc h.box (by decide))),hx.dd,hx.yd,hx.ya⟩,(hk xb (i3 E7) (B7 E7 h.box (by decide))).trans E7⟩
 have tp:(P.toList == [120,109,108,110,115])=false:=by rw[f9,e9];exact hP
 have te:P.toList.isEmpty=false:=by
  rw[f9];cases hq:P.data.toList with
  |nil=>exact absurd hq hE
  |cons c t=>rfl
 clear hP hE;clear h hx E7 hW J7;go_enter Tryz.func162,Tryz.ntmps162
 go_wp2_with fail
 refine L2.out.mono ?_;rintro e w1⟨rfl,G4⟩;have H1:=a8 (H.out.cur G4);have G5:=a8 (G4.below H.out.lo E6);have L8:Hid (∀b,b<w.heap.size->b≠rb->w1.heap[b]? = w.heap[b]?):=G4.other;clear G4
 go_wp2_with fail
 refine(L3.out w1 (HW.out.low hB G5.out)).mono ?_;rintro e w2⟨rfl,G6⟩;have H2:=a8 (H1.out.below G6);have J3:=a8 (G5.out.trans (G6.mono (d8 E6 G5.out.size)));have L9:Hid (∀b,b<w.heap.size->b≠rb->w2.heap[b]? = w.heap[b]?):=fun b h1 h2=>(G6.block b (x9 h1 G5.out.size)).trans (L8.out b h1 h2);clear G6
 go_wp2_with fail
 refine(L4.out w2 H2.out.curAt).mono ?_;rintro e w3⟨rfl,G7⟩;have H3:=a8 (H2.out.cur G7);have G8:=a8 (J3.out.trans (G7.below H.out.lo (d8 E6 J3.out.size)));have M0:Hid (∀b,b<w.heap.size->b≠rb->w3.heap[b]? = w.heap[b]?):=fun b h1 h2=>(G7.other b (x9 h1 J3.out.size) h2).trans (L9.out b h1 h2);clear G7
 go_wp2_with fail
 refine(L5.out w3 H3.out.curAt (HW.out.low hB G8.out).max).mono ?_;rintro e w4⟨rfl,G9⟩;have H4:=a8 (H3.out.cur G9);have J1:=a8 (G8.out.trans (G9.below H.out.lo (d8 E6 G8.out.size)));have M1:Hid (∀b,b<w.heap.size->b≠rb->w4.heap[b]? = w.heap[b]?):=fun b h1 h2=>(G9.other b (x9 h1 G8.out.size) h2).trans (M0.out b h1 h2);clear G9
 go_wp2_with fail
 refine(L6.out w4 (HW.out.low hB J1.out)).mono ?_;rintro e w5⟨rfl,J2⟩;have H5:=a8 (H4.out.below J2);have J4:=a8 (J1.out.trans (J2.mono (d8 E6 J1.out.size)));have J9:∀b,b<w.heap.size->b≠rb->w5.heap[b]? = w.heap[b]?:=fun b h1 h2=>(J2.block b (x9 h1 J1.out.size)).trans (M1.out b h1 h2);obtain⟨L0,D9⟩:=L7.out w5 J9;have E3:=a8 L0;have D1:=a8 D9;have L1:B<=w5.heap.size:=d8 E6 J4.out.size;have k6:w5.cell? ⟨xb,6,none⟩=some (.slice Ad x.ds.length cd):=by rw[d9 w5 xb 6 _ _ _ D9];rfl
 have k7:w5.cell? ⟨xb,7,none⟩=some (.slice Aa x.ats.length ca):=by rw[d9 w5 xb 7 _ _ _ D9];rfl
 clear J2 J9 L0 D9;cases found with
 |false =>
  go_wp2_with (first
   |(at_builtin;refine a2V rfl (.tmp 45) (.tmp 50) rfl B (.slice Aa x.ats.length ca) x.ats rfl (E3.out.rA.alloc _) w5.heap.size ⟨P,L,⟨#[]⟩,V⟩ rfl (g9 w5 _) (by omega) (by simp;omega) ?_;intro v1 wa D3 D0 E8;have E0:=(D0.block xb (by have:=i3 D1.out;simp;omega) (fun e=>a2h E3.out.rA D1.out (by decide) e.symm)).trans ((((b8 w5.heap.size w5).alloc (c9 _) _).block xb (i3 D1.out)).trans D1.out);have kc:wa.cell? ⟨xb,7,none⟩=some (.slice Aa x.ats.length ca):=(by rw[d9 wa xb 7 _ _ _ E0];rfl);have kf:wa.frozen? ⟨xb,7,none⟩=false:=(by unfold World.frozen?;rw[E0];simp);have E1:=a8 E0;have G0:=a8 D3;have E2:=a8 D0;have G1:=a8 E8;obtain⟨A1,c1,rfl,_,_⟩:=q9 D3;clear E0 D3 D0 E8 k6 k7)
   |fail)
  have E4:Hid (T8 B rb xb st vn vo vd vt ys x r3 x.ds (x.ats++[⟨P,L,⟨#[]⟩,V⟩]) w (wa.setCell ⟨xb,7,none⟩ (.slice A1 (x.ats.length+1) c1))):=by
   have E5:∀b,b<w5.heap.size->((.slice Aa x.ats.length ca):Value).ownBlock≠some b->wa.heap[b]? = w5.heap[b]?:=fun b hb J5=>by
    rw[E2.out.block b (by simp;omega) (fun e=>J5 e.symm)]
    exact((b8 w5.heap.size w5).alloc (c9 _) _).block b hb
   have hs:w5.heap.size<=wa.heap.size:=by have:=E2.out.size;simp at this;omega
   obtain⟨g1,g2⟩:=a9j H5.out E3.out hs E5 (by
    rcases G1.out with h1|h1
    ·exact .inl h1
    ·exact .inr (fun b hb=>by
      rw[h1]at hb;simp only[f5]at hb;rw[<-hb];simp)) G0.out
   have D2:∀{e s n:Nat} {v:Value} {xs:List Value},e≠46->wa.ownsRow B e s v n xs->(wa.setCell ⟨xb,7,none⟩ (.slice A1 (x.ats.length+1) c1)).ownsRow B e s v n xs:=fun {e s n v xs} he hh=>r6 hh (fun b _ ⟨cs,hc⟩=>f7 _ _ _ _ (B7 hc E1.out he));refine⟨g1.setNode E1.out J8.out,((J4.out.alloc L1 _).grown E2.out (by simp;omega) (fun q hq=>(E3.out.rA.lt q hq).1)).setCell (p:=⟨xb,7,none⟩) J6 _,(.slice Ad x.ds.length cd),(.slice A1 (x.ats.length+1) c1),by rw[o8 E1.out];rfl,⟨D2 (by decide) g2.rD,D2 (by decide) g2.rA,g2.dd,g2.yd,g2.ya⟩⟩
  clear E1 G0 E2 G1 kc kf;go_ret;exact⟨rfl,E4.out⟩
 |true =>
  go_wp2_with (first
   |(at_builtin;refine a2V rfl (.tmp 45) (.tmp 50) rfl B (.slice Aa x.ats.length ca) x.ats rfl (E3.out.rA.alloc _) w5.heap.size ⟨P,L,⟨#[]⟩,V⟩ rfl (g9 w5 _) (by omega) (by simp;omega) ?_;intro v1 wa D3 D0 E8;have E0:=(D0.block xb (by have:=i3 D1.out;simp;omega) (fun e=>a2h E3.out.rA D1.out (by decide) e.symm)).trans ((((b8 w5.heap.size w5).alloc (c9 _) _).block xb (i3 D1.out)).trans D1.out);have kc:wa.cell? ⟨xb,7,none⟩=some (.slice Aa x.ats.length ca):=(by rw[d9 wa xb 7 _ _ _ E0];rfl);have kf:wa.frozen? ⟨xb,7,none⟩=false:=(by unfold World.frozen?;rw[E0];simp);have E1:=a8 E0;have G0:=a8 D3;have E2:=a8 D0;have G1:=a8 E8;obtain⟨A1,c1,rfl,_,_⟩:=q9 D3;clear E0 D3 D0 E8 k6 k7)
   |fail)
  have E4:Hid (T8 B rb xb st vn vo vd vt ys x r3 x.ds (x.ats++[⟨P,L,⟨#[]⟩,V⟩]) w (wa.setCell ⟨xb,7,none⟩ (.slice A1 (x.ats.length+1) c1))):=by
   have E5:∀b,b<w5.heap.size->((.slice Aa x.ats.length ca):Value).ownBlock≠some b->wa.heap[b]? = w5.heap[b]?:=fun b hb J5=>by
    rw[E2.out.block b (by simp;omega) (fun e=>J5 e.symm)]
    exact((b8 w5.heap.size w5).alloc (c9 _) _).block b hb
   have hs:w5.heap.size<=wa.heap.size:=by have:=E2.out.size;simp at this;omega
   obtain⟨g1,g2⟩:=a9j H5.out E3.out hs E5 (by
    rcases G1.out with h1|h1
    ·exact .inl h1
    ·exact .inr (fun b hb=>by
      rw[h1]at hb;simp only[f5]at hb;rw[<-hb];simp)) G0.out
   have D2:∀{e s n:Nat} {v:Value} {xs:List Value},e≠46->wa.ownsRow B e s v n xs->(wa.setCell ⟨xb,7,none⟩ (.slice A1 (x.ats.length+1) c1)).ownsRow B e s v n xs:=fun {e s n v xs} he hh=>r6 hh (fun b _ ⟨cs,hc⟩=>f7 _ _ _ _ (B7 hc E1.out he));refine⟨g1.setNode E1.out J8.out,((J4.out.alloc L1 _).grown E2.out (by simp;omega) (fun q hq=>(E3.out.rA.lt q hq).1)).setCell (p:=⟨xb,7,none⟩) J6 _,(.slice Ad x.ds.length cd),(.slice A1 (x.ats.length+1) c1),by rw[o8 E1.out];rfl,⟨D2 (by decide) g2.rD,D2 (by decide) g2.rA,g2.dd,g2.yd,g2.ya⟩⟩
  clear E1 G0 E2 G1 kc kf;go_ret;exact⟨rfl,E4.out⟩
def b7C(S:ByteArray)(e:Ending):Prop :=
 (∃P L:ByteArray,a3x S.data.toList P.data.toList L.data.toList/\P.size<=S.size/\L.size<=S.size/\e=.returned (.tuple #[.string P,.string L,.bool true]))∨((∀p l,¬a3x S.data.toList p l)/\e=.returned (.tuple #[.string ⟨#[]⟩,.string ⟨#[]⟩,.bool false]))
theorem a7G(S:ByteArray)(E8:S.size<=100000)(w:World)(hT:a2Z w):Calls Tryz.prog 160 #[.string S] w fun e w'=>b7C S e/\Below w.heap.size w w':=by
 have h5:=hT.five;have HT:=a8 hT;have HC:=a8 (a5U 58 S (by omega) w)
 clear hT;go_enter Tryz.func160,Tryz.ntmps160
 go_wp2_with fail
 refine HC.out.mono ?_;rintro e w1⟨⟨D9,rfl⟩|⟨P,R,hs,D9,rfl⟩,D1⟩
 ·have E0:=a8 D9
  have E1:=D1.size;have E4:=a8 (a3K S (by omega) w1 (HT.out.below h5 D1))
  clear D9 HC;cases hq:nmB S.data.toList with
  |false =>
   rw[hq]at E4;have HQ:=a8 hq;clear hq
   go_wp2_with fail
   refine E4.out.mono ?_;rintro e w2⟨rfl,D2⟩;have D0:=D1.trans (D2.mono E1);go_wp2
   go_ret3
   refine⟨.inr ⟨fun p l h => ?_,rfl⟩,D0⟩;have:=a37 ((a3N E0.out).1 h).2.2;rw[HQ.out]at this;cases this
  |true =>
   rw[hq]at E4;have HQ:=a8 hq;clear hq
   go_wp2_with fail
   refine E4.out.mono ?_;rintro e w2⟨rfl,D2⟩;have D0:=D1.trans (D2.mono E1)
   go_wp2_with fail
   refine(M8 ⟨#[]⟩ (by show(0:Nat)<=_;omega) _).mono ?_
   rintro e w3⟨rfl,E2⟩;have D3:=D0.trans (E2.mono D0.size)
   go_wp2_with fail
   refine(M8 S (by omega) _).mono ?_
   rintro e w4⟨rfl,E7⟩;have E5:=D3.trans (E7.mono D3.size);go_wp2
   go_ret3
   exact⟨.inl ⟨⟨#[]⟩,S,.inl ⟨rfl,rfl,a38.1 HQ.out⟩,o4 _,c9 _,rfl⟩,E5⟩
 ·have E0:=a8 D9
  have HS:=a8 hs;have E1:=D1.size;have G4:P.size+1+R.size=S.size:=by rw[j9,j9,j9,hs];simp;omega
  have E3:=a8 (a3K P (by omega) w1 (HT.out.below h5 D1))
  clear D9 hs HC;cases hp:nmB P.data.toList with
  |false =>
   rw[hp]at E3;have HQ:=a8 hp;clear hp
   go_wp2_with fail
   refine E3.out.mono ?_;rintro e w2⟨rfl,D2⟩;have D0:=D1.trans (D2.mono E1);go_wp2
   go_ret3
   refine⟨.inr ⟨fun p l h => ?_,rfl⟩,D0⟩;rw[HS.out]at h;have:=a37 ((a2M E0.out).1 h).2.2.1;rw[HQ.out]at this;cases this
  |true =>
   rw[hp]at E3;have HP:=a8 hp;clear hp
   go_wp2_with fail
   refine E3.out.mono ?_;rintro e w2⟨rfl,D2⟩;have D0:=D1.trans (D2.mono E1);have E6:=a8 (a3K R (by omega) w2 (HT.out.below h5 D0))
   clear E3;cases hq:nmB R.data.toList with
   |false =>
    rw[hq]at E6;have HQ:=a8 hq;clear hq
    go_wp2_with fail
    refine E6.out.mono ?_;rintro e w3⟨rfl,E2⟩;have D3:=D0.trans (E2.mono D0.size);go_wp2
    go_ret3
    refine⟨.inr ⟨fun p l h => ?_,rfl⟩,D3⟩;rw[HS.out]at h;have:=a37 ((a2M E0.out).1 h).2.2.2;rw[HQ.out]at this;cases this
   |true =>
    rw[hq]at E6;have HQ:=a8 hq;clear hq
    go_wp2_with fail
    refine E6.out.mono ?_;rintro e w3⟨rfl,E2⟩;have D3:=D0.trans (E2.mono D0.size)
    go_wp2_with fail
    refine(M8 P (by omega) _).mono ?_
    rintro e w4⟨rfl,E7⟩;have E5:=D3.trans (E7.mono D3.size)
    go_wp2_with fail
    refine(M8 R (by omega) _).mono ?_
    rintro e w5⟨rfl,G0⟩;have G1:=E5.trans (G0.mono E5.size);go_wp2
    go_ret3
    exact⟨.inl ⟨P,R,by rw[HS.out];exact(a2M E0.out).2 ⟨rfl,rfl,a38.1 HP.out,a38.1 HQ.out⟩,by omega,by omega,rfl⟩,G1⟩
theorem b0V{s p l p' l':List UInt8}(h:a3x s p l)(h':a3x s p' l'):p=p'/\l=l':=by
 by_cases D0:(58:UInt8)∈s
 ·obtain⟨a,b,rfl,ha⟩ : ∃a b,s=a++58::b/\(58:UInt8)∉a:=by
   have key:∀s:List UInt8,(58:UInt8)∈s->∃a b,s=a++58::b/\(58:UInt8)∉a:=fun s=>by
    induction s with
    |nil=>intro h;cases h
    |cons c r ih =>
     intro h;by_cases hc:c=58
     ·subst hc;exact⟨[],r,rfl,by simp⟩
     ·obtain⟨a,b,e,h2⟩:=ih (by
       rcases q8.1 h with h|h
       ·exact absurd h.symm hc
       ·exact h)
      exact⟨c::a,b,by rw[e];rfl,by simp[h2,Ne.symm hc]⟩
   exact key s D0
  obtain⟨e1,e2,_⟩:=(a2M ha).1 h;obtain⟨e3,e4,_⟩:=(a2M ha).1 h';exact⟨e1.trans e3.symm,e2.trans e4.symm⟩
 ·obtain⟨e1,e2,_⟩:=(a3N D0).1 h
  obtain⟨e3,e4,_⟩:=(a3N D0).1 h';exact⟨e1.trans e3.symm,e2.trans e4.symm⟩
open Classical in
noncomputable def M4(s:List UInt8):Option (List UInt8×List UInt8):=if h:∃q:List UInt8×List UInt8,a3x s q.1 q.2 then some h.choose else none
theorem Y8{s p l:List UInt8}(h:a3x s p l):M4 s=some (p,l):=by
 have hx:∃q:List UInt8×List UInt8,a3x s q.1 q.2:=⟨(p,l),h⟩;unfold M4;rw[dif_pos hx];have:=b0V hx.choose_spec h
 congr 1
 exact Prod.ext this.1 this.2
theorem a5g{s:List UInt8}(h:∀p l,¬a3x s p l):M4 s=none:=by
 unfold M4;rw[dif_neg];rintro⟨q,hq⟩;exact h _ _ hq
theorem a3F{s p l:List UInt8}(hs:s.length<=100000)(h:M4 s=some (p,l))(w:World)(hW:Wd w):Calls Tryz.prog 160 #[.string (ba s)] w fun e w'=>e=.returned (.tuple #[.string (ba p),.string (ba l),.bool true])/\Below w.heap.size w w' :=
 (a7G (ba s) (by rw[I9];omega) w hW.tabs).mono fun e w' ⟨ha,hb⟩=>by
   rcases ha with⟨P,L,hF,_,_,rfl⟩|⟨hN,_⟩
   ·rw[B5]at hF
    have:=Y8 hF;rw[h]at this;simp only[f5,Prod.mk.injEq]at this;exact⟨by rw[this.1,this.2,a3q,a3q],hb⟩
   ·rw[B5]at hN
    rw[a5g hN]at h;cases h
theorem a6j{s:List UInt8}(hs:s.length<=100000)(h:M4 s=none)(w:World)(hW:Wd w):Calls Tryz.prog 160 #[.string (ba s)] w fun e w'=>e=.returned (.tuple #[.string ⟨#[]⟩,.string ⟨#[]⟩,.bool false])/\Below w.heap.size w w' :=
 (a7G (ba s) (by rw[I9];omega) w hW.tabs).mono fun e w' ⟨ha,hb⟩=>by
   rcases ha with⟨P,L,hF,_,_,rfl⟩|⟨hN,rfl⟩
   ·rw[B5]at hF
    rw[Y8 hF]at h;cases h
   ·exact⟨rfl,hb⟩
theorem a59{s y:List UInt8}(hs:s.length<=100000)(h:X5 s=some y)(w:World)(hW:Wd w):Calls Tryz.prog 201 #[.string (ba s)] w fun e w'=>e=.returned (.tuple #[.string (ba y),.bool true])/\Below w.heap.size w w' :=
 (a7y (ba s) (by rw[I9];omega) w hW).mono fun e w' ⟨ha,hb⟩=>by
   rw[B5,h]at ha;rcases ha with⟨Y,h1,rfl⟩|⟨h1,_⟩
   ·simp only[f5]at h1
    exact⟨by rw[h1,a3q],hb⟩
   ·cases h1
theorem a6a{s:List UInt8}(hs:s.length<=100000)(h:X5 s=none)(w:World)(hW:Wd w):Calls Tryz.prog 201 #[.string (ba s)] w fun e w'=>e=.returned (.tuple #[.string ⟨#[]⟩,.bool false])/\Below w.heap.size w w' :=
 (a7y (ba s) (by rw[I9];omega) w hW).mono fun e w' ⟨ha,hb⟩=>by
   rw[B5,h]at ha;rcases ha with⟨Y,h1,_⟩|⟨_,rfl⟩
   ·cases h1
   ·exact⟨rfl,hb⟩
def a1C:List UInt8:=[120,109,108,110,115]
def V4(x:Nd)(p l:List UInt8)(v:ByteArray):Nd :=
 if p=[]/\l=a1C then { x with ds:=x.ds++[⟨⟨#[]⟩,v⟩] } else if p=a1C then { x with ds:=x.ds++[⟨ba l,v⟩] } else { x with ats:=x.ats++[⟨ba p,ba l,⟨#[]⟩,v⟩] }
def y8:List UInt8:=[32,9,10,61,47,62]
noncomputable def T5(s:List UInt8)(x:Nd):Option (List UInt8×Nd) :=
 match M4 (G9 y8 s)with
 |none=>none
 |some (p,l)=>match V3 (J9 y8 s)with
  |none=>none
  |some r2=>match V0 r2 with
   |none=>none
   |some (q,r3)=>match X5 q with
    |none=>none
    |some v=>some (r3,V4 x p l (ba v))
theorem a0o{s r:List UInt8}(h:V3 s=some r):r.length<=s.length:=by
 unfold V3 at h;obtain⟨q,hq,rfl⟩:=Option.map_eq_some_iff.1 h;have:=I0 q;have:=G5 hq;have:=I0 s;omega
theorem a1d{s p r:List UInt8}(h:V0 s=some (p,r)):p.length<=s.length/\r.length<=s.length:=by
 unfold V0 at h;cases h1:m9 [39] s with
 |some q =>
  rw[h1]at h;have:=P4 h;have:=G5 h1;omega
 |none =>
  rw[h1]at h;cases h2:m9 [34] s with
  |some q =>
   rw[h2]at h;have:=P4 h;have:=G5 h2;omega
  |none=>rw[h2]at h;cases h
theorem a4d(w:World)(B rb xb:Nat)(st:Rd)(vn vo vd vt vD vA:Value)(ys:List Ny)(x:Nd)(p l:List UInt8)(Sq V:ByteArray)(found okv:Bool)(r1 r2 r3:List UInt8)(h:S7 w B rb st vn vo vd vt ys)(D0:w.heap[xb]? = some (.cells #[.int .i64 x.k,.int .i64 x.n,.string x.p,.string x.l,.string x.u,.string x.t,vD,vA] 46 (0,0)))(hx:a0X w B ys vd vD vA x.ds x.ats)(D1:B<=xb)(D2:vn.ownBlock≠some xb)(D3:x.ds.length<=100000)(D9:x.ats.length<=100000)(hB : 8<=B)(hW:Wd w)
 (E0:Hid (Calls Tryz.prog 157 #[.pointer (some ⟨rb,0,none⟩),.string ⟨#[32,9,10,61,47,62]⟩] w fun r w'=>r=.returned (.string Sq)/\N7 rb (ba r1) w w'))
 (E1:Hid (∀w',Wd w'->Calls Tryz.prog 160 #[.string Sq] w' fun e w''=>e=.returned (.tuple #[.string (ba p),.string (ba l),.bool true])/\Below w'.heap.size w' w''))
 (E2:Hid (∀w',n0 w' rb (ba r1)->Calls Tryz.prog 151 #[.pointer (some ⟨rb,0,none⟩)] w' fun e w''=>e=.returned (.bool true)/\N7 rb (ba r2) w' w''))
 (S2:ByteArray) (E3:Hid (∀w',n0 w' rb (ba r2)->I3 w'->Calls Tryz.prog 152 #[.pointer (some ⟨rb,0,none⟩)] w' fun e w''=>e=.returned (.tuple #[.string S2,.bool found])/\N7 rb (ba r3) w' w''))
 (E4:Hid (∀w',Wd w'->Calls Tryz.prog 201 #[.string S2] w' fun e w''=>e=.returned (.tuple #[.string V,.bool okv])/\Below w'.heap.size w' w'')) :
 Calls Tryz.prog 162 #[.pointer (some ⟨rb,0,none⟩),.pointer (some ⟨xb,0,none⟩)] w fun e w'=>e=.returned (.bool (found&&okv))/\T8 B rb xb st vn vo vd vt ys x r3 (V4 x p l V).ds (V4 x p l V).ats w w':=by
 by_cases h1:p=[]/\l=a1C
 ·have e:V4 x p l V={ x with ds:=x.ds++[⟨⟨#[]⟩,V⟩] }:=by unfold V4;rw[g8 h1]
  rw[e];exact b4J w B rb xb st vn vo vd vt vD vA ys x (ba p) (ba l) Sq V found okv r1 r2 r3 h D0 hx D1 D2 D3 D9 hB hW E0 E1 E2 S2 E3 E4 (by rw[B5];exact h1.1) (by rw[B5];exact h1.2)
 ·by_cases h2:p=a1C
  ·have e:V4 x p l V={ x with ds:=x.ds++[⟨ba l,V⟩] }:=by unfold V4;rw[f6 h1,g8 h2]
   rw[e];exact b4L w B rb xb st vn vo vd vt vD vA ys x (ba p) (ba l) Sq V found okv r1 r2 r3 h D0 hx D1 D2 D3 D9 hB hW E0 E1 E2 S2 E3 E4 (by rw[B5];exact h2)
  ·have e:V4 x p l V={ x with ats:=x.ats++[⟨ba p,ba l,⟨#[]⟩,V⟩] }:=by unfold V4;rw[f6 h1,f6 h2]
   rw[e];by_cases h3:p=[]
   ·exact b4M w B rb xb st vn vo vd vt vD vA ys x (ba p) (ba l) Sq V found okv r1 r2 r3 h D0 hx D1 D2 D3 D9 hB hW E0 E1 E2 S2 E3 E4 (by rw[B5];exact h2) (by rw[B5];exact h3) (by rw[B5];exact fun h4=>h1 ⟨h3,h4⟩)
   ·exact b4N w B rb xb st vn vo vd vt vD vA ys x (ba p) (ba l) Sq V found okv r1 r2 r3 h D0 hx D1 D2 D3 D9 hB hW E0 E1 E2 S2 E3 E4 (by rw[B5];exact h2) (by rw[B5];exact h3)
end Go.Proofs.YtlgcigmolfhamaaGreatDoor
