/-
  parse.reader: mark, whatever stands there. Conditions: the reader and the element lie as they are; nothing is too long; the tables lie as they are laid; upTo answers so.
-/
import Derived.Test.YteinegfbpfhflaaGreatDoorM29
namespace Go.Proofs.YteinegfbpfhflaaGreatDoor
open Go.RowKit
set_option linter.unusedVariables false
set_option maxRecDepth 100000
set_option maxHeartbeats 8000000
def sJ(s:List UInt8):List UInt8 :=
 match aH [39] s with
 |some r=>r
 |none=>match aH [34] s with
  |some r=>r
  |none=>s
theorem i6(s:List UInt8)(b:Nat)(w:World)(h:aG w b (ba s))(hm:cD w)(hl:s.length<=1000000)(hq:e9 s=none):Calls Tryz.prog 124 #[.pointer (some ⟨b,0,none⟩)] w fun e w'=>e=.returned (.tuple #[.string ⟨#[]⟩,.bool false])/\dK b (ba (sJ s)) w w':=by
 have HS:=aa h;have HM:=aa hm;unfold e9 at hq;cases h1:aH [39] s with
 |some r1 =>
  rw[h1]at hq;have hr:=cx h1;have H1:=aa (bW s [39] r1 b w h h1);have H2:Hid (∀w',aG w' b (ba r1)->cD w'->_):=fun w' h' hm'=>fW r1 [39] b w' h' hm' (by omega) hq
  have HR:Hid (sJ s=r1):=by show _=_;unfold sJ;rw[h1]
  rw[HR.out];clear hq h1 hr hl h hm;go_enter Tryz.func124,Tryz.ntmps124
  go_wp2_with fail
  refine H1.out.mono ?_;rintro e w1⟨rfl,hc1⟩;have HC1:=aa hc1;clear hc1
  go_wp2_with fail
  refine(H2.out _ (HC1.out.at HS.out) (HC1.out.max HM.out HS.out)).mono ?_;rintro e w2⟨rfl,hc2⟩;have HC2:=aa (HC1.out.trans hc2);clear hc2;go_wp2
  go_ret2
  exact⟨rfl,HC2.out⟩
 |none =>
  rw[h1]at hq;have H1:=aa (dc s [39] b w h h1);cases h2:aH [34] s with
  |none =>
   have H2:Hid (∀w',aG w' b (ba s)->_):=fun w' h'=>dc s [34] b w' h' h2;have HR:Hid (sJ s=s):=by show _=_;unfold sJ;rw[h1,h2]
   rw[HR.out];clear hq h1 h2 hl h hm;go_enter Tryz.func124,Tryz.ntmps124
   go_wp2_with fail
   refine H1.out.mono ?_;rintro e w1⟨rfl,hc1⟩;have HC1:=aa hc1;clear hc1
   go_wp2_with fail
   refine(H2.out _ (HC1.out.at HS.out)).mono ?_;rintro e w2⟨rfl,hc2⟩;have HC2:=aa (HC1.out.trans hc2);clear hc2;go_wp2
   go_ret2
   exact⟨rfl,HC2.out⟩
  |some r1 =>
   rw[h2]at hq;have hr:=cx h2;have H2:Hid (∀w',aG w' b (ba s)->_):=fun w' h'=>bW s [34] r1 b w' h' h2;have H3:Hid (∀w',aG w' b (ba r1)->cD w'->_):=fun w' h' hm'=>fW r1 [34] b w' h' hm' (by omega) hq
   have HR:Hid (sJ s=r1):=by show _=_;unfold sJ;rw[h1,h2]
   rw[HR.out];clear hq h1 h2 hr hl h hm;go_enter Tryz.func124,Tryz.ntmps124
   go_wp2_with fail
   refine H1.out.mono ?_;rintro e w1⟨rfl,hc1⟩;have HC1:=aa hc1;clear hc1
   go_wp2_with fail
   refine(H2.out _ (HC1.out.at HS.out)).mono ?_;rintro e w2⟨rfl,hc2⟩;have HC2:=aa (HC1.out.trans hc2);clear hc2
   go_wp2_with fail
   refine(H3.out _ (HC2.out.at HS.out) (HC2.out.max HM.out HS.out)).mono ?_;rintro e w3⟨rfl,hc3⟩;have HC3:=aa (HC2.out.trans hc3);clear hc3;go_wp2
   go_ret2
   exact⟨rfl,HC3.out⟩
structure RX(w:World)(B rb xb:Nat)(st:Rd)(vn vo vd vt:Value)(ys:List Ny)(x:Nd):Prop where
 rd:eH w B rb st vn vo vd vt ys
 bx:B<=xb
 nx:vn.ownBlock≠some xb
 at':∃vD vA,w.heap[xb]? = some (.cells #[.int .i64 x.k,.int .i64 x.n,.string x.p,.string x.l,.string x.u,.string x.t,vD,vA] 42 (0,0))/\gR w B ys vd vD vA x.ds x.ats
theorem nG(x:Nd)(p l:List UInt8)(v:ByteArray):(fj x p l v).k=x.k/\(fj x p l v).n=x.n/\(fj x p l v).p=x.p/\(fj x p l v).l=x.l/\(fj x p l v).u=x.u/\(fj x p l v).t=x.t:=by
 unfold fj
 split
 ·exact⟨rfl,rfl,rfl,rfl,rfl,rfl⟩
 ·split<;>exact⟨rfl,rfl,rfl,rfl,rfl,rfl⟩
theorem Ax(hU:gm)(w:World)(B rb xb:Nat)(st:Rd)(vn vo vd vt:Value)(ys:List Ny)(x x':Nd)(r:List UInt8)(hf:iV st)(h:RX w B rb xb st vn vo vd vt ys x)(hxd:x.ds.length<=100000)(hxa:x.ats.length<=100000)(hB : 8<=B)(hW:Wd w)(hm:eV st.rest x=some (r,x')) :
 Calls Tryz.prog 134 #[.pointer (some ⟨rb,0,none⟩),.pointer (some ⟨xb,0,none⟩)] w fun e w'=>e=.returned (.bool true)/\RX w' B rb xb { st with rest:=r } vn vo vd vt ys x'/\Below B w w':=by
 obtain⟨vD,vA,hbx,hx⟩:=h.at';unfold eV at hm;cases h1:dL (cE bd st.rest)with
 |none=>rw[h1]at hm;cases hm
 |some q =>
  obtain⟨p,l⟩:=q;rw[h1]at hm;dsimp only at hm;cases h2:fe (c9 bd st.rest)with
  |none=>rw[h2]at hm;cases hm
  |some r2 =>
   rw[h2]at hm;dsimp only at hm;cases h3:e9 r2 with
   |none=>rw[h3]at hm;cases hm
   |some q2 =>
    obtain⟨q,r3⟩:=q2;rw[h3]at hm;dsimp only at hm;cases h4:fA q with
    |none=>rw[h4]at hm;cases hm
    |some v =>
     rw[h4]at hm;simp only[al,Prod.mk.injEq]at hm;obtain⟨rfl,rfl⟩:=hm;have hrl:=hf.rest;have ha:=gN bd st.rest;have hb:=gM bd st.rest;have he:=gh h2;have hq:=il h3;refine(me w B rb xb st vn vo vd vt vD vA ys x p l (ba (cE bd st.rest)) (ba v) true true (c9 bd st.rest) r2 r3 h.rd hbx hx h.bx h.nx hxd hxa hB hW (hU st.rest bd rb w h.rd.curAt hrl (.inr (.inr rfl))) (fun w' hw=>ls (by omega) h1 w' hw) (fun w' hc=>dr _ r2 rb w' hc (by omega) h2) (ba q) (fun w' hc hm'=>eL r2 q r3 rb w' hc hm' (by omega) h3) (fun w' hw=>o0 (by omega) h4 w' hw)).mono ?_
     rintro e w'⟨rfl,hr,hbw,vD',vA',hb',hx'⟩;obtain⟨s1,s2,s3,s4,s5,s6⟩:=nG x p l (ba v);exact⟨rfl,⟨hr,h.bx,h.nx,vD',vA',by rw[s1,s2,s3,s4,s5,s6];exact hb',hx'⟩,hbw⟩
theorem Az(hU:gm)(w:World)(B rb xb:Nat)(st:Rd)(vn vo vd vt:Value)(ys:List Ny)(x:Nd)(hf:iV st)(h:RX w B rb xb st vn vo vd vt ys x)(hxd:x.ds.length<=100000)(hxa:x.ats.length<=100000)(hB : 8<=B)(hW:Wd w)(hm:eV st.rest x=none) :
 Calls Tryz.prog 134 #[.pointer (some ⟨rb,0,none⟩),.pointer (some ⟨xb,0,none⟩)] w fun e w'=>e=.returned (.bool false)/\Below B w w':=by
 obtain⟨vD,vA,hbx,hx⟩:=h.at';have hrl:=hf.rest;have ha:=gN bd st.rest;have hb:=gM bd st.rest;have HUP:=aa (hU st.rest bd rb w h.rd.curAt hrl (.inr (.inr rfl)));have hBs:B<=w.heap.size:=ag h.rd.lo (be (au h.rd.box));have H:=aa h.rd;unfold eV at hm;cases h1:dL (cE bd st.rest)with
 |none =>
  have HSP:Hid (∀w',Wd w'->_):=fun w' hw=>ph (show(cE bd st.rest).length<=100000 by omega) h1 w' hw
  have HW:=aa hW;clear hm h1 hx hbx h hW hf ha hb hU;generalize cE bd st.rest=S1 at *;generalize c9 bd st.rest=S2 at *;go_enter Tryz.func134,Tryz.ntmps134
  go_wp2_with fail
  refine HUP.out.mono ?_;rintro e w1⟨rfl,hc1⟩;have HB1:=aa (hc1.below H.out.lo hBs);clear hc1
  go_wp2_with fail
  refine(HSP.out w1 (HW.out.low hB HB1.out)).mono ?_;rintro e w2⟨rfl,hb2⟩;have HB2:=aa (HB1.out.trans (hb2.mono (ag hBs HB1.out.size)));clear hb2;go_wp2;go_ret;exact⟨rfl,HB2.out⟩
 |some q =>
  obtain⟨p,l⟩:=q;rw[h1]at hm;dsimp only at hm;have HSP:Hid (∀w',Wd w'->_):=fun w' hw=>ls (show(cE bd st.rest).length<=100000 by omega) h1 w' hw
  cases h2:fe (c9 bd st.rest)with
  |none =>
   have HEQ:Hid (∀w',aG w' rb (ba (c9 bd st.rest))->_):=fun w' hc=>iI (c9 bd st.rest) rb w' hc (by omega) h2
   have HW:=aa hW;clear hm h1 h2 hx hbx h hW hf ha hb hU;generalize cE bd st.rest=S1 at *;generalize c9 bd st.rest=S2 at *;go_enter Tryz.func134,Tryz.ntmps134
   go_wp2_with fail
   refine HUP.out.mono ?_;rintro e w1⟨rfl,hc1⟩;have HB1:=aa (hc1.below H.out.lo hBs);have H1:=aa (H.out.cur hc1);clear hc1
   go_wp2_with fail
   refine(HSP.out w1 (HW.out.low hB HB1.out)).mono ?_;rintro e w2⟨rfl,hb2⟩;have HB2:=aa (HB1.out.trans (hb2.mono (ag hBs HB1.out.size)));have H2:=aa (H1.out.below hb2);clear hb2
   go_wp2_with fail
   refine(HEQ.out w2 H2.out.curAt).mono ?_;rintro e w3⟨rfl,rr,_,hc3⟩;have HB3:=aa (HB2.out.trans (hc3.below H.out.lo (ag hBs HB2.out.size)));clear hc3;go_wp2;go_ret;exact⟨rfl,HB3.out⟩
  |some r2 =>
   rw[h2]at hm;dsimp only at hm;have he:=gh h2;cases h3:e9 r2 with
   |none =>
    cases hv:fA []with
    |none =>
     refine(me w B rb xb st vn vo vd vt vD vA ys x p l (ba (cE bd st.rest)) ⟨#[]⟩ false false (c9 bd st.rest) r2 (sJ r2) h.rd hbx hx h.bx h.nx hxd hxa hB hW HUP HSP (fun w' hc=>dr _ r2 rb w' hc (by omega) h2) (ba []) (fun w' hc hm'=>i6 r2 rb w' hc hm' (by omega) h3) (fun w' hw=>o4 (by simp) hv w' hw)).mono ?_
     rintro e w'⟨rfl,_,hbw,_⟩;exact⟨rfl,hbw⟩
    |some v =>
     refine(me w B rb xb st vn vo vd vt vD vA ys x p l (ba (cE bd st.rest)) (ba v) false true (c9 bd st.rest) r2 (sJ r2) h.rd hbx hx h.bx h.nx hxd hxa hB hW HUP HSP (fun w' hc=>dr _ r2 rb w' hc (by omega) h2) (ba []) (fun w' hc hm'=>i6 r2 rb w' hc hm' (by omega) h3) (fun w' hw=>o0 (by simp) hv w' hw)).mono ?_
     rintro e w'⟨rfl,_,hbw,_⟩;exact⟨rfl,hbw⟩
   |some q2 =>
    obtain⟨q,r3⟩:=q2;rw[h3]at hm;dsimp only at hm;have hq:=il h3;cases h4:fA q with
    |some v=>rw[h4]at hm;cases hm
    |none =>
     refine(me w B rb xb st vn vo vd vt vD vA ys x p l (ba (cE bd st.rest)) ⟨#[]⟩ true false (c9 bd st.rest) r2 r3 h.rd hbx hx h.bx h.nx hxd hxa hB hW HUP HSP (fun w' hc=>dr _ r2 rb w' hc (by omega) h2) (ba q) (fun w' hc hm'=>eL r2 q r3 rb w' hc hm' (by omega) h3) (fun w' hw=>o4 (by omega) h4 w' hw)).mono ?_
     rintro e w'⟨rfl,_,hbw,_⟩;exact⟨rfl,hbw⟩
end Go.Proofs.YteinegfbpfhflaaGreatDoor
