/-
  parse.reader: mark, whatever stands there. Conditions: the reader and the element lie as they are; nothing is too long; the tables lie as they are laid; upTo answers so.
-/
import Derived.Test.YtlgcigmolfhamaaGreatDoorK29
namespace Go.Proofs.YtlgcigmolfhamaaGreatDoor
open Go.RowKit
set_option linter.unusedVariables false
set_option maxRecDepth 100000
set_option maxHeartbeats 8000000
def a8P(s:List UInt8):List UInt8 :=
 match m9 [39] s with
 |some r=>r
 |none=>match m9 [34] s with
  |some r=>r
  |none=>s
theorem a1S(s:List UInt8)(b:Nat)(w:World)(h:n0 w b (ba s))(hm:I3 w)(hl:s.length<=1000000)(hq:V0 s=none):Calls Tryz.prog 152 #[.pointer (some ⟨b,0,none⟩)] w fun e w'=>e=.returned (.tuple #[.string ⟨#[]⟩,.bool false])/\N7 b (ba (a8P s)) w w':=by
 have HS:=a8 h;have HM:=a8 hm;unfold V0 at hq;cases h1:m9 [39] s with
 |some r1 =>
  rw[h1]at hq;have hr:=G5 h1;have H1:=a8 (F2 s [39] r1 b w h h1);have H2:Hid (∀w',n0 w' b (ba r1)->I3 w'->_):=fun w' h' hm'=>a0f r1 [39] b w' h' hm' (by omega) hq
  have HR:Hid (a8P s=r1):=by show _=_;unfold a8P;rw[h1]
  rw[HR.out];clear hq h1 hr hl h hm;go_enter Tryz.func152,Tryz.ntmps152
  go_wp2_with fail
  refine H1.out.mono ?_;rintro e w1⟨rfl,D1⟩;have D0:=a8 D1;clear D1
  go_wp2_with fail
  refine(H2.out _ (D0.out.at HS.out) (D0.out.max HM.out HS.out)).mono ?_;rintro e w2⟨rfl,D2⟩;have D3:=a8 (D0.out.trans D2);clear D2;go_wp2
  go_ret2
  exact⟨rfl,D3.out⟩
 |none =>
  rw[h1]at hq;have H1:=a8 (K9 s [39] b w h h1);cases h2:m9 [34] s with
  |none =>
   have H2:Hid (∀w',n0 w' b (ba s)->_):=fun w' h'=>K9 s [34] b w' h' h2;have HR:Hid (a8P s=s):=by show _=_;unfold a8P;rw[h1,h2]
   rw[HR.out];clear hq h1 h2 hl h hm;go_enter Tryz.func152,Tryz.ntmps152
   go_wp2_with fail
   refine H1.out.mono ?_;rintro e w1⟨rfl,D1⟩;have D0:=a8 D1;clear D1
   go_wp2_with fail
   refine(H2.out _ (D0.out.at HS.out)).mono ?_;rintro e w2⟨rfl,D2⟩;have D3:=a8 (D0.out.trans D2);clear D2;go_wp2
   go_ret2
   exact⟨rfl,D3.out⟩
  |some r1 =>
   rw[h2]at hq;have hr:=G5 h2;have H2:Hid (∀w',n0 w' b (ba s)->_):=fun w' h'=>F2 s [34] r1 b w' h' h2;have H3:Hid (∀w',n0 w' b (ba r1)->I3 w'->_):=fun w' h' hm'=>a0f r1 [34] b w' h' hm' (by omega) hq
   have HR:Hid (a8P s=r1):=by show _=_;unfold a8P;rw[h1,h2]
   rw[HR.out];clear hq h1 h2 hr hl h hm;go_enter Tryz.func152,Tryz.ntmps152
   go_wp2_with fail
   refine H1.out.mono ?_;rintro e w1⟨rfl,D1⟩;have D0:=a8 D1;clear D1
   go_wp2_with fail
   refine(H2.out _ (D0.out.at HS.out)).mono ?_;rintro e w2⟨rfl,D2⟩;have D3:=a8 (D0.out.trans D2);clear D2
   go_wp2_with fail
   refine(H3.out _ (D3.out.at HS.out) (D3.out.max HM.out HS.out)).mono ?_;rintro e w3⟨rfl,D9⟩;have E0:=a8 (D3.out.trans D9);clear D9;go_wp2
   go_ret2
   exact⟨rfl,E0.out⟩
structure RX(w:World)(B rb xb:Nat)(st:Rd)(vn vo vd vt:Value)(ys:List Ny)(x:Nd):Prop where
 rd:S7 w B rb st vn vo vd vt ys
 bx:B<=xb
 nx:vn.ownBlock≠some xb
 at':∃vD vA,w.heap[xb]? = some (.cells #[.int .i64 x.k,.int .i64 x.n,.string x.p,.string x.l,.string x.u,.string x.t,vD,vA] 46 (0,0))/\a0X w B ys vd vD vA x.ds x.ats
theorem a5e(x:Nd)(p l:List UInt8)(v:ByteArray):(V4 x p l v).k=x.k/\(V4 x p l v).n=x.n/\(V4 x p l v).p=x.p/\(V4 x p l v).l=x.l/\(V4 x p l v).u=x.u/\(V4 x p l v).t=x.t:=by
 unfold V4
 split
 ·exact⟨rfl,rfl,rfl,rfl,rfl,rfl⟩
 ·split<;>exact⟨rfl,rfl,rfl,rfl,rfl,rfl⟩
theorem b4I(hU:a0s)(w:World)(B rb xb:Nat)(st:Rd)(vn vo vd vt:Value)(ys:List Ny)(x x':Nd)(r:List UInt8)(hf:a1J st)(h:RX w B rb xb st vn vo vd vt ys x)(D0:x.ds.length<=100000)(D1:x.ats.length<=100000)(hB : 8<=B)(hW:Wd w)(hm:T5 st.rest x=some (r,x')) :
 Calls Tryz.prog 162 #[.pointer (some ⟨rb,0,none⟩),.pointer (some ⟨xb,0,none⟩)] w fun e w'=>e=.returned (.bool true)/\RX w' B rb xb { st with rest:=r } vn vo vd vt ys x'/\Below B w w':=by
 obtain⟨vD,vA,D2,hx⟩:=h.at';unfold T5 at hm;cases h1:M4 (G9 y8 st.rest)with
 |none=>rw[h1]at hm;cases hm
 |some q =>
  obtain⟨p,l⟩:=q;rw[h1]at hm;dsimp only at hm;cases h2:V3 (J9 y8 st.rest)with
  |none=>rw[h2]at hm;cases hm
  |some r2 =>
   rw[h2]at hm;dsimp only at hm;cases h3:V0 r2 with
   |none=>rw[h3]at hm;cases hm
   |some q2 =>
    obtain⟨q,r3⟩:=q2;rw[h3]at hm;dsimp only at hm;cases h4:X5 q with
    |none=>rw[h4]at hm;cases hm
    |some v =>
     rw[h4]at hm;simp only[f5,Prod.mk.injEq]at hm;obtain⟨rfl,rfl⟩:=hm;have D3:=hf.rest;have ha:=a0S y8 st.rest;have hb:=a0R y8 st.rest;have he:=a0o h2;have hq:=a1d h3;refine(a4d w B rb xb st vn vo vd vt vD vA ys x p l (ba (G9 y8 st.rest)) (ba v) true true (J9 y8 st.rest) r2 r3 h.rd D2 hx h.bx h.nx D0 D1 hB hW (hU st.rest y8 rb w h.rd.curAt D3 (.inr (.inr rfl))) (fun w' hw=>a3F (by omega) h1 w' hw) (fun w' hc=>L5 _ r2 rb w' hc (by omega) h2) (ba q) (fun w' hc hm'=>T9 r2 q r3 rb w' hc hm' (by omega) h3) (fun w' hw=>a59 (by omega) h4 w' hw)).mono ?_
     rintro e w'⟨rfl,hr,D9,vD',vA',hb',hx'⟩;obtain⟨s1,s2,s3,s4,s5,s6⟩:=a5e x p l (ba v);exact⟨rfl,⟨hr,h.bx,h.nx,vD',vA',by rw[s1,s2,s3,s4,s5,s6];exact hb',hx'⟩,D9⟩
theorem b4K(hU:a0s)(w:World)(B rb xb:Nat)(st:Rd)(vn vo vd vt:Value)(ys:List Ny)(x:Nd)(hf:a1J st)(h:RX w B rb xb st vn vo vd vt ys x)(E4:x.ds.length<=100000)(E5:x.ats.length<=100000)(hB : 8<=B)(hW:Wd w)(hm:T5 st.rest x=none) :
 Calls Tryz.prog 162 #[.pointer (some ⟨rb,0,none⟩),.pointer (some ⟨xb,0,none⟩)] w fun e w'=>e=.returned (.bool false)/\Below B w w':=by
 obtain⟨vD,vA,D9,hx⟩:=h.at';have E7:=hf.rest;have ha:=a0S y8 st.rest;have hb:=a0R y8 st.rest;have E0:=a8 (hU st.rest y8 rb w h.rd.curAt E7 (.inr (.inr rfl)));have E1:B<=w.heap.size:=d8 h.rd.lo (A6 (i3 h.rd.box));have H:=a8 h.rd;unfold T5 at hm;cases h1:M4 (G9 y8 st.rest)with
 |none =>
  have D1:Hid (∀w',Wd w'->_):=fun w' hw=>a6j (show(G9 y8 st.rest).length<=100000 by omega) h1 w' hw
  have HW:=a8 hW;clear hm h1 hx D9 h hW hf ha hb hU;generalize G9 y8 st.rest=S1 at *;generalize J9 y8 st.rest=S2 at *;go_enter Tryz.func162,Tryz.ntmps162
  go_wp2_with fail
  refine E0.out.mono ?_;rintro e w1⟨rfl,D2⟩;have D0:=a8 (D2.below H.out.lo E1);clear D2
  go_wp2_with fail
  refine(D1.out w1 (HW.out.low hB D0.out)).mono ?_;rintro e w2⟨rfl,D3⟩;have E3:=a8 (D0.out.trans (D3.mono (d8 E1 D0.out.size)));clear D3;go_wp2;go_ret;exact⟨rfl,E3.out⟩
 |some q =>
  obtain⟨p,l⟩:=q;rw[h1]at hm;dsimp only at hm;have D1:Hid (∀w',Wd w'->_):=fun w' hw=>a3F (show(G9 y8 st.rest).length<=100000 by omega) h1 w' hw
  cases h2:V3 (J9 y8 st.rest)with
  |none =>
   have E8:Hid (∀w',n0 w' rb (ba (J9 y8 st.rest))->_):=fun w' hc=>a1y (J9 y8 st.rest) rb w' hc (by omega) h2
   have HW:=a8 hW;clear hm h1 h2 hx D9 h hW hf ha hb hU;generalize G9 y8 st.rest=S1 at *;generalize J9 y8 st.rest=S2 at *;go_enter Tryz.func162,Tryz.ntmps162
   go_wp2_with fail
   refine E0.out.mono ?_;rintro e w1⟨rfl,D2⟩;have D0:=a8 (D2.below H.out.lo E1);have H1:=a8 (H.out.cur D2);clear D2
   go_wp2_with fail
   refine(D1.out w1 (HW.out.low hB D0.out)).mono ?_;rintro e w2⟨rfl,D3⟩;have E3:=a8 (D0.out.trans (D3.mono (d8 E1 D0.out.size)));have H2:=a8 (H1.out.below D3);clear D3
   go_wp2_with fail
   refine(E8.out w2 H2.out.curAt).mono ?_;rintro e w3⟨rfl,rr,_,E6⟩;have G0:=a8 (E3.out.trans (E6.below H.out.lo (d8 E1 E3.out.size)));clear E6;go_wp2;go_ret;exact⟨rfl,G0.out⟩
  |some r2 =>
   rw[h2]at hm;dsimp only at hm;have he:=a0o h2;cases h3:V0 r2 with
   |none =>
    cases hv:X5 []with
    |none =>
     refine(a4d w B rb xb st vn vo vd vt vD vA ys x p l (ba (G9 y8 st.rest)) ⟨#[]⟩ false false (J9 y8 st.rest) r2 (a8P r2) h.rd D9 hx h.bx h.nx E4 E5 hB hW E0 D1 (fun w' hc=>L5 _ r2 rb w' hc (by omega) h2) (ba []) (fun w' hc hm'=>a1S r2 rb w' hc hm' (by omega) h3) (fun w' hw=>a6a (by simp) hv w' hw)).mono ?_
     rintro e w'⟨rfl,_,E2,_⟩;exact⟨rfl,E2⟩
    |some v =>
     refine(a4d w B rb xb st vn vo vd vt vD vA ys x p l (ba (G9 y8 st.rest)) (ba v) false true (J9 y8 st.rest) r2 (a8P r2) h.rd D9 hx h.bx h.nx E4 E5 hB hW E0 D1 (fun w' hc=>L5 _ r2 rb w' hc (by omega) h2) (ba []) (fun w' hc hm'=>a1S r2 rb w' hc hm' (by omega) h3) (fun w' hw=>a59 (by simp) hv w' hw)).mono ?_
     rintro e w'⟨rfl,_,E2,_⟩;exact⟨rfl,E2⟩
   |some q2 =>
    obtain⟨q,r3⟩:=q2;rw[h3]at hm;dsimp only at hm;have hq:=a1d h3;cases h4:X5 q with
    |some v=>rw[h4]at hm;cases hm
    |none =>
     refine(a4d w B rb xb st vn vo vd vt vD vA ys x p l (ba (G9 y8 st.rest)) ⟨#[]⟩ true false (J9 y8 st.rest) r2 r3 h.rd D9 hx h.bx h.nx E4 E5 hB hW E0 D1 (fun w' hc=>L5 _ r2 rb w' hc (by omega) h2) (ba q) (fun w' hc hm'=>T9 r2 q r3 rb w' hc hm' (by omega) h3) (fun w' hw=>a6a (by omega) h4 w' hw)).mono ?_
     rintro e w'⟨rfl,_,E2,_⟩;exact⟨rfl,E2⟩
end Go.Proofs.YtlgcigmolfhamaaGreatDoor
