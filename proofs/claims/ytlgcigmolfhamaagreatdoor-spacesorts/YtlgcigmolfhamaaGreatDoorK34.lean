/-
  parse.reader: next. Conditions: the reader lies as it is; nothing is too long; upTo answers what it is to answer.
  parse.reader: what next leaves stays small: plain mathematics. Conditions: none.
  parse.read: the loop over next, as plain mathematics; what it leaves stays small. Conditions: none.
-/
import Derived.Test.YtlgcigmolfhamaaGreatDoorK33
namespace Go.Proofs.YtlgcigmolfhamaaGreatDoor
open Go.RowKit
set_option linter.unusedVariables false
set_option maxRecDepth 100000
set_option maxHeartbeats 16000000
theorem a05{T:Option Rd}{B rb:Nat}{e:Ending}{w':World}(h:a2X T B rb e w'):∃b,e=.returned (.bool b)/\a2X T B rb (.returned (.bool b)) w':=by
 cases T with
 |none=>exact⟨false,h,rfl⟩
 |some s=>exact⟨true,h.1,rfl,h.2⟩
def a3R(st:Rd)(o:Po):Option Rd:=match K5 [45,45,62] st.rest with
 |none=>none
 |some (p,r)=>some (a1o { st with rest:=r } o (a15 p))
def a4w(st:Rd):Option Rd:=match K5 [93,93,62] st.rest with
 |none=>none
 |some (p,r)=>if st.op.length=1 then none else some { st with rest:=r,tx:=st.tx++p }
def a2v(st:Rd)(o:Po):Option Rd:=match K5 [63,62] st.rest with
 |none=>none
 |some (p,r)=>some (a1o { st with rest:=r } o (a0Z (G9 [32,9,10] p) (n8 (J9 [32,9,10] p))))
noncomputable def a3t(st:Rd):Option Rd :=
 if st.op.length=1 then(if a1O (G9 [60] st.rest)=[]then some { st with rest:=J9 [60] st.rest } else none)
 else match J7 (G9 [60] st.rest)with
  |none=>none
  |some y=>some { st with rest:=J9 [60] st.rest,tx:=st.tx++y }
theorem b7k(w:World)(B rb:Nat)(st:Rd)(fr:List Po)(o:Po)(ho:st.op=fr++[o])(hf:a1J st)(h:O8 w B rb st)(hB : 8<=B)(hW:Wd w) :
 Calls Tryz.prog 116 #[.pointer (some ⟨rb,0,none⟩)] w fun e w'=>a2X (a3R st o) B rb e w'/\Below B w w':=by
 unfold a3R;cases hc:K5 [45,45,62] st.rest with
 |none=>exact a9B w B rb st fr o ho hf h hB hW hc
 |some q =>
  obtain⟨p,r⟩:=q;exact(a9A w B rb st fr o ho hf h hB hW p r hc).mono fun e w' ⟨h1,h2,h3⟩=>⟨⟨h1,h2⟩,h3⟩
theorem b7e(w:World)(B rb:Nat)(st:Rd)(hf:a1J st)(h:O8 w B rb st)(hW:Wd w) :
 Calls Tryz.prog 117 #[.pointer (some ⟨rb,0,none⟩)] w fun e w'=>a2X (a4w st) B rb e w'/\Below B w w':=by
 unfold a4w;cases hc:K5 [93,93,62] st.rest with
 |none=>exact b5g w B rb st hf h hW hc
 |some q =>
  obtain⟨p,r⟩:=q;refine(b5f w B rb st hf h hW p r hc).mono fun e w' ⟨h1,h2,h3⟩=>⟨?_,h3⟩;dsimp only;by_cases h0:st.op.length=1
  ·rw[g8 h0];rw[i6 h0]at h1;exact h1
  ·rw[f6 h0];rw[f8 h0]at h1;exact⟨h1,h2⟩
theorem b6L(hU:a0s)(w:World)(B rb:Nat)(st:Rd)(fr:List Po)(o:Po)(ho:st.op=fr++[o])(hf:a1J st)(h:O8 w B rb st)(hW:Wd w) :
 Calls Tryz.prog 118 #[.pointer (some ⟨rb,0,none⟩)] w fun e w'=>a2X (a2v st o) B rb e w'/\Below B w w':=by
 have D0:n0 w rb (ba st.rest):=by obtain⟨_,_,_,_,_,h⟩:=h;exact h.curAt
 have D1:=hf.rest;unfold a2v;cases hc:K5 [63,62] st.rest with
 |none=>exact(b3q hU w B rb st fr o ho hf h hW false [] st.rest (a0f st.rest [63,62] rb w D0 hW.max (by omega) hc) (o4 _)).mono fun e w' ⟨h1,h2,h3⟩=>⟨h1,h3⟩
 |some q =>
  obtain⟨p,r⟩:=q;exact(b3q hU w B rb st fr o ho hf h hW true p r (a0e st.rest [63,62] p r rb w D0 hW.max (by omega) hc) (by have:=P4 hc;omega)).mono fun e w' ⟨h1,h2,h3⟩=>⟨⟨h1,h2⟩,h3⟩
theorem b6d(hU:a0s)(w:World)(B rb:Nat)(st:Rd)(hf:a1J st)(h:O8 w B rb st)(hB : 8<=B)(hW:Wd w) :
 Calls Tryz.prog 121 #[.pointer (some ⟨rb,0,none⟩)] w fun e w'=>a2X (a3t st) B rb e w'/\Below B w w':=by
 unfold a3t;by_cases h0:st.op.length=1
 ·rw[g8 h0]
  refine(b4r hU w B rb st hf h h0).mono fun e w' ⟨h1,h2,h3⟩=>⟨?_,h3⟩;by_cases ht:a1O (G9 [60] st.rest)=[]
  ·rw[g8 ht];rw[i6 ht]at h1;exact⟨h1,h2⟩
  ·rw[f6 ht];rw[f8 ht]at h1;exact h1
 ·rw[f6 h0]
  cases hc:J7 (G9 [60] st.rest)with
  |none=>exact b2a hU w B rb st hf h h0 hB hW hc
  |some y=>exact(b19 hU w B rb st hf h h0 hB hW y hc).mono fun e w' ⟨h1,h2,h3⟩=>⟨⟨h1,h2⟩,h3⟩
theorem b42(w:World)(B rb:Nat)(st:Rd)(fr:List Po)(o:Po)(ho:st.op=fr++[o])(hf:a1J st)(D1:o.outer<=st.ds.length)(h:O8 w B rb st) :
 Calls Tryz.prog 119 #[.pointer (some ⟨rb,0,none⟩)] w fun e w'=>a2X (Z8 st fr o) B rb e w'/\Below B w w':=by
 have D0:fr.length<=1000000:=by have:=hf.op;rw[ho,e8]at this;simp at this;omega
 by_cases h0:st.op.length=1
 ·unfold Z8;rw[g8 h0];exact b6Y w B rb st h h0
 ·cases hp:m9 o.full st.rest with
  |none=>unfold Z8;rw[f6 h0,hp];exact b43 w B rb st fr o ho D0 h h0 hp
  |some r=>exact b6Z w B rb st fr o ho D0 h h0 r hp hf D1
noncomputable def L0(st:Rd)(fr:List Po)(o:Po):Option Rd :=
 match m9 [60,33,45,45] st.rest with
 |some r=>a3R { st with rest:=r } o
 |none=>match m9 [60,33,91,67,68,65,84,65,91] st.rest with
  |some r=>a4w { st with rest:=r }
  |none=>match m9 [60,63] st.rest with
   |some r=>a2v { st with rest:=r } o
   |none=>match m9 [60,47] st.rest with
    |some r=>Z8 { st with rest:=r } fr o
    |none=>match m9 [60] st.rest with
     |some r=>a1Q { st with rest:=r } o
     |none=>a3t st
theorem b6u(hU:a0s)(w:World)(B rb:Nat)(st:Rd)(fr:List Po)(o:Po)(ho:st.op=fr++[o])(J5:o.outer<=st.ds.length)(hr:st.rest.length<=100000)(J6:st.ns.length<=800000)(J7:st.op.length<=800000)(J8:st.ds.length<=800000)(J4:st.tx.length<=1000000)(h:O8 w B rb st)(hB : 8<=B)(hW:Wd w) :
 Calls Tryz.prog 76 #[.pointer (some ⟨rb,0,none⟩)] w fun e w'=>a2X (L0 st fr o) B rb e w'/\Below B w w':=by
 have D0:B<=w.heap.size:=by obtain⟨vn,vo,vd,vt,ys,h⟩:=h;exact d8 h.lo (A6 (i3 h.box))
 have D1:B<=rb:=by obtain⟨vn,vo,vd,vt,ys,h⟩:=h;exact h.lo
 have G6:Hid (∀r:List UInt8,r.length<=100000->a1J { st with rest:=r }):=fun r h=>⟨h,by show st.ns.length<=_;omega,by show st.op.length<=_;omega,by show st.ds.length<=_;omega,J4⟩
 have D2:Hid (∀w' s,O8 w' B rb s->n0 w' rb (ba s.rest)):=fun w' s ⟨_,_,_,_,_,h⟩=>h.curAt;have D3:Hid (∀w' w'' (s:Rd) r,O8 w' B rb s->N7 rb (ba r) w' w''->O8 w'' B rb { s with rest:=r }):=fun w' w'' s r ⟨vn,vo,vd,vt,ys,h⟩ hc=>⟨vn,vo,vd,vt,ys,h.cur hc⟩;have HU:=a8 hU;have HR:=a8 h;have HW:=a8 hW;have G9:=a8 ho;have E4:=a8 (b8 B w);clear hU h hW ho;unfold L0;cases h0:m9 [60,33,45,45] st.rest with
 |some r =>
  dsimp only;have hl:=G5 h0;have G0:Hid (∀w',n0 w' rb (ba st.rest)->_):=fun w' hc=>F2 st.rest [60,33,45,45] r rb w' hc h0;clear h0;have D9:Hid (∀w',O8 w' B rb { st with rest:=r }->Wd w'->Calls Tryz.prog 116 #[.pointer (some ⟨rb,0,none⟩)] w' fun e w''=>a2X (a3R { st with rest:=r } o) B rb e w''/\Below B w' w''):=fun w' hr hw=>b7k w' B rb { st with rest:=r } fr o G9.out (G6.out r (by omega)) hr hB hw
  obtain⟨T,hT⟩ : ∃T,a3R { st with rest:=r } o=T:=⟨_,rfl⟩;rw[hT]at D9 ⊢;clear hT;go_enter Tryz.func76,Tryz.ntmps76
  go_wp2_with fail
  refine(G0.out _ (D2.out _ _ HR.out)).mono ?_;rintro e w0⟨rfl,hc⟩;have E1:=a8 (D3.out _ _ _ _ HR.out hc);have E0:=a8 (E4.out.trans (hc.below D1 (d8 D0 E4.out.size)));clear hc
  go_wp2_with fail
  refine(D9.out _ E1.out (HW.out.low hB E0.out)).mono ?_;rintro e wz⟨ht,hb⟩;obtain⟨b,rfl,ht⟩:=a05 ht;have HT:=a8 ht;have E5:=a8 (E0.out.trans hb);clear ht hb;go_wp2;go_ret;exact⟨HT.out,E5.out⟩
 |none =>
  dsimp only;have G0:Hid (∀w',n0 w' rb (ba st.rest)->_):=fun w' hc=>K9 st.rest [60,33,45,45] rb w' hc h0;clear h0;cases h1:m9 [60,33,91,67,68,65,84,65,91] st.rest with
  |some r =>
   dsimp only;have hl:=G5 h1;have G4:Hid (∀w',n0 w' rb (ba st.rest)->_):=fun w' hc=>F2 st.rest [60,33,91,67,68,65,84,65,91] r rb w' hc h1;clear h1;have D9:Hid (∀w',O8 w' B rb { st with rest:=r }->Wd w'->Calls Tryz.prog 117 #[.pointer (some ⟨rb,0,none⟩)] w' fun e w''=>a2X (a4w { st with rest:=r }) B rb e w''/\Below B w' w''):=fun w' hr hw=>b7e w' B rb { st with rest:=r } (G6.out r (by omega)) hr hw
   obtain⟨T,hT⟩ : ∃T,a4w { st with rest:=r }=T:=⟨_,rfl⟩;rw[hT]at D9 ⊢;clear hT;go_enter Tryz.func76,Tryz.ntmps76
   go_wp2_with fail
   refine(G0.out _ (D2.out _ _ HR.out)).mono ?_;rintro e w0⟨rfl,hc⟩;have E1:=a8 (D3.out _ _ _ _ HR.out hc);have E0:=a8 (E4.out.trans (hc.below D1 (d8 D0 E4.out.size)));clear hc
   go_wp2_with fail
   refine(G4.out _ (D2.out _ _ E1.out)).mono ?_;rintro e w1⟨rfl,hc⟩;have E3:=a8 (D3.out _ _ _ _ E1.out hc);have E2:=a8 (E0.out.trans (hc.below D1 (d8 D0 E0.out.size)));clear hc
   go_wp2_with fail
   refine(D9.out _ E3.out (HW.out.low hB E2.out)).mono ?_;rintro e wz⟨ht,hb⟩;obtain⟨b,rfl,ht⟩:=a05 ht;have HT:=a8 ht;have E5:=a8 (E2.out.trans hb);clear ht hb;go_wp2;go_ret;exact⟨HT.out,E5.out⟩
  |none =>
   dsimp only;have G4:Hid (∀w',n0 w' rb (ba st.rest)->_):=fun w' hc=>K9 st.rest [60,33,91,67,68,65,84,65,91] rb w' hc h1;clear h1;cases h2:m9 [60,63] st.rest with
   |some r =>
    dsimp only;have hl:=G5 h2;have G7:Hid (∀w',n0 w' rb (ba st.rest)->_):=fun w' hc=>F2 st.rest [60,63] r rb w' hc h2;clear h2;have D9:Hid (∀w',O8 w' B rb { st with rest:=r }->Wd w'->Calls Tryz.prog 118 #[.pointer (some ⟨rb,0,none⟩)] w' fun e w''=>a2X (a2v { st with rest:=r } o) B rb e w''/\Below B w' w''):=fun w' hr hw=>b6L HU.out w' B rb { st with rest:=r } fr o G9.out (G6.out r (by omega)) hr hw
    obtain⟨T,hT⟩ : ∃T,a2v { st with rest:=r } o=T:=⟨_,rfl⟩;rw[hT]at D9 ⊢;clear hT;go_enter Tryz.func76,Tryz.ntmps76
    go_wp2_with fail
    refine(G0.out _ (D2.out _ _ HR.out)).mono ?_;rintro e w0⟨rfl,hc⟩;have E1:=a8 (D3.out _ _ _ _ HR.out hc);have E0:=a8 (E4.out.trans (hc.below D1 (d8 D0 E4.out.size)));clear hc
    go_wp2_with fail
    refine(G4.out _ (D2.out _ _ E1.out)).mono ?_;rintro e w1⟨rfl,hc⟩;have E3:=a8 (D3.out _ _ _ _ E1.out hc);have E2:=a8 (E0.out.trans (hc.below D1 (d8 D0 E0.out.size)));clear hc
    go_wp2_with fail
    refine(G7.out _ (D2.out _ _ E3.out)).mono ?_;rintro e w2⟨rfl,hc⟩;have E7:=a8 (D3.out _ _ _ _ E3.out hc);have E6:=a8 (E2.out.trans (hc.below D1 (d8 D0 E2.out.size)));clear hc
    go_wp2_with fail
    refine(D9.out _ E7.out (HW.out.low hB E6.out)).mono ?_;rintro e wz⟨ht,hb⟩;obtain⟨b,rfl,ht⟩:=a05 ht;have HT:=a8 ht;have E5:=a8 (E6.out.trans hb);clear ht hb;go_wp2;go_ret;exact⟨HT.out,E5.out⟩
   |none =>
    dsimp only;have G7:Hid (∀w',n0 w' rb (ba st.rest)->_):=fun w' hc=>K9 st.rest [60,63] rb w' hc h2;clear h2;cases h3:m9 [60,47] st.rest with
    |some r =>
     dsimp only;have hl:=G5 h3;have J1:Hid (∀w',n0 w' rb (ba st.rest)->_):=fun w' hc=>F2 st.rest [60,47] r rb w' hc h3;clear h3;have D9:Hid (∀w',O8 w' B rb { st with rest:=r }->Wd w'->Calls Tryz.prog 119 #[.pointer (some ⟨rb,0,none⟩)] w' fun e w''=>a2X (Z8 { st with rest:=r } fr o) B rb e w''/\Below B w' w''):=fun w' hr hw=>b42 w' B rb { st with rest:=r } fr o G9.out (G6.out r (by omega)) J5 hr
     obtain⟨T,hT⟩ : ∃T,Z8 { st with rest:=r } fr o=T:=⟨_,rfl⟩;rw[hT]at D9 ⊢;clear hT;go_enter Tryz.func76,Tryz.ntmps76
     go_wp2_with fail
     refine(G0.out _ (D2.out _ _ HR.out)).mono ?_;rintro e w0⟨rfl,hc⟩;have E1:=a8 (D3.out _ _ _ _ HR.out hc);have E0:=a8 (E4.out.trans (hc.below D1 (d8 D0 E4.out.size)));clear hc
     go_wp2_with fail
     refine(G4.out _ (D2.out _ _ E1.out)).mono ?_;rintro e w1⟨rfl,hc⟩;have E3:=a8 (D3.out _ _ _ _ E1.out hc);have E2:=a8 (E0.out.trans (hc.below D1 (d8 D0 E0.out.size)));clear hc
     go_wp2_with fail
     refine(G7.out _ (D2.out _ _ E3.out)).mono ?_;rintro e w2⟨rfl,hc⟩;have E7:=a8 (D3.out _ _ _ _ E3.out hc);have E6:=a8 (E2.out.trans (hc.below D1 (d8 D0 E2.out.size)));clear hc
     go_wp2_with fail
     refine(J1.out _ (D2.out _ _ E7.out)).mono ?_;rintro e w3⟨rfl,hc⟩;have G1:=a8 (D3.out _ _ _ _ E7.out hc);have E8:=a8 (E6.out.trans (hc.below D1 (d8 D0 E6.out.size)));clear hc
     go_wp2_with fail
     refine(D9.out _ G1.out (HW.out.low hB E8.out)).mono ?_;rintro e wz⟨ht,hb⟩;obtain⟨b,rfl,ht⟩:=a05 ht;have HT:=a8 ht;have E5:=a8 (E8.out.trans hb);clear ht hb;go_wp2;go_ret;exact⟨HT.out,E5.out⟩
    |none =>
     dsimp only;have J1:Hid (∀w',n0 w' rb (ba st.rest)->_):=fun w' hc=>K9 st.rest [60,47] rb w' hc h3;clear h3;cases h4:m9 [60] st.rest with
     |some r =>
      dsimp only;have hl:=G5 h4;have J2:Hid (∀w',n0 w' rb (ba st.rest)->_):=fun w' hc=>F2 st.rest [60] r rb w' hc h4;clear h4;have D9:Hid (∀w',O8 w' B rb { st with rest:=r }->Wd w'->Calls Tryz.prog 120 #[.pointer (some ⟨rb,0,none⟩)] w' fun e w''=>a2X (a1Q { st with rest:=r } o) B rb e w''/\Below B w' w''):=fun w' hr hw=>b5P HU.out w' B rb { st with rest:=r } fr o G9.out (by show r.length<=_;omega) J6 J7 J8 J4 hr hB hw
      obtain⟨T,hT⟩ : ∃T,a1Q { st with rest:=r } o=T:=⟨_,rfl⟩;rw[hT]at D9 ⊢;clear hT;go_enter Tryz.func76,Tryz.ntmps76
      go_wp2_with fail
      refine(G0.out _ (D2.out _ _ HR.out)).mono ?_;rintro e w0⟨rfl,hc⟩;have E1:=a8 (D3.out _ _ _ _ HR.out hc);have E0:=a8 (E4.out.trans (hc.below D1 (d8 D0 E4.out.size)));clear hc
      go_wp2_with fail
      refine(G4.out _ (D2.out _ _ E1.out)).mono ?_;rintro e w1⟨rfl,hc⟩;have E3:=a8 (D3.out _ _ _ _ E1.out hc);have E2:=a8 (E0.out.trans (hc.below D1 (d8 D0 E0.out.size)));clear hc
      go_wp2_with fail
      refine(G7.out _ (D2.out _ _ E3.out)).mono ?_;rintro e w2⟨rfl,hc⟩;have E7:=a8 (D3.out _ _ _ _ E3.out hc);have E6:=a8 (E2.out.trans (hc.below D1 (d8 D0 E2.out.size)));clear hc
      go_wp2_with fail
      refine(J1.out _ (D2.out _ _ E7.out)).mono ?_;rintro e w3⟨rfl,hc⟩;have G1:=a8 (D3.out _ _ _ _ E7.out hc);have E8:=a8 (E6.out.trans (hc.below D1 (d8 D0 E6.out.size)));clear hc
      go_wp2_with fail
      refine(J2.out _ (D2.out _ _ G1.out)).mono ?_;rintro e w4⟨rfl,hc⟩;have J3:=a8 (D3.out _ _ _ _ G1.out hc);have G8:=a8 (E8.out.trans (hc.below D1 (d8 D0 E8.out.size)));clear hc
      go_wp2_with fail
      refine(D9.out _ J3.out (HW.out.low hB G8.out)).mono ?_;rintro e wz⟨ht,hb⟩;obtain⟨b,rfl,ht⟩:=a05 ht;have HT:=a8 ht;have E5:=a8 (G8.out.trans hb);clear ht hb;go_wp2;go_ret;exact⟨HT.out,E5.out⟩
     |none =>
      dsimp only;have J2:Hid (∀w',n0 w' rb (ba st.rest)->_):=fun w' hc=>K9 st.rest [60] rb w' hc h4;clear h4;have D9:Hid (∀w',O8 w' B rb st->Wd w'->Calls Tryz.prog 121 #[.pointer (some ⟨rb,0,none⟩)] w' fun e w''=>a2X (a3t st) B rb e w''/\Below B w' w''):=fun w' hr hw=>b6d HU.out w' B rb st (G6.out st.rest (by omega)) hr hB hw
      obtain⟨T,hT⟩ : ∃T,a3t st=T:=⟨_,rfl⟩;rw[hT]at D9 ⊢;clear hT;go_enter Tryz.func76,Tryz.ntmps76
      go_wp2_with fail
      refine(G0.out _ (D2.out _ _ HR.out)).mono ?_;rintro e w0⟨rfl,hc⟩;have E1:=a8 (D3.out _ _ _ _ HR.out hc);have E0:=a8 (E4.out.trans (hc.below D1 (d8 D0 E4.out.size)));clear hc
      go_wp2_with fail
      refine(G4.out _ (D2.out _ _ E1.out)).mono ?_;rintro e w1⟨rfl,hc⟩;have E3:=a8 (D3.out _ _ _ _ E1.out hc);have E2:=a8 (E0.out.trans (hc.below D1 (d8 D0 E0.out.size)));clear hc
      go_wp2_with fail
      refine(G7.out _ (D2.out _ _ E3.out)).mono ?_;rintro e w2⟨rfl,hc⟩;have E7:=a8 (D3.out _ _ _ _ E3.out hc);have E6:=a8 (E2.out.trans (hc.below D1 (d8 D0 E2.out.size)));clear hc
      go_wp2_with fail
      refine(J1.out _ (D2.out _ _ E7.out)).mono ?_;rintro e w3⟨rfl,hc⟩;have G1:=a8 (D3.out _ _ _ _ E7.out hc);have E8:=a8 (E6.out.trans (hc.below D1 (d8 D0 E6.out.size)));clear hc
      go_wp2_with fail
      refine(J2.out _ (D2.out _ _ G1.out)).mono ?_;rintro e w4⟨rfl,hc⟩;have J3:=a8 (D3.out _ _ _ _ G1.out hc);have G8:=a8 (E8.out.trans (hc.below D1 (d8 D0 E8.out.size)));clear hc
      go_wp2_with fail
      refine(D9.out _ J3.out (HW.out.low hB G8.out)).mono ?_;rintro e wz⟨ht,hb⟩;obtain⟨b,rfl,ht⟩:=a05 ht;have HT:=a8 ht;have E5:=a8 (G8.out.trans hb);clear ht hb;go_wp2;go_ret;exact⟨HT.out,E5.out⟩
theorem a5P(st:Rd)(o:Po)(h:st.tx=[]):(Q1 st o).ns=st.ns:=by
 unfold Q1;simp[h]
theorem a7i(st:Rd)(o:Po)(x:Nd):(a1o st o x).ns.length<=st.ns.length+2:=by
 have:=a4q st o
 show((Q1 st o).ns++[G6 x o.node]).length<=_
 rw[e8,j0];omega
structure a4I(st st':Rd)(m:Nat):Prop where
 r:st'.rest.length<=st.rest.length
 n:st'.ns.length+2*st'.rest.length<=st.ns.length+2*st.rest.length+2*m
 o:st'.op.length+st'.rest.length<=st.op.length+st.rest.length+m
 d:st'.ds.length+st'.rest.length<=st.ds.length+st.rest.length
 t:st'.tx.length+4*st'.rest.length<=st.tx.length+4*st.rest.length
 opn:(st'.op=st.op/\st.ds.length<=st'.ds.length)∨(∃o',st'.op=st.op++[o']/\o'.outer=st.ds.length/\st.ds.length<=st'.ds.length)∨(∃fr o,st.op=fr++[o]/\fr≠[]/\st'.op=fr/\st'.ds=st.ds.take o.outer)
theorem a8m{st st':Rd}{o:Po}(h:a3R st o=some st'):a4I st st' 1:=by
 unfold a3R at h;cases hc:K5 [45,45,62] st.rest with
 |none=>rw[hc]at h;cases h
 |some q =>
  obtain⟨p,r⟩:=q;rw[hc]at h;simp only[f5]at h;subst h;obtain⟨h1,h2,h3⟩:=P4 hc;have:=a7i { st with rest:=r } o (a15 p);simp only at this;refine⟨h2,?_,?_,?_,?_,.inl ⟨rfl,c9 _⟩⟩
  ·show _+2*r.length<=_;omega
  ·show st.op.length+r.length<=_;omega
  ·show st.ds.length+r.length<=_;omega
  ·show 0+4*r.length<=_;omega
theorem a8k{st st':Rd}(h:a4w st=some st'):a4I st st' 1:=by
 unfold a4w at h;cases hc:K5 [93,93,62] st.rest with
 |none=>rw[hc]at h;cases h
 |some q =>
  obtain⟨p,r⟩:=q;rw[hc]at h;dsimp only at h
  split at h
  ·cases h
  ·simp only[f5]at h
   subst h;obtain⟨h1,h2,h3⟩:=P4 hc;refine⟨h2,?_,?_,?_,?_,.inl ⟨rfl,c9 _⟩⟩
   ·show st.ns.length+2*r.length<=_;omega
   ·show st.op.length+r.length<=_;omega
   ·show st.ds.length+r.length<=_;omega
   ·show(st.tx++p).length+4*r.length<=_;rw[e8];omega
theorem a7Z{st st':Rd}{o:Po}(h:a2v st o=some st'):a4I st st' 1:=by
 unfold a2v at h;cases hc:K5 [63,62] st.rest with
 |none=>rw[hc]at h;cases h
 |some q =>
  obtain⟨p,r⟩:=q;rw[hc]at h;simp only[f5]at h;subst h;obtain⟨h1,h2,h3⟩:=P4 hc;have:=a7i { st with rest:=r } o (a0Z (G9 [32,9,10] p) (n8 (J9 [32,9,10] p)));simp only at this;refine⟨h2,?_,?_,?_,?_,.inl ⟨rfl,c9 _⟩⟩
  ·show _+2*r.length<=_;omega
  ·show st.op.length+r.length<=_;omega
  ·show st.ds.length+r.length<=_;omega
  ·show 0+4*r.length<=_;omega
theorem a8x(e s:List UInt8):(G9 e s).length+(J9 e s).length=s.length:=by
 unfold G9 J9;rw[<-e8,List.takeWhile_append_dropWhile]
theorem a7P{st st':Rd}(h:a3t st=some st'):a4I st st' 0/\st'.rest=J9 [60] st.rest:=by
 have hu:=a8x [60] st.rest;unfold a3t at h
 split at h
 ·split at h
  ·simp only[f5]at h
   subst h;refine⟨⟨?_,?_,?_,?_,?_,.inl ⟨rfl,c9 _⟩⟩,rfl⟩
   ·show(J9 [60] st.rest).length<=_;omega
   ·show st.ns.length+2*(J9 [60] st.rest).length<=_;omega
   ·show st.op.length+(J9 [60] st.rest).length<=_;omega
   ·show st.ds.length+(J9 [60] st.rest).length<=_;omega
   ·show st.tx.length+4*(J9 [60] st.rest).length<=_;omega
  ·cases h
 ·cases hc:J7 (G9 [60] st.rest)with
  |none=>rw[hc]at h;cases h
  |some y =>
   rw[hc]at h;simp only[f5]at h;subst h;have hy:=a4y hc;refine⟨⟨?_,?_,?_,?_,?_,.inl ⟨rfl,c9 _⟩⟩,rfl⟩
   ·show(J9 [60] st.rest).length<=_;omega
   ·show st.ns.length+2*(J9 [60] st.rest).length<=_;omega
   ·show st.op.length+(J9 [60] st.rest).length<=_;omega
   ·show st.ds.length+(J9 [60] st.rest).length<=_;omega
   ·show(st.tx++y).length+4*(J9 [60] st.rest).length<=_;rw[e8];omega
theorem I7{p s r:List UInt8}(h:m9 p s=some r):s.length=p.length+r.length:=by rw[I6 h,e8]
theorem a60{st st':Rd}{fr:List Po}{o:Po}(ho:st.op=fr++[o])(h:Z8 st fr o=some st'):a4I st st' 1:=by
 unfold Z8 at h
 split at h
 ·cases h
 ·next h0 =>
  cases h1:m9 o.full st.rest with
  |none=>rw[h1]at h;cases h
  |some r =>
   rw[h1]at h;dsimp only at h;cases h2:m9 [62] (n8 r)with
   |none=>rw[h2]at h;cases h
   |some r' =>
    rw[h2]at h;simp only[f5]at h;subst h;have l1:=I7 h1;have l2:=I7 h2;have l3:=I0 r;have l4:=a4q { st with rest:=n8 r } o;simp only at l4;have l5:((st.ds.take o.outer).length)<=st.ds.length:=by rw[u0];omega
    have l6:st.op.length=fr.length+1:=by rw[ho,e8,j0]
    refine⟨by show r'.length<=_;omega,?_,?_,?_,?_,.inr (.inr ⟨fr,o,ho,?_,rfl,rfl⟩)⟩
    ·show _+2*r'.length<=_
     exact d8 (Nat.add_le_add_right l4 _) (by omega)
    ·show fr.length+r'.length<=_;omega
    ·show(st.ds.take o.outer).length+r'.length<=_;omega
    ·show 0+4*r'.length<=_;omega
    ·rintro rfl;exact h0 (by rw[l6];rfl)
theorem b3R(st:Rd)(o:Po)(x:Nd)(full:List UInt8):(a1s st o x full).ns.length<=st.ns.length+2:=a7i { st with ds:=st.ds++x.ds } o _
theorem a6g(full:List UInt8)(o:Po):∀(n:Nat) (st st':Rd) (x:Nd),a2A full o n st x=some st' ->
 st'.rest.length+1<=st.rest.length/\st'.ns.length+2*st'.rest.length<=st.ns.length+2*st.rest.length/\st'.op.length<=st.op.length+1/\st'.ds.length+st'.rest.length<=st.ds.length+x.ds.length+x.ats.length+st.rest.length/\st'.tx=[] /\
 ((st'.op=st.op/\st.ds.length<=st'.ds.length)∨(∃o',st'.op=st.op++[o']/\o'.outer=st.ds.length/\st.ds.length<=st'.ds.length))
 |0,st,st',x,h=>by cases h
 |n+1,st,st',x,h=>by
  rw[a2A]at h;have hb:=I0 st.rest;cases h1:m9 [62] (n8 st.rest)with
  |some r =>
   rw[h1]at h;simp only[f5]at h;subst h;have l1:=I7 h1;simp only[i8,t7]at l1;have l2:=b3R { st with rest:=r } o x full;simp only at l2;refine⟨by show r.length+1<=_;omega,by show _+2*r.length<=_;omega,by show(st.op++[_]).length<=_;rw[e8,j0];omega,by show(st.ds++x.ds).length+r.length<=_;rw[e8];omega,rfl,.inr ⟨_,rfl,rfl,by show _<=(st.ds++x.ds).length;rw[e8];omega⟩⟩
  |none =>
   rw[h1]at h;dsimp only at h;cases h2:m9 [47,62] (n8 st.rest)with
   |some r =>
    rw[h2]at h;simp only[f5]at h;subst h;have l1:=I7 h2;simp only[i8,t7]at l1;have l2:=b3R { st with rest:=r } o x full;simp only at l2;have l3:(a5z (a1s { st with rest:=r } o x full) st.op ⟨(Q1 { st with ds:=st.ds++x.ds } o).ns.length,full,st.ds.length⟩).ns=(a1s { st with rest:=r } o x full).ns:=a5P _ _ rfl;have l4:((st.ds++x.ds).take st.ds.length).length=st.ds.length:=by rw[u0,e8];omega
    refine⟨by show r.length+1<=_;omega,by rw[l3];show _+2*r.length<=_;omega,by show st.op.length<=_;omega,by show((st.ds++x.ds).take st.ds.length).length+r.length<=_;omega,rfl,.inl ⟨rfl,by show _<=((st.ds++x.ds).take st.ds.length).length;omega⟩⟩
   |none =>
    rw[h2]at h;dsimp only at h
    split at h
    ·next D0 =>
     cases hm:T5 (n8 st.rest) x with
     |none=>rw[hm]at h;cases h
     |some q =>
      obtain⟨r,x'⟩:=q;rw[hm]at h;dsimp only at h;have D1:=a3g hm;obtain⟨a1,a2,a3,a4,a5,a6⟩:=a6g full o n { st with rest:=r } st' x' h;dsimp only at a1 a2 a3 a4 a6;exact⟨by omega,by omega,a3,by omega,a5,a6⟩
    ·cases h
theorem a7F{st st':Rd}{o:Po}(h:a1Q st o=some st'):a4I st st' 1:=by
 unfold a1Q at h;cases hs:M4 (G9 y8 st.rest)with
 |none=>rw[hs]at h;cases h
 |some q =>
  obtain⟨p,l⟩:=q;rw[hs]at h;dsimp only at h;have hb:=a0R y8 st.rest;obtain⟨a1,a2,a3,a4,a5,a6⟩:=a6g _ o _ _ st' _ h;dsimp only at a1 a2 a3 a4 a6;simp only[t7]at a4;refine⟨by omega,by omega,by omega,by omega,by rw[a5];simp only[t7];omega,?_⟩
  rcases a6 with h|h
  ·exact .inl h
  ·exact .inr (.inl h)
structure Pot(n:Nat)(st:Rd):Prop where
 pr:st.rest.length<=n
 pn:st.ns.length+2*st.rest.length<=2*n+1
 po:st.op.length+st.rest.length<=n+1
 pd:st.ds.length+st.rest.length<=n
 pt:st.tx.length+4*st.rest.length<=4*n
 srt:st.op.Pairwise (fun a b=>a.outer<=b.outer)
 out:∀o∈st.op,o.outer<=st.ds.length
 ne:st.op≠[]
theorem b6b{n m:Nat}{st st':Rd}{r:List UInt8}(h:Pot n st)(hl:st.rest.length=m+r.length)(hg:a4I { st with rest:=r } st' m):Pot n st':=by
 obtain⟨g1,g2,g3,g4,g5,g6⟩:=hg;dsimp only at g1 g2 g3 g4 g5 g6;obtain⟨p1,p2,p3,p4,p5,p6,p7,p8⟩:=h;refine⟨by omega,by omega,by omega,by omega,by omega,?_,?_,?_⟩
 ·rcases g6 with⟨e,_⟩|⟨o',e,eo,_⟩|⟨fr,o,e,_,e2,_⟩
  ·rw[e];exact p6
  ·rw[e,List.pairwise_append]
   refine⟨p6,List.pairwise_singleton _ _,fun a ha b hb => ?_⟩;rw[r8]at hb;subst hb;rw[eo];exact p7 a ha
  ·rw[e,List.pairwise_append]at p6
   rw[e2];exact p6.1
 ·rcases g6 with⟨e,hd⟩|⟨o',e,eo,hd⟩|⟨fr,o,e,_,e2,e3⟩
  ·intro a ha;rw[e]at ha;have:=p7 a ha;omega
  ·intro a ha
   rw[e,D6,r8]at ha;rcases ha with ha|rfl
   ·have:=p7 a ha;omega
   ·omega
  ·intro a ha
   rw[e2]at ha;rw[e3,u0];have h1:=p7 a (by rw[e];exact List.mem_append_left _ ha)
   rw[e,List.pairwise_append]at p6;have h2:=p6.2.2 a ha o (List.mem_singleton_self _);omega
 ·rcases g6 with⟨e,_⟩|⟨o',e,_,_⟩|⟨fr,o,e,D0,e2,_⟩
  ·rw[e];exact p8
  ·rw[e];simp
  ·rw[e2];exact D0
theorem b0C{n:Nat}{st st':Rd}{fr:List Po}{o:Po}(h:Pot n st)(ho:st.op=fr++[o])(hr:st.rest≠[])(hn:L0 st fr o=some st'):Pot n st'/\st'.rest.length<st.rest.length:=by
 have go:∀{m:Nat} {r:List UInt8},st.rest.length=m+r.length->1<=m->a4I { st with rest:=r } st' 1->Pot n st'/\st'.rest.length<st.rest.length:=fun {m r} hl hm hg=>by
  have hr:=hg.r;dsimp only at hr;refine⟨b6b h hl ⟨hg.r,d8 hg.n (by omega),d8 hg.o (by omega),hg.d,hg.t,hg.opn⟩,by omega⟩
 unfold L0 at hn;cases h1:m9 [60,33,45,45] st.rest with
 |some r=>rw[h1]at hn;exact go (I7 h1) (by simp) (a8m hn)
 |none =>
 rw[h1]at hn;dsimp only at hn;cases h2:m9 [60,33,91,67,68,65,84,65,91] st.rest with
 |some r=>rw[h2]at hn;exact go (I7 h2) (by simp) (a8k hn)
 |none =>
 rw[h2]at hn;dsimp only at hn;cases h3:m9 [60,63] st.rest with
 |some r=>rw[h3]at hn;exact go (I7 h3) (by simp) (a7Z hn)
 |none =>
 rw[h3]at hn;dsimp only at hn;cases h4:m9 [60,47] st.rest with
 |some r=>rw[h4]at hn;exact go (I7 h4) (by simp) (a60 (st:={ st with rest:=r }) ho hn)
 |none =>
 rw[h4]at hn;dsimp only at hn;cases h5:m9 [60] st.rest with
 |some r=>rw[h5]at hn;exact go (I7 h5) (by simp) (a7F hn)
 |none =>
 rw[h5]at hn;dsimp only at hn;obtain⟨hg,he⟩:=a7P hn;refine⟨b6b (r:=st.rest) h (by omega) hg,?_⟩
 rw[he];cases hs:st.rest with
 |nil=>exact absurd hs hr
 |cons c s =>
  rw[hs]at h5
  have hc:c≠60:=by
   rintro rfl;simp[m9,List.isPrefixOf]at h5
  have hw:J9 [60] (c::s)=J9 [60] s:=by
   unfold J9;rw[List.dropWhile_cons_of_pos (by simp;exact hc)]
  rw[hw];have:=a0R [60] s;rw[i8];omega
noncomputable def Q7:Nat->Rd->Option (List Nd)
 |0,_=>none
 |n+1,st=>if st.rest=[]then(if st.op.length=1 then some st.ns else none)else
  match st.op.getLast? with
  |none=>none
  |some o=>match L0 st st.op.dropLast o with
   |none=>none
   |some st'=>Q7 n st'
def Y3:Nd:=⟨0,-1,⟨#[]⟩,⟨#[]⟩,⟨#[]⟩,⟨#[]⟩,[],[]⟩
def rd0(s:List UInt8):Rd:=⟨s,[Y3],[⟨0,[],0⟩],[],[]⟩
theorem b9Z(s:List UInt8):Pot s.length (rd0 s):=⟨c9 _,by show 1+2*s.length<=_;omega,by show 1+s.length<=_;omega,by show 0+s.length<=_;omega,by show 0+4*s.length<=_;omega,List.pairwise_singleton _ _,fun o ho=>by
 simp only[rd0,r8]at ho;subst ho;exact c9 _,by simp[rd0]⟩
theorem Pot.mono{n m:Nat}{st:Rd}(h:Pot n st)(hm:n<=m):Pot m st:=⟨d8 h.pr hm,d8 h.pn (by omega),d8 h.po (by omega),d8 h.pd hm,d8 h.pt (by omega),h.srt,h.out,h.ne⟩
end Go.Proofs.YtlgcigmolfhamaaGreatDoor
