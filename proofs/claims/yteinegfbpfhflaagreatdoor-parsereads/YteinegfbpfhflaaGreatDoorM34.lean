/-
  parse.reader: next. Conditions: the reader lies as it is; nothing is too long; upTo answers what it is to answer.
  parse.reader: what next leaves stays small: plain mathematics. Conditions: none.
  parse.read: the loop over next, as plain mathematics; what it leaves stays small. Conditions: none.
-/
import Derived.Test.YteinegfbpfhflaaGreatDoorM33
namespace Go.Proofs.YteinegfbpfhflaaGreatDoor
open Go.RowKit
set_option linter.unusedVariables false
set_option maxRecDepth 100000
set_option maxHeartbeats 16000000
theorem g9{T:Option Rd}{B rb:Nat}{e:Ending}{w':World}(h:kw T B rb e w'):∃b,e=.returned (.bool b)/\kw T B rb (.returned (.bool b)) w':=by
 cases T with
 |none=>exact⟨false,h,rfl⟩
 |some s=>exact⟨true,h.1,rfl,h.2⟩
def mG(st:Rd)(o:Po):Option Rd:=match cW [45,45,62] st.rest with
 |none=>none
 |some (p,r)=>some (iw { st with rest:=r } o (jn p))
def nB(st:Rd):Option Rd:=match cW [93,93,62] st.rest with
 |none=>none
 |some (p,r)=>if st.op.length=1 then none else some { st with rest:=r,tx:=st.tx++p }
def kh(st:Rd)(o:Po):Option Rd:=match cW [63,62] st.rest with
 |none=>none
 |some (p,r)=>some (iw { st with rest:=r } o (gU (cE [32,9,10] p) (aI (c9 [32,9,10] p))))
noncomputable def lS(st:Rd):Option Rd :=
 if st.op.length=1 then(if jz (cE [60] st.rest)=[]then some { st with rest:=c9 [60] st.rest } else none)
 else match cT (cE [60] st.rest)with
  |none=>none
  |some y=>some { st with rest:=c9 [60] st.rest,tx:=st.tx++y }
theorem DB(w:World)(B rb:Nat)(st:Rd)(fr:List Po)(o:Po)(ho:st.op=fr++[o])(hf:iV st)(h:dS w B rb st)(hB : 8<=B)(hW:Wd w) :
 Calls Tryz.prog 88 #[.pointer (some ⟨rb,0,none⟩)] w fun e w'=>kw (mG st o) B rb e w'/\Below B w w':=by
 unfold mG;cases hc:cW [45,45,62] st.rest with
 |none=>exact tP w B rb st fr o ho hf h hB hW hc
 |some q =>
  obtain⟨p,r⟩:=q;exact(tN w B rb st fr o ho hf h hB hW p r hc).mono fun e w' ⟨h1,h2,h3⟩=>⟨⟨h1,h2⟩,h3⟩
theorem Dw(w:World)(B rb:Nat)(st:Rd)(hf:iV st)(h:dS w B rb st)(hW:Wd w) :
 Calls Tryz.prog 89 #[.pointer (some ⟨rb,0,none⟩)] w fun e w'=>kw (nB st) B rb e w'/\Below B w w':=by
 unfold nB;cases hc:cW [93,93,62] st.rest with
 |none=>exact Bi w B rb st hf h hW hc
 |some q =>
  obtain⟨p,r⟩:=q;refine(Bg w B rb st hf h hW p r hc).mono fun e w' ⟨h1,h2,h3⟩=>⟨?_,h3⟩;dsimp only;by_cases h0:st.op.length=1
  ·rw[av h0];rw[ax h0]at h1;exact h1
  ·rw[am h0];rw[ap h0]at h1;exact⟨h1,h2⟩
theorem C4(hU:gm)(w:World)(B rb:Nat)(st:Rd)(fr:List Po)(o:Po)(ho:st.op=fr++[o])(hf:iV st)(h:dS w B rb st)(hW:Wd w) :
 Calls Tryz.prog 90 #[.pointer (some ⟨rb,0,none⟩)] w fun e w'=>kw (kh st o) B rb e w'/\Below B w w':=by
 have hca:aG w rb (ba st.rest):=by obtain⟨_,_,_,_,_,h⟩:=h;exact h.curAt
 have hrl:=hf.rest;unfold kh;cases hc:cW [63,62] st.rest with
 |none=>exact(yQ hU w B rb st fr o ho hf h hW false [] st.rest (fW st.rest [63,62] rb w hca hW.max (by omega) hc) (aM _)).mono fun e w' ⟨h1,h2,h3⟩=>⟨h1,h3⟩
 |some q =>
  obtain⟨p,r⟩:=q;exact(yQ hU w B rb st fr o ho hf h hW true p r (fV st.rest [63,62] p r rb w hca hW.max (by omega) hc) (by have:=dW hc;omega)).mono fun e w' ⟨h1,h2,h3⟩=>⟨⟨h1,h2⟩,h3⟩
theorem Cz(hU:gm)(w:World)(B rb:Nat)(st:Rd)(hf:iV st)(h:dS w B rb st)(hB : 8<=B)(hW:Wd w) :
 Calls Tryz.prog 93 #[.pointer (some ⟨rb,0,none⟩)] w fun e w'=>kw (lS st) B rb e w'/\Below B w w':=by
 unfold lS;by_cases h0:st.op.length=1
 ·rw[av h0]
  refine(zV hU w B rb st hf h h0).mono fun e w' ⟨h1,h2,h3⟩=>⟨?_,h3⟩;by_cases ht:jz (cE [60] st.rest)=[]
  ·rw[av ht];rw[ax ht]at h1;exact⟨h1,h2⟩
  ·rw[am ht];rw[ap ht]at h1;exact h1
 ·rw[am h0]
  cases hc:cT (cE [60] st.rest)with
  |none=>exact xl hU w B rb st hf h h0 hB hW hc
  |some y=>exact(xj hU w B rb st hf h h0 hB hW y hc).mono fun e w' ⟨h1,h2,h3⟩=>⟨⟨h1,h2⟩,h3⟩
theorem AU(w:World)(B rb:Nat)(st:Rd)(fr:List Po)(o:Po)(ho:st.op=fr++[o])(hf:iV st)(hou:o.outer<=st.ds.length)(h:dS w B rb st) :
 Calls Tryz.prog 91 #[.pointer (some ⟨rb,0,none⟩)] w fun e w'=>kw (gd st fr o) B rb e w'/\Below B w w':=by
 have hfr:fr.length<=1000000:=by have:=hf.op;rw[ho,aj]at this;simp at this;omega
 by_cases h0:st.op.length=1
 ·unfold gd;rw[av h0];exact Di w B rb st h h0
 ·cases hp:aH o.full st.rest with
  |none=>unfold gd;rw[am h0,hp];exact AV w B rb st fr o ho hfr h h0 hp
  |some r=>exact Dj w B rb st fr o ho hfr h h0 r hp hf hou
noncomputable def dC(st:Rd)(fr:List Po)(o:Po):Option Rd :=
 match aH [60,33,45,45] st.rest with
 |some r=>mG { st with rest:=r } o
 |none=>match aH [60,33,91,67,68,65,84,65,91] st.rest with
  |some r=>nB { st with rest:=r }
  |none=>match aH [60,63] st.rest with
   |some r=>kh { st with rest:=r } o
   |none=>match aH [60,47] st.rest with
    |some r=>gd { st with rest:=r } fr o
    |none=>match aH [60] st.rest with
     |some r=>lq { st with rest:=r } o
     |none=>lS st
theorem CN(hU:gm)(w:World)(B rb:Nat)(st:Rd)(fr:List Po)(o:Po)(ho:st.op=fr++[o])(hou:o.outer<=st.ds.length)(hr:st.rest.length<=100000)(hns:st.ns.length<=800000)(hop:st.op.length<=800000)(hds:st.ds.length<=800000)(htx:st.tx.length<=1000000)(h:dS w B rb st)(hB : 8<=B)(hW:Wd w) :
 Calls Tryz.prog 51 #[.pointer (some ⟨rb,0,none⟩)] w fun e w'=>kw (dC st fr o) B rb e w'/\Below B w w':=by
 have hBs:B<=w.heap.size:=by obtain⟨vn,vo,vd,vt,ys,h⟩:=h;exact ag h.lo (be (au h.box))
 have hlo:B<=rb:=by obtain⟨vn,vo,vd,vt,ys,h⟩:=h;exact h.lo
 have HFI:Hid (∀r:List UInt8,r.length<=100000->iV { st with rest:=r }):=fun r h=>⟨h,by show st.ns.length<=_;omega,by show st.op.length<=_;omega,by show st.ds.length<=_;omega,htx⟩
 have HCA:Hid (∀w' s,dS w' B rb s->aG w' rb (ba s.rest)):=fun w' s ⟨_,_,_,_,_,h⟩=>h.curAt;have HCU:Hid (∀w' w'' (s:Rd) r,dS w' B rb s->dK rb (ba r) w' w''->dS w'' B rb { s with rest:=r }):=fun w' w'' s r ⟨vn,vo,vd,vt,ys,h⟩ hc=>⟨vn,vo,vd,vt,ys,h.cur hc⟩;have HU:=aa hU;have HR:=aa h;have HW:=aa hW;have HOP:=aa ho;have HHB:=aa (ae B w);clear hU h hW ho;unfold dC;cases h0:aH [60,33,45,45] st.rest with
 |some r =>
  dsimp only;have hl:=cx h0;have HS0:Hid (∀w',aG w' rb (ba st.rest)->_):=fun w' hc=>bW st.rest [60,33,45,45] r rb w' hc h0;clear h0;have HCL:Hid (∀w',dS w' B rb { st with rest:=r }->Wd w'->Calls Tryz.prog 88 #[.pointer (some ⟨rb,0,none⟩)] w' fun e w''=>kw (mG { st with rest:=r } o) B rb e w''/\Below B w' w''):=fun w' hr hw=>DB w' B rb { st with rest:=r } fr o HOP.out (HFI.out r (by omega)) hr hB hw
  obtain⟨T,hT⟩ : ∃T,mG { st with rest:=r } o=T:=⟨_,rfl⟩;rw[hT]at HCL ⊢;clear hT;go_enter Tryz.func51,Tryz.ntmps51
  go_wp2_with fail
  refine(HS0.out _ (HCA.out _ _ HR.out)).mono ?_;rintro e w0⟨rfl,hc⟩;have HR0:=aa (HCU.out _ _ _ _ HR.out hc);have HB0:=aa (HHB.out.trans (hc.below hlo (ag hBs HHB.out.size)));clear hc
  go_wp2_with fail
  refine(HCL.out _ HR0.out (HW.out.low hB HB0.out)).mono ?_;rintro e wz⟨ht,hb⟩;obtain⟨b,rfl,ht⟩:=g9 ht;have HT:=aa ht;have HBZ:=aa (HB0.out.trans hb);clear ht hb;go_wp2;go_ret;exact⟨HT.out,HBZ.out⟩
 |none =>
  dsimp only;have HS0:Hid (∀w',aG w' rb (ba st.rest)->_):=fun w' hc=>dc st.rest [60,33,45,45] rb w' hc h0;clear h0;cases h1:aH [60,33,91,67,68,65,84,65,91] st.rest with
  |some r =>
   dsimp only;have hl:=cx h1;have HS1:Hid (∀w',aG w' rb (ba st.rest)->_):=fun w' hc=>bW st.rest [60,33,91,67,68,65,84,65,91] r rb w' hc h1;clear h1;have HCL:Hid (∀w',dS w' B rb { st with rest:=r }->Wd w'->Calls Tryz.prog 89 #[.pointer (some ⟨rb,0,none⟩)] w' fun e w''=>kw (nB { st with rest:=r }) B rb e w''/\Below B w' w''):=fun w' hr hw=>Dw w' B rb { st with rest:=r } (HFI.out r (by omega)) hr hw
   obtain⟨T,hT⟩ : ∃T,nB { st with rest:=r }=T:=⟨_,rfl⟩;rw[hT]at HCL ⊢;clear hT;go_enter Tryz.func51,Tryz.ntmps51
   go_wp2_with fail
   refine(HS0.out _ (HCA.out _ _ HR.out)).mono ?_;rintro e w0⟨rfl,hc⟩;have HR0:=aa (HCU.out _ _ _ _ HR.out hc);have HB0:=aa (HHB.out.trans (hc.below hlo (ag hBs HHB.out.size)));clear hc
   go_wp2_with fail
   refine(HS1.out _ (HCA.out _ _ HR0.out)).mono ?_;rintro e w1⟨rfl,hc⟩;have HR1:=aa (HCU.out _ _ _ _ HR0.out hc);have HB1:=aa (HB0.out.trans (hc.below hlo (ag hBs HB0.out.size)));clear hc
   go_wp2_with fail
   refine(HCL.out _ HR1.out (HW.out.low hB HB1.out)).mono ?_;rintro e wz⟨ht,hb⟩;obtain⟨b,rfl,ht⟩:=g9 ht;have HT:=aa ht;have HBZ:=aa (HB1.out.trans hb);clear ht hb;go_wp2;go_ret;exact⟨HT.out,HBZ.out⟩
  |none =>
   dsimp only;have HS1:Hid (∀w',aG w' rb (ba st.rest)->_):=fun w' hc=>dc st.rest [60,33,91,67,68,65,84,65,91] rb w' hc h1;clear h1;cases h2:aH [60,63] st.rest with
   |some r =>
    dsimp only;have hl:=cx h2;have HS2:Hid (∀w',aG w' rb (ba st.rest)->_):=fun w' hc=>bW st.rest [60,63] r rb w' hc h2;clear h2;have HCL:Hid (∀w',dS w' B rb { st with rest:=r }->Wd w'->Calls Tryz.prog 90 #[.pointer (some ⟨rb,0,none⟩)] w' fun e w''=>kw (kh { st with rest:=r } o) B rb e w''/\Below B w' w''):=fun w' hr hw=>C4 HU.out w' B rb { st with rest:=r } fr o HOP.out (HFI.out r (by omega)) hr hw
    obtain⟨T,hT⟩ : ∃T,kh { st with rest:=r } o=T:=⟨_,rfl⟩;rw[hT]at HCL ⊢;clear hT;go_enter Tryz.func51,Tryz.ntmps51
    go_wp2_with fail
    refine(HS0.out _ (HCA.out _ _ HR.out)).mono ?_;rintro e w0⟨rfl,hc⟩;have HR0:=aa (HCU.out _ _ _ _ HR.out hc);have HB0:=aa (HHB.out.trans (hc.below hlo (ag hBs HHB.out.size)));clear hc
    go_wp2_with fail
    refine(HS1.out _ (HCA.out _ _ HR0.out)).mono ?_;rintro e w1⟨rfl,hc⟩;have HR1:=aa (HCU.out _ _ _ _ HR0.out hc);have HB1:=aa (HB0.out.trans (hc.below hlo (ag hBs HB0.out.size)));clear hc
    go_wp2_with fail
    refine(HS2.out _ (HCA.out _ _ HR1.out)).mono ?_;rintro e w2⟨rfl,hc⟩;have HR2:=aa (HCU.out _ _ _ _ HR1.out hc);have HB2:=aa (HB1.out.trans (hc.below hlo (ag hBs HB1.out.size)));clear hc
    go_wp2_with fail
    refine(HCL.out _ HR2.out (HW.out.low hB HB2.out)).mono ?_;rintro e wz⟨ht,hb⟩;obtain⟨b,rfl,ht⟩:=g9 ht;have HT:=aa ht;have HBZ:=aa (HB2.out.trans hb);clear ht hb;go_wp2;go_ret;exact⟨HT.out,HBZ.out⟩
   |none =>
    dsimp only;have HS2:Hid (∀w',aG w' rb (ba st.rest)->_):=fun w' hc=>dc st.rest [60,63] rb w' hc h2;clear h2;cases h3:aH [60,47] st.rest with
    |some r =>
     dsimp only;have hl:=cx h3;have HS3:Hid (∀w',aG w' rb (ba st.rest)->_):=fun w' hc=>bW st.rest [60,47] r rb w' hc h3;clear h3;have HCL:Hid (∀w',dS w' B rb { st with rest:=r }->Wd w'->Calls Tryz.prog 91 #[.pointer (some ⟨rb,0,none⟩)] w' fun e w''=>kw (gd { st with rest:=r } fr o) B rb e w''/\Below B w' w''):=fun w' hr hw=>AU w' B rb { st with rest:=r } fr o HOP.out (HFI.out r (by omega)) hou hr
     obtain⟨T,hT⟩ : ∃T,gd { st with rest:=r } fr o=T:=⟨_,rfl⟩;rw[hT]at HCL ⊢;clear hT;go_enter Tryz.func51,Tryz.ntmps51
     go_wp2_with fail
     refine(HS0.out _ (HCA.out _ _ HR.out)).mono ?_;rintro e w0⟨rfl,hc⟩;have HR0:=aa (HCU.out _ _ _ _ HR.out hc);have HB0:=aa (HHB.out.trans (hc.below hlo (ag hBs HHB.out.size)));clear hc
     go_wp2_with fail
     refine(HS1.out _ (HCA.out _ _ HR0.out)).mono ?_;rintro e w1⟨rfl,hc⟩;have HR1:=aa (HCU.out _ _ _ _ HR0.out hc);have HB1:=aa (HB0.out.trans (hc.below hlo (ag hBs HB0.out.size)));clear hc
     go_wp2_with fail
     refine(HS2.out _ (HCA.out _ _ HR1.out)).mono ?_;rintro e w2⟨rfl,hc⟩;have HR2:=aa (HCU.out _ _ _ _ HR1.out hc);have HB2:=aa (HB1.out.trans (hc.below hlo (ag hBs HB1.out.size)));clear hc
     go_wp2_with fail
     refine(HS3.out _ (HCA.out _ _ HR2.out)).mono ?_;rintro e w3⟨rfl,hc⟩;have HR3:=aa (HCU.out _ _ _ _ HR2.out hc);have HB3:=aa (HB2.out.trans (hc.below hlo (ag hBs HB2.out.size)));clear hc
     go_wp2_with fail
     refine(HCL.out _ HR3.out (HW.out.low hB HB3.out)).mono ?_;rintro e wz⟨ht,hb⟩;obtain⟨b,rfl,ht⟩:=g9 ht;have HT:=aa ht;have HBZ:=aa (HB3.out.trans hb);clear ht hb;go_wp2;go_ret;exact⟨HT.out,HBZ.out⟩
    |none =>
     dsimp only;have HS3:Hid (∀w',aG w' rb (ba st.rest)->_):=fun w' hc=>dc st.rest [60,47] rb w' hc h3;clear h3;cases h4:aH [60] st.rest with
     |some r =>
      dsimp only;have hl:=cx h4;have HS4:Hid (∀w',aG w' rb (ba st.rest)->_):=fun w' hc=>bW st.rest [60] r rb w' hc h4;clear h4;have HCL:Hid (∀w',dS w' B rb { st with rest:=r }->Wd w'->Calls Tryz.prog 92 #[.pointer (some ⟨rb,0,none⟩)] w' fun e w''=>kw (lq { st with rest:=r } o) B rb e w''/\Below B w' w''):=fun w' hr hw=>Cd HU.out w' B rb { st with rest:=r } fr o HOP.out (by show r.length<=_;omega) hns hop hds htx hr hB hw
      obtain⟨T,hT⟩ : ∃T,lq { st with rest:=r } o=T:=⟨_,rfl⟩;rw[hT]at HCL ⊢;clear hT;go_enter Tryz.func51,Tryz.ntmps51
      go_wp2_with fail
      refine(HS0.out _ (HCA.out _ _ HR.out)).mono ?_;rintro e w0⟨rfl,hc⟩;have HR0:=aa (HCU.out _ _ _ _ HR.out hc);have HB0:=aa (HHB.out.trans (hc.below hlo (ag hBs HHB.out.size)));clear hc
      go_wp2_with fail
      refine(HS1.out _ (HCA.out _ _ HR0.out)).mono ?_;rintro e w1⟨rfl,hc⟩;have HR1:=aa (HCU.out _ _ _ _ HR0.out hc);have HB1:=aa (HB0.out.trans (hc.below hlo (ag hBs HB0.out.size)));clear hc
      go_wp2_with fail
      refine(HS2.out _ (HCA.out _ _ HR1.out)).mono ?_;rintro e w2⟨rfl,hc⟩;have HR2:=aa (HCU.out _ _ _ _ HR1.out hc);have HB2:=aa (HB1.out.trans (hc.below hlo (ag hBs HB1.out.size)));clear hc
      go_wp2_with fail
      refine(HS3.out _ (HCA.out _ _ HR2.out)).mono ?_;rintro e w3⟨rfl,hc⟩;have HR3:=aa (HCU.out _ _ _ _ HR2.out hc);have HB3:=aa (HB2.out.trans (hc.below hlo (ag hBs HB2.out.size)));clear hc
      go_wp2_with fail
      refine(HS4.out _ (HCA.out _ _ HR3.out)).mono ?_;rintro e w4⟨rfl,hc⟩;have HR4:=aa (HCU.out _ _ _ _ HR3.out hc);have HB4:=aa (HB3.out.trans (hc.below hlo (ag hBs HB3.out.size)));clear hc
      go_wp2_with fail
      refine(HCL.out _ HR4.out (HW.out.low hB HB4.out)).mono ?_;rintro e wz⟨ht,hb⟩;obtain⟨b,rfl,ht⟩:=g9 ht;have HT:=aa ht;have HBZ:=aa (HB4.out.trans hb);clear ht hb;go_wp2;go_ret;exact⟨HT.out,HBZ.out⟩
     |none =>
      dsimp only;have HS4:Hid (∀w',aG w' rb (ba st.rest)->_):=fun w' hc=>dc st.rest [60] rb w' hc h4;clear h4;have HCL:Hid (∀w',dS w' B rb st->Wd w'->Calls Tryz.prog 93 #[.pointer (some ⟨rb,0,none⟩)] w' fun e w''=>kw (lS st) B rb e w''/\Below B w' w''):=fun w' hr hw=>Cz HU.out w' B rb st (HFI.out st.rest (by omega)) hr hB hw
      obtain⟨T,hT⟩ : ∃T,lS st=T:=⟨_,rfl⟩;rw[hT]at HCL ⊢;clear hT;go_enter Tryz.func51,Tryz.ntmps51
      go_wp2_with fail
      refine(HS0.out _ (HCA.out _ _ HR.out)).mono ?_;rintro e w0⟨rfl,hc⟩;have HR0:=aa (HCU.out _ _ _ _ HR.out hc);have HB0:=aa (HHB.out.trans (hc.below hlo (ag hBs HHB.out.size)));clear hc
      go_wp2_with fail
      refine(HS1.out _ (HCA.out _ _ HR0.out)).mono ?_;rintro e w1⟨rfl,hc⟩;have HR1:=aa (HCU.out _ _ _ _ HR0.out hc);have HB1:=aa (HB0.out.trans (hc.below hlo (ag hBs HB0.out.size)));clear hc
      go_wp2_with fail
      refine(HS2.out _ (HCA.out _ _ HR1.out)).mono ?_;rintro e w2⟨rfl,hc⟩;have HR2:=aa (HCU.out _ _ _ _ HR1.out hc);have HB2:=aa (HB1.out.trans (hc.below hlo (ag hBs HB1.out.size)));clear hc
      go_wp2_with fail
      refine(HS3.out _ (HCA.out _ _ HR2.out)).mono ?_;rintro e w3⟨rfl,hc⟩;have HR3:=aa (HCU.out _ _ _ _ HR2.out hc);have HB3:=aa (HB2.out.trans (hc.below hlo (ag hBs HB2.out.size)));clear hc
      go_wp2_with fail
      refine(HS4.out _ (HCA.out _ _ HR3.out)).mono ?_;rintro e w4⟨rfl,hc⟩;have HR4:=aa (HCU.out _ _ _ _ HR3.out hc);have HB4:=aa (HB3.out.trans (hc.below hlo (ag hBs HB3.out.size)));clear hc
      go_wp2_with fail
      refine(HCL.out _ HR4.out (HW.out.low hB HB4.out)).mono ?_;rintro e wz⟨ht,hb⟩;obtain⟨b,rfl,ht⟩:=g9 ht;have HT:=aa ht;have HBZ:=aa (HB4.out.trans hb);clear ht hb;go_wp2;go_ret;exact⟨HT.out,HBZ.out⟩
theorem oy(st:Rd)(o:Po)(h:st.tx=[]):(ed st o).ns=st.ns:=by
 unfold ed;simp[h]
theorem qu(st:Rd)(o:Po)(x:Nd):(iw st o x).ns.length<=st.ns.length+2:=by
 have:=mv st o
 show((ed st o).ns++[cy x o.node]).length<=_
 rw[aj,aB];omega
structure mS(st st':Rd)(m:Nat):Prop where
 r:st'.rest.length<=st.rest.length
 n:st'.ns.length+2*st'.rest.length<=st.ns.length+2*st.rest.length+2*m
 o:st'.op.length+st'.rest.length<=st.op.length+st.rest.length+m
 d:st'.ds.length+st'.rest.length<=st.ds.length+st.rest.length
 t:st'.tx.length+4*st'.rest.length<=st.tx.length+4*st.rest.length
 opn:(st'.op=st.op/\st.ds.length<=st'.ds.length)∨(∃o',st'.op=st.op++[o']/\o'.outer=st.ds.length/\st.ds.length<=st'.ds.length)∨(∃fr o,st.op=fr++[o]/\fr≠[]/\st'.op=fr/\st'.ds=st.ds.take o.outer)
theorem rX{st st':Rd}{o:Po}(h:mG st o=some st'):mS st st' 1:=by
 unfold mG at h;cases hc:cW [45,45,62] st.rest with
 |none=>rw[hc]at h;cases h
 |some q =>
  obtain⟨p,r⟩:=q;rw[hc]at h;simp only[al]at h;subst h;obtain⟨h1,h2,h3⟩:=dW hc;have:=qu { st with rest:=r } o (jn p);simp only at this;refine⟨h2,?_,?_,?_,?_,.inl ⟨rfl,af _⟩⟩
  ·show _+2*r.length<=_;omega
  ·show st.op.length+r.length<=_;omega
  ·show st.ds.length+r.length<=_;omega
  ·show 0+4*r.length<=_;omega
theorem rU{st st':Rd}(h:nB st=some st'):mS st st' 1:=by
 unfold nB at h;cases hc:cW [93,93,62] st.rest with
 |none=>rw[hc]at h;cases h
 |some q =>
  obtain⟨p,r⟩:=q;rw[hc]at h;dsimp only at h
  split at h
  ·cases h
  ·simp only[al]at h
   subst h;obtain⟨h1,h2,h3⟩:=dW hc;refine⟨h2,?_,?_,?_,?_,.inl ⟨rfl,af _⟩⟩
   ·show st.ns.length+2*r.length<=_;omega
   ·show st.op.length+r.length<=_;omega
   ·show st.ds.length+r.length<=_;omega
   ·show(st.tx++p).length+4*r.length<=_;rw[aj];omega
theorem rv{st st':Rd}{o:Po}(h:kh st o=some st'):mS st st' 1:=by
 unfold kh at h;cases hc:cW [63,62] st.rest with
 |none=>rw[hc]at h;cases h
 |some q =>
  obtain⟨p,r⟩:=q;rw[hc]at h;simp only[al]at h;subst h;obtain⟨h1,h2,h3⟩:=dW hc;have:=qu { st with rest:=r } o (gU (cE [32,9,10] p) (aI (c9 [32,9,10] p)));simp only at this;refine⟨h2,?_,?_,?_,?_,.inl ⟨rfl,af _⟩⟩
  ·show _+2*r.length<=_;omega
  ·show st.op.length+r.length<=_;omega
  ·show st.ds.length+r.length<=_;omega
  ·show 0+4*r.length<=_;omega
theorem sh(e s:List UInt8):(cE e s).length+(c9 e s).length=s.length:=by
 unfold cE c9;rw[<-aj,List.takeWhile_append_dropWhile]
theorem rh{st st':Rd}(h:lS st=some st'):mS st st' 0/\st'.rest=c9 [60] st.rest:=by
 have hu:=sh [60] st.rest;unfold lS at h
 split at h
 ·split at h
  ·simp only[al]at h
   subst h;refine⟨⟨?_,?_,?_,?_,?_,.inl ⟨rfl,af _⟩⟩,rfl⟩
   ·show(c9 [60] st.rest).length<=_;omega
   ·show st.ns.length+2*(c9 [60] st.rest).length<=_;omega
   ·show st.op.length+(c9 [60] st.rest).length<=_;omega
   ·show st.ds.length+(c9 [60] st.rest).length<=_;omega
   ·show st.tx.length+4*(c9 [60] st.rest).length<=_;omega
  ·cases h
 ·cases hc:cT (cE [60] st.rest)with
  |none=>rw[hc]at h;cases h
  |some y =>
   rw[hc]at h;simp only[al]at h;subst h;have hy:=mE hc;refine⟨⟨?_,?_,?_,?_,?_,.inl ⟨rfl,af _⟩⟩,rfl⟩
   ·show(c9 [60] st.rest).length<=_;omega
   ·show st.ns.length+2*(c9 [60] st.rest).length<=_;omega
   ·show st.op.length+(c9 [60] st.rest).length<=_;omega
   ·show st.ds.length+(c9 [60] st.rest).length<=_;omega
   ·show(st.tx++y).length+4*(c9 [60] st.rest).length<=_;rw[aj];omega
theorem cI{p s r:List UInt8}(h:aH p s=some r):s.length=p.length+r.length:=by rw[cH h,aj]
theorem qb{st st':Rd}{fr:List Po}{o:Po}(ho:st.op=fr++[o])(h:gd st fr o=some st'):mS st st' 1:=by
 unfold gd at h
 split at h
 ·cases h
 ·next h0 =>
  cases h1:aH o.full st.rest with
  |none=>rw[h1]at h;cases h
  |some r =>
   rw[h1]at h;dsimp only at h;cases h2:aH [62] (aI r)with
   |none=>rw[h2]at h;cases h
   |some r' =>
    rw[h2]at h;simp only[al]at h;subst h;have l1:=cI h1;have l2:=cI h2;have l3:=cB r;have l4:=mv { st with rest:=aI r } o;simp only at l4;have l5:((st.ds.take o.outer).length)<=st.ds.length:=by rw[aY];omega
    have l6:st.op.length=fr.length+1:=by rw[ho,aj,aB]
    refine⟨by show r'.length<=_;omega,?_,?_,?_,?_,.inr (.inr ⟨fr,o,ho,?_,rfl,rfl⟩)⟩
    ·show _+2*r'.length<=_
     exact ag (Nat.add_le_add_right l4 _) (by omega)
    ·show fr.length+r'.length<=_;omega
    ·show(st.ds.take o.outer).length+r'.length<=_;omega
    ·show 0+4*r'.length<=_;omega
    ·rintro rfl;exact h0 (by rw[l6];rfl)
theorem zn(st:Rd)(o:Po)(x:Nd)(full:List UInt8):(jp st o x full).ns.length<=st.ns.length+2:=qu { st with ds:=st.ds++x.ds } o _
theorem pc(full:List UInt8)(o:Po):∀(n:Nat) (st st':Rd) (x:Nd),lr full o n st x=some st' ->
 st'.rest.length+1<=st.rest.length/\st'.ns.length+2*st'.rest.length<=st.ns.length+2*st.rest.length/\st'.op.length<=st.op.length+1/\st'.ds.length+st'.rest.length<=st.ds.length+x.ds.length+x.ats.length+st.rest.length/\st'.tx=[] /\
 ((st'.op=st.op/\st.ds.length<=st'.ds.length)∨(∃o',st'.op=st.op++[o']/\o'.outer=st.ds.length/\st.ds.length<=st'.ds.length))
 |0,st,st',x,h=>by cases h
 |n+1,st,st',x,h=>by
  rw[lr]at h;have hb:=cB st.rest;cases h1:aH [62] (aI st.rest)with
  |some r =>
   rw[h1]at h;simp only[al]at h;subst h;have l1:=cI h1;simp only[az,bb]at l1;have l2:=zn { st with rest:=r } o x full;simp only at l2;refine⟨by show r.length+1<=_;omega,by show _+2*r.length<=_;omega,by show(st.op++[_]).length<=_;rw[aj,aB];omega,by show(st.ds++x.ds).length+r.length<=_;rw[aj];omega,rfl,.inr ⟨_,rfl,rfl,by show _<=(st.ds++x.ds).length;rw[aj];omega⟩⟩
  |none =>
   rw[h1]at h;dsimp only at h;cases h2:aH [47,62] (aI st.rest)with
   |some r =>
    rw[h2]at h;simp only[al]at h;subst h;have l1:=cI h2;simp only[az,bb]at l1;have l2:=zn { st with rest:=r } o x full;simp only at l2;have l3:(qi (jp { st with rest:=r } o x full) st.op ⟨(ed { st with ds:=st.ds++x.ds } o).ns.length,full,st.ds.length⟩).ns=(jp { st with rest:=r } o x full).ns:=oy _ _ rfl;have l4:((st.ds++x.ds).take st.ds.length).length=st.ds.length:=by rw[aY,aj];omega
    refine⟨by show r.length+1<=_;omega,by rw[l3];show _+2*r.length<=_;omega,by show st.op.length<=_;omega,by show((st.ds++x.ds).take st.ds.length).length+r.length<=_;omega,rfl,.inl ⟨rfl,by show _<=((st.ds++x.ds).take st.ds.length).length;omega⟩⟩
   |none =>
    rw[h2]at h;dsimp only at h
    split at h
    ·next hap =>
     cases hm:eV (aI st.rest) x with
     |none=>rw[hm]at h;cases h
     |some q =>
      obtain⟨r,x'⟩:=q;rw[hm]at h;dsimp only at h;have hml:=kS hm;obtain⟨a1,a2,a3,a4,a5,a6⟩:=pc full o n { st with rest:=r } st' x' h;dsimp only at a1 a2 a3 a4 a6;exact⟨by omega,by omega,a3,by omega,a5,a6⟩
    ·cases h
theorem qU{st st':Rd}{o:Po}(h:lq st o=some st'):mS st st' 1:=by
 unfold lq at h;cases hs:dL (cE bd st.rest)with
 |none=>rw[hs]at h;cases h
 |some q =>
  obtain⟨p,l⟩:=q;rw[hs]at h;dsimp only at h;have hb:=gM bd st.rest;obtain⟨a1,a2,a3,a4,a5,a6⟩:=pc _ o _ _ st' _ h;dsimp only at a1 a2 a3 a4 a6;simp only[bb]at a4;refine⟨by omega,by omega,by omega,by omega,by rw[a5];simp only[bb];omega,?_⟩
  rcases a6 with h|h
  ·exact .inl h
  ·exact .inr (.inl h)
structure BS(n:Nat)(st:Rd):Prop where
 pr:st.rest.length<=n
 pn:st.ns.length+2*st.rest.length<=2*n+1
 po:st.op.length+st.rest.length<=n+1
 pd:st.ds.length+st.rest.length<=n
 pt:st.tx.length+4*st.rest.length<=4*n
 srt:st.op.Pairwise (fun a b=>a.outer<=b.outer)
 out:∀o∈st.op,o.outer<=st.ds.length
 ne:st.op≠[]
theorem Cy{n m:Nat}{st st':Rd}{r:List UInt8}(h:BS n st)(hl:st.rest.length=m+r.length)(hg:mS { st with rest:=r } st' m):BS n st':=by
 obtain⟨g1,g2,g3,g4,g5,g6⟩:=hg;dsimp only at g1 g2 g3 g4 g5 g6;obtain⟨p1,p2,p3,p4,p5,p6,p7,p8⟩:=h;refine⟨by omega,by omega,by omega,by omega,by omega,?_,?_,?_⟩
 ·rcases g6 with⟨e,_⟩|⟨o',e,eo,_⟩|⟨fr,o,e,_,e2,_⟩
  ·rw[e];exact p6
  ·rw[e,List.pairwise_append]
   refine⟨p6,List.pairwise_singleton _ _,fun a ha b hb => ?_⟩;rw[aW]at hb;subst hb;rw[eo];exact p7 a ha
  ·rw[e,List.pairwise_append]at p6
   rw[e2];exact p6.1
 ·rcases g6 with⟨e,hd⟩|⟨o',e,eo,hd⟩|⟨fr,o,e,_,e2,e3⟩
  ·intro a ha;rw[e]at ha;have:=p7 a ha;omega
  ·intro a ha
   rw[e,bS,aW]at ha;rcases ha with ha|rfl
   ·have:=p7 a ha;omega
   ·omega
  ·intro a ha
   rw[e2]at ha;rw[e3,aY];have h1:=p7 a (by rw[e];exact List.mem_append_left _ ha)
   rw[e,List.pairwise_append]at p6;have h2:=p6.2.2 a ha o (List.mem_singleton_self _);omega
 ·rcases g6 with⟨e,_⟩|⟨o',e,_,_⟩|⟨fr,o,e,hne,e2,_⟩
  ·rw[e];exact p8
  ·rw[e];simp
  ·rw[e2];exact hne
theorem uY{n:Nat}{st st':Rd}{fr:List Po}{o:Po}(h:BS n st)(ho:st.op=fr++[o])(hr:st.rest≠[])(hn:dC st fr o=some st'):BS n st'/\st'.rest.length<st.rest.length:=by
 have go:∀{m:Nat} {r:List UInt8},st.rest.length=m+r.length->1<=m->mS { st with rest:=r } st' 1->BS n st'/\st'.rest.length<st.rest.length:=fun {m r} hl hm hg=>by
  have hr:=hg.r;dsimp only at hr;refine⟨Cy h hl ⟨hg.r,ag hg.n (by omega),ag hg.o (by omega),hg.d,hg.t,hg.opn⟩,by omega⟩
 unfold dC at hn;cases h1:aH [60,33,45,45] st.rest with
 |some r=>rw[h1]at hn;exact go (cI h1) (by simp) (rX hn)
 |none =>
 rw[h1]at hn;dsimp only at hn;cases h2:aH [60,33,91,67,68,65,84,65,91] st.rest with
 |some r=>rw[h2]at hn;exact go (cI h2) (by simp) (rU hn)
 |none =>
 rw[h2]at hn;dsimp only at hn;cases h3:aH [60,63] st.rest with
 |some r=>rw[h3]at hn;exact go (cI h3) (by simp) (rv hn)
 |none =>
 rw[h3]at hn;dsimp only at hn;cases h4:aH [60,47] st.rest with
 |some r=>rw[h4]at hn;exact go (cI h4) (by simp) (qb (st:={ st with rest:=r }) ho hn)
 |none =>
 rw[h4]at hn;dsimp only at hn;cases h5:aH [60] st.rest with
 |some r=>rw[h5]at hn;exact go (cI h5) (by simp) (qU hn)
 |none =>
 rw[h5]at hn;dsimp only at hn;obtain⟨hg,he⟩:=rh hn;refine⟨Cy (r:=st.rest) h (by omega) hg,?_⟩
 rw[he];cases hs:st.rest with
 |nil=>exact absurd hs hr
 |cons c s =>
  rw[hs]at h5
  have hc:c≠60:=by
   rintro rfl;simp[aH,List.isPrefixOf]at h5
  have hw:c9 [60] (c::s)=c9 [60] s:=by
   unfold c9;rw[List.dropWhile_cons_of_pos (by simp;exact hc)]
  rw[hw];have:=gM [60] s;rw[az];omega
noncomputable def fC:Nat->Rd->Option (List Nd)
 |0,_=>none
 |n+1,st=>if st.rest=[]then(if st.op.length=1 then some st.ns else none)else
  match st.op.getLast? with
  |none=>none
  |some o=>match dC st st.op.dropLast o with
   |none=>none
   |some st'=>fC n st'
def cM:Nd:=⟨0,-1,⟨#[]⟩,⟨#[]⟩,⟨#[]⟩,⟨#[]⟩,[],[]⟩
def oa(s:List UInt8):Rd:=⟨s,[cM],[⟨0,[],0⟩],[],[]⟩
theorem Gx(s:List UInt8):BS s.length (oa s):=⟨af _,by show 1+2*s.length<=_;omega,by show 1+s.length<=_;omega,by show 0+s.length<=_;omega,by show 0+4*s.length<=_;omega,List.pairwise_singleton _ _,fun o ho=>by
 simp only[oa,aW]at ho;subst ho;exact af _,by simp[oa]⟩
theorem BS.mono{n m:Nat}{st:Rd}(h:BS n st)(hm:n<=m):BS m st:=⟨ag h.pr hm,ag h.pn (by omega),ag h.po (by omega),ag h.pd hm,ag h.pt (by omega),h.srt,h.out,h.ne⟩
end Go.Proofs.YteinegfbpfhflaaGreatDoor
