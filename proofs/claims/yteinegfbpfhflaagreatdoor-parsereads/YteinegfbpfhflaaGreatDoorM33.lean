/-
  parse.reader: startTag. Conditions: the reader lies as it is; nothing is too long; upTo answers what it is to answer.
  parse.reader: endTag. Conditions: the reader lies as it is; nothing is too long.
  parse.reader: instruction. Conditions: the reader lies as it is, something is open; nothing is too long; the tables lie as they are laid; upTo answers so.
-/
import Derived.Test.YteinegfbpfhflaaGreatDoorM32
import Derived.Test.YteinegfbpfhflaaGreatDoorM20
import Derived.Test.YteinegfbpfhflaaGreatDoorM27
namespace Go.Proofs.YteinegfbpfhflaaGreatDoor
open Go.RowKit
set_option linter.unusedVariables false
set_option maxRecDepth 100000
set_option maxHeartbeats 32000000
theorem yA{a:Option Nat}:a=none∨a≠(Value.slice none 0 0).ownBlock:=by
 cases a with
 |none=>exact .inl rfl
 |some b=>exact .inr (by simp[Value.ownBlock])
theorem Bw(st:Rd)(r:List UInt8)(o:Po)(x:Nd)(full:List UInt8):st.ds.length<=(jp { st with rest:=r } o x full).ds.length:=by
 show st.ds.length<=(st.ds++x.ds).length
 rw[aj];omega
theorem DJ{st:Rd}{r:List UInt8}{o:Po}{x:Nd}{full:List UInt8}(hns:st.ns.length<=800000)(hop:st.op.length<=800000)(hds:st.ds.length<=800000)(hxd:x.ds.length<=100000)(hr:r.length<=100000):iV (jp { st with rest:=r } o x full):=by
 refine⟨hr,?_,?_,?_,?_⟩
 ·have:=mv { { st with rest:=r } with ds:=st.ds++x.ds } o
  show((ed { { st with rest:=r } with ds:=st.ds++x.ds } o).ns++[_]).length<=_
  rw[aj,aB];exact ag (Nat.succ_le_succ this) (show st.ns.length+1+1<=900000 by omega)
 ·show(st.op++[_]).length<=_
  rw[aj,aB];omega
 ·show(st.ds++x.ds).length<=_
  rw[aj];omega
 ·exact aM _
theorem Cd(hU:gm)(w:World)(B rb:Nat)(st:Rd)(fr:List Po)(o:Po)(ho:st.op=fr++[o])(hr:st.rest.length<=100000)(hns:st.ns.length<=800000)(hop:st.op.length<=800000)(hds:st.ds.length<=800000)(htx:st.tx.length<=1000000)(h:dS w B rb st)(hB : 8<=B)(hW:Wd w) :
 Calls Tryz.prog 92 #[.pointer (some ⟨rb,0,none⟩)] w fun e w'=>kw (lq st o) B rb e w'/\Below B w w':=by
 obtain⟨vn,vo,vd,vt,ys,h⟩:=h;have hBs:B<=w.heap.size:=ag h.lo (be (au h.box));have HUP:=aa (hU st.rest bd rb w h.curAt hr (.inr (.inr rfl)));have HU:=aa hU;have H:=aa h;have HW:=aa hW;have ha:=gN bd st.rest;have hb:=gM bd st.rest;obtain⟨T,hT⟩ : ∃T,lq st o=T:=⟨_,rfl⟩;rw[hT];unfold lq at hT;have hfine:∀r:List UInt8,r.length<=100000->iV { st with rest:=r }:=fun r h=>⟨h,by show st.ns.length<=_;omega,by show st.op.length<=_;omega,by show st.ds.length<=_;omega,htx⟩
 have HFI:=aa hfine;clear h hfine hU hW;cases hs:dL (cE bd st.rest)with
 |none =>
  rw[hs]at hT;dsimp only at hT;have HSP:Hid (∀w',Wd w'->_):=fun w' hw=>ph (show(cE bd st.rest).length<=100000 by omega) hs w' hw
  have HT:=aa hT.symm;clear hT hs;generalize cE bd st.rest=S1 at *;generalize c9 bd st.rest=S2 at *;go_enter Tryz.func92,Tryz.ntmps92
  go_wp2_with fail
  refine HUP.out.mono ?_;rintro e w1⟨rfl,hc1⟩;have HB1:=aa (hc1.below H.out.lo hBs);clear hc1
  go_wp2_with fail
  refine(HSP.out w1 (HW.out.low hB HB1.out)).mono ?_;rintro e w2⟨rfl,hb2⟩;have HB2:=aa (HB1.out.trans (hb2.mono (ag hBs HB1.out.size)));clear hb2;have HB3:Hid (∀o,Below B w (w2.alloc o)):=fun o=>HB2.out.alloc (ag hBs HB2.out.size) o
  go_wp2_with fail
  go_loopw [6] (fun(v:Value) (wr:World)=>v=.bool false/\Below B w wr) (fun _ _=>0)
  case atStart=>exact⟨rfl,HB3.out _⟩
  case round =>
   obtain⟨rfl,hb⟩:=hrel;have HB:=aa hb;clear hb;go_wp2;go_ret;exact⟨by rw[HT.out];rfl,HB.out⟩
 |some q =>
  obtain⟨p,l⟩:=q;rw[hs]at hT;dsimp only at hT;have HSP:Hid (∀w',Wd w'->_):=fun w' hw=>ls (show(cE bd st.rest).length<=100000 by omega) hs w' hw
  have HT:=aa hT;clear hT hs;obtain⟨S1,hS1⟩ : ∃S,cE bd st.rest=S:=⟨_,rfl⟩;obtain⟨S2,hS2⟩ : ∃S,c9 bd st.rest=S:=⟨_,rfl⟩;rw[hS1]at HUP HSP HT ha;rw[hS2]at HUP HT hb;clear hS1 hS2;go_enter Tryz.func92,Tryz.ntmps92
  go_wp2_with fail
  refine HUP.out.mono ?_;rintro e w1⟨rfl,hc1⟩;have HB1:=aa (hc1.below H.out.lo hBs);have H1:=aa (H.out.cur hc1);clear hc1
  go_wp2_with fail
  refine(HSP.out w1 (HW.out.low hB HB1.out)).mono ?_;rintro e w2⟨rfl,hb2⟩;have HB2:=aa (HB1.out.trans (hb2.mono (ag hBs HB1.out.size)));have H2:=aa (H1.out.below hb2);clear hb2;have hB2:B<=w2.heap.size:=ag hBs HB2.out.size
  go_upto_region 4 with fail
  obtain⟨xb,hxb⟩ : ∃xb,w2.heap.size=xb:=⟨_,rfl⟩;obtain⟨w3,hw3⟩ : ∃w3,w2.alloc (Obj.cells #[.int .i64 1,.int .i64 0,.string (ba p),.string (ba l),.string ⟨#[]⟩,.string ⟨#[]⟩,.slice none 0 0,.slice none 0 0] 42)=w3:=⟨_,rfl⟩;have hb3:Below w2.heap.size w2 w3:=by rw[<-hw3];exact(ae _ _).alloc (af _) _
  have hbx3:w3.heap[xb]? = some (.cells #[.int .i64 1,.int .i64 0,.string (ba p),.string (ba l),.string ⟨#[]⟩,.string ⟨#[]⟩,.slice none 0 0,.slice none 0 0] 42 (0,0)):=by rw[<-hw3,<-hxb];exact ar w2 _
  have HREL:Hid (DT w B rb xb st o vn vo vd vt ys S1 T (.bool true) w3):=.inl ⟨S2.length+1,S2,⟨1,0,ba p,ba l,⟨#[]⟩,⟨#[]⟩,[],[]⟩,rfl,Nat.lt_succ_self _,HT.out,⟨H2.out.below hb3,by omega,fun e=>by have:=(H2.out.rn.lt xb e).2;omega,.slice none 0 0,.slice none 0 0,hbx3,aQ _ _ _ _,aQ _ _ _ _,.inl rfl,fun y hy=>yA,fun y hy=>yA⟩,by show S2.length+0+0<=_;omega,HB2.out.trans (hb3.mono hB2)⟩
  clear hb3 hbx3;rw[hw3,hxb];clear hw3 hxb;have hhB2:=aa hB2;clear hB2
  go_loopw [6] (DT w B rb xb st o vn vo vd vt ys S1 T) (fun v wr=>zI rb v wr)
  case atStart=>exact HREL.out
  case round =>
   rcases hrel with⟨n,r,x,rfl,hn,hT,hrx,hlen,hb⟩|⟨rfl,hT,hb⟩
   ·have HBL:=aa (bP r rb _ hrx.rd.curAt (by omega))
    have hbl:=cB r;have HRX:=aa hrx;have HB:=aa hb;have hmw:zI rb (.bool true) wr=r.length+1:=by show lI wr rb+1=_;rw[oJ hrx.rd]
    have HMW:=aa hmw;clear hrx hb hmw;cases n with
    |zero=>omega
    |succ n =>
    rw[lr]at hT;dsimp only at hT;cases h1:aH [62] (aI r)with
    |some r1 =>
     rw[h1]at hT;dsimp only at hT;have hl1:=cx h1;have HTT:=aa hT;have HSK:Hid (∀w',aG w' rb (ba (aI r))->_):=fun w' hc=>bW (aI r) [62] r1 rb w' hc h1;clear hT h1;generalize decide ((aI r).length<r.length)=Bz at *;obtain⟨Sb,hSb⟩ : ∃S,aI r=S:=⟨_,rfl⟩;rw[hSb]at HBL HSK hl1 hbl;clear hSb
     go_wp2_with fail
     refine HBL.out.mono ?_;rintro e wa⟨rfl,hca⟩;have HRA:=aa (HRX.out.cur hca);have HBA0:=aa (hca.below H.out.lo (ag hBs HB.out.size));clear hca
     go_wp2_with fail
     refine(HSK.out wa HRA.out.rd.curAt).mono ?_;rintro e wb⟨rfl,hcb⟩;have HRB:=aa (HRA.out.cur hcb);have HBA:=aa (HBA0.out.trans (hcb.below H.out.lo (ag hBs (ag HB.out.size HBA0.out.size))));clear hcb;obtain⟨vD,vA,hbx,hxo⟩:=HRB.out.at';have e0:=ai wb xb 0 _ _ _ hbx;have e1:=ai wb xb 1 _ _ _ hbx;have e2:=ai wb xb 2 _ _ _ hbx;have e3:=ai wb xb 3 _ _ _ hbx;have e4:=ai wb xb 4 _ _ _ hbx;have e5:=ai wb xb 5 _ _ _ hbx;have e6:=ai wb xb 6 _ _ _ hbx;have e7:=ai wb xb 7 _ _ _ hbx;simp only[List.getElem?_toArray,cw,bH]at e0 e1 e2 e3 e4 e5 e6 e7;have HBG:=aa (pB wb B rb { st with rest:=r1 } vn vo vd vt ys fr o x vD vA S1 ho (HFI.out r1 (by omega)) (by omega) (by omega) HRB.out.rd hxo)
     clear hbx hxo
     go_wp2_with fail
     refine HBG.out.mono ?_;rintro e wd⟨rfl,hrd,hbd⟩;clear e0 e1 e2 e3 e4 e5 e6 e7;have HRD:=aa hrd;have HD:=aa (HB.out.trans (HBA.out.trans hbd));clear hrd hbd;go_wp2;go_ret;exact⟨by rw[<-HTT.out];exact⟨rfl,HRD.out⟩,HD.out⟩
    |none =>
     rw[h1]at hT;dsimp only at hT;have HS1:Hid (∀w',aG w' rb (ba (aI r))->_):=fun w' hc=>dc (aI r) [62] rb w' hc h1;clear h1;cases h2:aH [47,62] (aI r)with
     |some r1 =>
     rw[h2]at hT;dsimp only at hT;have hl1:=cx h2;have HTT:=aa hT;have HSK:Hid (∀w',aG w' rb (ba (aI r))->_):=fun w' hc=>bW (aI r) [47,62] r1 rb w' hc h2;clear hT h2;generalize decide ((aI r).length<r.length)=Bz at *;obtain⟨Sb,hSb⟩ : ∃S,aI r=S:=⟨_,rfl⟩;rw[hSb]at HBL HSK hl1 hbl HS1;clear hSb
     go_wp2_with fail
     refine HBL.out.mono ?_;rintro e wa⟨rfl,hca⟩;have HRA:=aa (HRX.out.cur hca);have HBA0:=aa (hca.below H.out.lo (ag hBs HB.out.size));clear hca
     go_wp2_with fail
     refine(HS1.out wa HRA.out.rd.curAt).mono ?_;rintro e wc⟨rfl,hcc⟩;have HRC:=aa (HRA.out.cur hcc);have HBA1:=aa (HBA0.out.trans (hcc.below H.out.lo (ag hBs (ag HB.out.size HBA0.out.size))));clear hcc
     go_wp2_with fail
     refine(HSK.out wc HRC.out.rd.curAt).mono ?_;rintro e wb⟨rfl,hcb⟩;have HRB:=aa (HRC.out.cur hcb);have HBA:=aa (HBA1.out.trans (hcb.below H.out.lo (ag hBs (ag HB.out.size HBA1.out.size))));clear hcb;obtain⟨vD,vA,hbx,hxo⟩:=HRB.out.at';have e0:=ai wb xb 0 _ _ _ hbx;have e1:=ai wb xb 1 _ _ _ hbx;have e2:=ai wb xb 2 _ _ _ hbx;have e3:=ai wb xb 3 _ _ _ hbx;have e4:=ai wb xb 4 _ _ _ hbx;have e5:=ai wb xb 5 _ _ _ hbx;have e6:=ai wb xb 6 _ _ _ hbx;have e7:=ai wb xb 7 _ _ _ hbx;simp only[List.getElem?_toArray,cw,bH]at e0 e1 e2 e3 e4 e5 e6 e7;have HBG:=aa (pB wb B rb { st with rest:=r1 } vn vo vd vt ys fr o x vD vA S1 ho (HFI.out r1 (by omega)) (by omega) (by omega) HRB.out.rd hxo)
     clear hbx hxo
     go_wp2_with fail
     refine HBG.out.mono ?_;rintro e wd⟨rfl,hrd,hbd⟩;clear e0 e1 e2 e3 e4 e5 e6 e7;have HRD:=aa hrd;have HD:=aa (HB.out.trans (HBA.out.trans hbd));clear hrd hbd
     have HEN:Hid (Calls Tryz.prog 131 #[.pointer (some ⟨rb,0,none⟩)] wd fun e w'=>e=.returned (.tuple #[])/\dS w' B rb (qi (jp { st with rest:=r1 } o x S1) st.op ⟨(ed { st with ds:=st.ds++x.ds } o).ns.length,S1,st.ds.length⟩)/\Below B wd w'):=by
      obtain⟨vn',vo',vd',vt',ys',hrd'⟩:=HRD.out;exact uO wd B rb (jp { st with rest:=r1 } o x S1) vn' vo' vd' vt' ys' st.op ⟨(ed { st with ds:=st.ds++x.ds } o).ns.length,S1,st.ds.length⟩ rfl (DJ hns hop hds (by omega) (by show r1.length<=_;omega)) (Bw st r1 o x S1) hrd'
     go_wp2_with fail
     refine HEN.out.mono ?_;rintro e we⟨rfl,hre,hbe⟩;have HRE:=aa hre;have HDE:=aa (HD.out.trans hbe);clear hre hbe;go_wp2;go_ret;exact⟨by rw[<-HTT.out];exact⟨rfl,HRE.out⟩,HDE.out⟩
     |none =>
     rw[h2]at hT;dsimp only at hT;have HS2:Hid (∀w',aG w' rb (ba (aI r))->_):=fun w' hc=>dc (aI r) [47,62] rb w' hc h2;clear h2;by_cases hap:(aI r).length<r.length
     ·rw[av hap]at hT
      have hlt:=hap;rw[ax hap]at HBL;have HFR:=aa (HFI.out (aI r) (by omega))
      cases hm:eV (aI r) x with
      |none =>
       rw[hm]at hT;have HTT:=aa hT;have HMK:Hid (∀w',Wd w'->RX w' B rb xb { st with rest:=aI r } vn vo vd vt ys x->_):=fun w' hw hx=>Az HU.out w' B rb xb { st with rest:=aI r } vn vo vd vt ys x HFR.out hx (by omega) (by omega) hB hw hm
       clear hT hm hap hlt;obtain⟨Sb,hSb⟩ : ∃S,aI r=S:=⟨_,rfl⟩;rw[hSb]at HBL hbl HS1 HS2 HMK HFR;clear hSb
       go_wp2_with fail
       refine HBL.out.mono ?_;rintro e wa⟨rfl,hca⟩;have HRA:=aa (HRX.out.cur hca);have HBA0:=aa (hca.below H.out.lo (ag hBs HB.out.size));clear hca
       go_wp2_with fail
       refine(HS1.out wa HRA.out.rd.curAt).mono ?_;rintro e wc⟨rfl,hcc⟩;have HRC:=aa (HRA.out.cur hcc);have HBA1:=aa (HBA0.out.trans (hcc.below H.out.lo (ag hBs (ag HB.out.size HBA0.out.size))));clear hcc
       go_wp2_with fail
       refine(HS2.out wc HRC.out.rd.curAt).mono ?_;rintro e wb⟨rfl,hcb⟩;have HRB:=aa (HRC.out.cur hcb);have HBA:=aa (HB.out.trans (HBA1.out.trans (hcb.below H.out.lo (ag hBs (ag HB.out.size HBA1.out.size)))));clear hcb
       go_wp2_with fail
       refine(HMK.out wb (HW.out.low hB HBA.out) HRB.out).mono ?_;rintro e wd⟨rfl,hbd⟩;have HD:=aa (HBA.out.trans hbd);clear hbd;go_wp2
       go_roundw
       case rel=>exact .inr ⟨rfl,HTT.out.symm,HD.out⟩
       case measure=>rw[show zI rb (.bool true) wr=_ from HMW.out];exact Nat.succ_pos _
      |some q =>
       obtain⟨r2,x2⟩:=q;rw[hm]at hT;dsimp only at hT;have HTT:=aa hT;have hml:=kS hm;have HMK:Hid (∀w',Wd w'->RX w' B rb xb { st with rest:=aI r } vn vo vd vt ys x->_):=fun w' hw hx=>Ax HU.out w' B rb xb { st with rest:=aI r } vn vo vd vt ys x x2 r2 HFR.out hx (by omega) (by omega) hB hw hm
       clear hT hm hap;obtain⟨Sb,hSb⟩ : ∃S,aI r=S:=⟨_,rfl⟩;rw[hSb]at HBL hbl HS1 HS2 HMK HFR hml hlt;clear hSb
       go_wp2_with fail
       refine HBL.out.mono ?_;rintro e wa⟨rfl,hca⟩;have HRA:=aa (HRX.out.cur hca);have HBA0:=aa (hca.below H.out.lo (ag hBs HB.out.size));clear hca
       go_wp2_with fail
       refine(HS1.out wa HRA.out.rd.curAt).mono ?_;rintro e wc⟨rfl,hcc⟩;have HRC:=aa (HRA.out.cur hcc);have HBA1:=aa (HBA0.out.trans (hcc.below H.out.lo (ag hBs (ag HB.out.size HBA0.out.size))));clear hcc
       go_wp2_with fail
       refine(HS2.out wc HRC.out.rd.curAt).mono ?_;rintro e wb⟨rfl,hcb⟩;have HRB:=aa (HRC.out.cur hcb);have HBA:=aa (HB.out.trans (HBA1.out.trans (hcb.below H.out.lo (ag hBs (ag HB.out.size HBA1.out.size)))));clear hcb
       go_wp2_with fail
       refine(HMK.out wb (HW.out.low hB HBA.out) HRB.out).mono ?_;rintro e wd⟨rfl,hrd,hbd⟩;have HRD:=aa hrd;have HD:=aa (HBA.out.trans hbd);clear hrd hbd;go_wp2
       go_roundw
       case rel=>exact .inl ⟨n,r2,x2,rfl,by omega,HTT.out,HRD.out,by omega,HD.out⟩
       case measure=>rw[show zI rb (.bool true) wr=_ from HMW.out,show zI rb (.bool true) wd=lI wd rb+1 from rfl,oJ HRD.out.rd];show r2.length+1<_;omega
     ·rw[am hap]at hT
      rw[ap hap]at HBL;have HTT:=aa hT;clear hT hap;obtain⟨Sb,hSb⟩ : ∃S,aI r=S:=⟨_,rfl⟩;rw[hSb]at HBL hbl HS1 HS2;clear hSb
      go_wp2_with fail
      refine HBL.out.mono ?_;rintro e wa⟨rfl,hca⟩;have HRA:=aa (HRX.out.cur hca);have HBA0:=aa (hca.below H.out.lo (ag hBs HB.out.size));clear hca
      go_wp2_with fail
      refine(HS1.out wa HRA.out.rd.curAt).mono ?_;rintro e wc⟨rfl,hcc⟩;have HRC:=aa (HRA.out.cur hcc);have HBA1:=aa (HBA0.out.trans (hcc.below H.out.lo (ag hBs (ag HB.out.size HBA0.out.size))));clear hcc
      go_wp2_with fail
      refine(HS2.out wc HRC.out.rd.curAt).mono ?_;rintro e wb⟨rfl,hcb⟩;have HBA:=aa (HB.out.trans (HBA1.out.trans (hcb.below H.out.lo (ag hBs (ag HB.out.size HBA1.out.size)))));clear hcb;go_wp2
      go_roundw
      case rel=>exact .inr ⟨rfl,HTT.out.symm,HBA.out⟩
      case measure=>rw[show zI rb (.bool true) wr=_ from HMW.out];exact Nat.succ_pos _
   ·have HTT:=aa hT
    have HB:=aa hb;clear hT hb;go_wp2;go_ret;exact⟨by rw[HTT.out];rfl,HB.out⟩
theorem Di(w:World)(B rb:Nat)(st:Rd)(h:dS w B rb st)(h1:st.op.length=1):Calls Tryz.prog 91 #[.pointer (some ⟨rb,0,none⟩)] w fun e w'=>e=.returned (.bool false)/\Below B w w':=by
 have hBs:B<=w.heap.size:=by obtain⟨vn,vo,vd,vt,ys,h⟩:=h;exact ag h.lo (be (au h.box))
 have HO:Hid (∀n,Calls Tryz.prog 52 #[.pointer (some ⟨rb,0,none⟩)] (w.drewN n) fun e w''=>e=.returned (.bool true)/\w''=w.drewN n):=fun n=>by
  have:=eM (w.drewN n) B rb st (h.below (ay (ae _ _) n));rw[h1]at this;exact this
 clear h h1;go_enter Tryz.func91,Tryz.ntmps91
 go_wp2_with fail
 go_quiet ((go_at_call 52;exact Calls.quiet_of_same (HO.out _)))
 go_wp2;go_ret;exact⟨rfl,ay (ae _ _) _⟩
def gd(st:Rd)(fr:List Po)(o:Po):Option Rd :=
 if st.op.length=1 then none else
 match aH o.full st.rest with
 |none=>none
 |some r=>match aH [62] (aI r)with
  |none=>none
  |some r'=>some { qi { st with rest:=aI r } fr o with rest:=r' }
theorem AV(w:World)(B rb:Nat)(st:Rd)(fr:List Po)(o:Po)(ho:st.op=fr++[o])(hfr:fr.length<=1000000)(h:dS w B rb st)(h1:st.op.length≠1)(hp:aH o.full st.rest=none):Calls Tryz.prog 91 #[.pointer (some ⟨rb,0,none⟩)] w fun e w'=>e=.returned (.bool false)/\Below B w w':=by
 have hBs:B<=w.heap.size:=by obtain⟨vn,vo,vd,vt,ys,h⟩:=h;exact ag h.lo (be (au h.box))
 have hlo:B<=rb:=by obtain⟨vn,vo,vd,vt,ys,h⟩:=h;exact h.lo
 have HO:Hid (∀w',Below w.heap.size w w'->Calls Tryz.prog 52 #[.pointer (some ⟨rb,0,none⟩)] w' fun e w''=>e=.returned (.bool false)/\w''=w'):=fun w' hb=>by
  have:=eM w' B rb st (h.below hb);rw[ap h1]at this;exact this
 have HI:Hid (∀w',Below w.heap.size w w'->_):=fun w' hb=>gF w' B rb st fr o ho hfr (h.below hb);have HS:Hid (∀w',Below w.heap.size w w'->_):=fun w' hb=>dc st.rest o.full rb w' (by obtain⟨vn,vo,vd,vt,ys,h⟩:=h.below hb;exact h.curAt) hp
 have hfl:=pZ o;clear h h1 ho hp;go_enter Tryz.func91,Tryz.ntmps91
 go_upto_region 1 with fail
 go_cut [14] (fun c wx=>c=.bool true/\Below B w wx)
 case first =>
  go_region_with (first
   |(go_at_call 52;refine(HO.out _ (by first|exact(ae _ _).drew|exact ae _ _)).mono ?_;rintro e w2 ⟨rfl,hw⟩;rw[hw];clear hw)
   |(go_at_call 130;refine(HI.out _ (by first|exact(ae _ _).drew|exact ae _ _)).mono ?_;rintro e w3 ⟨rfl,hb3⟩)
   |(go_at_call 82;refine(HS.out w3 (((ae _ _).drew).trans hb3)).mono ?_;rintro e w4 ⟨rfl,hc4⟩))
  all_goals
   have HB:=aa (((ae B w).drew.trans (hb3.mono hBs)).trans (hc4.below hlo (ag hBs hb3.size)));clear hb3 hc4
   go_wp2_with fail
   go_meet
   exact⟨rfl,HB.out⟩
 case rest =>
  obtain⟨rfl,hb⟩:=hcut;go_wp2;go_ret;exact⟨rfl,hb⟩
theorem Dj(w:World)(B rb:Nat)(st:Rd)(fr:List Po)(o:Po)(ho:st.op=fr++[o])(hfr:fr.length<=1000000)(h:dS w B rb st)(h1:st.op.length≠1)(r:List UInt8)(hp:aH o.full st.rest=some r)(hf:iV st)(hou:o.outer<=st.ds.length):Calls Tryz.prog 91 #[.pointer (some ⟨rb,0,none⟩)] w fun e w'=>kw (gd st fr o) B rb e w'/\Below B w w':=by
 have hBs:B<=w.heap.size:=by obtain⟨vn,vo,vd,vt,ys,h⟩:=h;exact ag h.lo (be (au h.box))
 have hlo:B<=rb:=by obtain⟨vn,vo,vd,vt,ys,h⟩:=h;exact h.lo
 have HO:Hid (∀w',Below w.heap.size w w'->Calls Tryz.prog 52 #[.pointer (some ⟨rb,0,none⟩)] w' fun e w''=>e=.returned (.bool false)/\w''=w'):=fun w' hb=>by
  have:=eM w' B rb st (h.below hb);rw[ap h1]at this;exact this
 have HI:Hid (∀w',Below w.heap.size w w'->_):=fun w' hb=>gF w' B rb st fr o ho hfr (h.below hb);have HS:Hid (∀w',Below w.heap.size w w'->_):=fun w' hb=>bW st.rest o.full r rb w' (by obtain⟨vn,vo,vd,vt,ys,h⟩:=h.below hb;exact h.curAt) hp
 have hfl:=pZ o;have hrl:r.length<=100000:=by have:=cx hp;have:=hf.rest;omega
 have hbl:=cB r;have HA:Hid (∀w' w'',Below w.heap.size w w'->dK rb (ba r) w' w''->dS w'' B rb { st with rest:=r }):=fun w' w'' hb hc=>by obtain⟨vn,vo,vd,vt,ys,h⟩:=h.below hb;exact⟨vn,vo,vd,vt,ys,h.cur hc⟩
 obtain⟨T,hT⟩ : ∃T,gd st fr o=T:=⟨_,rfl⟩;rw[hT];unfold gd at hT;rw[am h1,hp]at hT;dsimp only at hT;have HBL:Hid (∀w',aG w' rb (ba r)->_):=fun w' hc=>bP r rb w' hc (by omega)
 have HEN:Hid (∀w',dS w' B rb { st with rest:=aI r }->_):=fun w' ⟨vn,vo,vd,vt,ys,h⟩=>uO w' B rb { st with rest:=aI r } vn vo vd vt ys fr o ho ⟨by show(aI r).length<=_;omega,hf.ns,hf.op,hf.ds,hf.tx⟩ hou h
 have HCA:Hid (∀w' s,dS w' B rb s->aG w' rb (ba s.rest)):=fun w' s ⟨_,_,_,_,_,h⟩=>h.curAt;have HCU:Hid (∀w' w'' (s:Rd) r,dS w' B rb s->dK rb (ba r) w' w''->dS w'' B rb { s with rest:=r }):=fun w' w'' s r ⟨vn,vo,vd,vt,ys,h⟩ hc=>⟨vn,vo,vd,vt,ys,h.cur hc⟩
 have HSG:Hid (∀w',aG w' rb (ba (aI r))->Calls Tryz.prog 82 #[.pointer (some ⟨rb,0,none⟩),.string (ba [62])] w' fun e w''=>e=.returned (.bool (aH [62] (aI r)).isSome)/\dK rb (ba ((aH [62] (aI r)).getD (aI r))) w' w''):=fun w' hc=>by
  cases hg:aH [62] (aI r)with
  |none=>exact dc (aI r) [62] rb w' hc hg
  |some r'=>exact bW (aI r) [62] r' rb w' hc hg
 have HTT:Hid (∀w',dS w' B rb { qi { st with rest:=aI r } fr o with rest:=(aH [62] (aI r)).getD (aI r) }->kw T B rb (.returned (.bool (aH [62] (aI r)).isSome)) w'):=fun w' h=>by
  rw[<-hT];cases hg:aH [62] (aI r)with
  |none=>rfl
  |some r'=>rw[hg]at h;exact⟨rfl,h⟩
 clear h h1 ho hp hT hf;generalize decide ((aI r).length<r.length)=Bz at *;generalize (aH [62] (aI r)).isSome=Bs at *;generalize (aH [62] (aI r)).getD (aI r)=Sg at *;obtain⟨Sb,hSb⟩ : ∃S,aI r=S:=⟨_,rfl⟩;rw[hSb]at HBL HEN HSG HTT;clear hSb;go_enter Tryz.func91,Tryz.ntmps91
 go_upto_region 1 with fail
 go_cut [14] (fun c wx=>c=.bool false/\Below B w wx/\dS wx B rb { st with rest:=r })
 case first =>
  go_region_with (first
   |(go_at_call 52;refine(HO.out _ (by first|exact(ae _ _).drew|exact ae _ _)).mono ?_;rintro e w2 ⟨rfl,hw⟩;rw[hw];clear hw)
   |(go_at_call 130;refine(HI.out _ (by first|exact(ae _ _).drew|exact ae _ _)).mono ?_;rintro e w3 ⟨rfl,hb3⟩)
   |(go_at_call 82;refine(HS.out w3 (((ae _ _).drew).trans hb3)).mono ?_;rintro e w4 ⟨rfl,hc4⟩))
  all_goals
   have HB:=aa (((ae B w).drew.trans (hb3.mono hBs)).trans (hc4.below hlo (ag hBs hb3.size)));have HR:=aa (HA.out _ _ ((ae _ _).drew.trans hb3) hc4);clear hb3 hc4
   go_wp2_with fail
   go_meet
   exact⟨rfl,HB.out,HR.out⟩
 case rest =>
  obtain⟨rfl,hb,hr⟩:=hcut;have HB:=aa hb;have HR:=aa hr;clear hb hr
  go_wp2_with fail
  refine(HBL.out _ (HCA.out _ _ HR.out)).mono ?_;rintro e w1⟨rfl,hc1⟩;have HR1:=aa (HCU.out _ _ _ _ HR.out hc1);have HB1:=aa (HB.out.trans (hc1.below hlo (ag hBs HB.out.size)));clear hc1
  go_wp2_with fail
  refine(HEN.out _ HR1.out).mono ?_;rintro e w2⟨rfl,hr2,hb2⟩;have HR2:=aa hr2;have HB2:=aa (HB1.out.trans hb2);clear hr2 hb2
  go_wp2_with fail
  refine(HSG.out _ (HCA.out _ _ HR2.out)).mono ?_;rintro e w3⟨rfl,hc3⟩;have HR3:=aa (HCU.out _ _ _ _ HR2.out hc3);have HB3:=aa (HB2.out.trans (hc3.below hlo (ag hBs HB2.out.size)));clear hc3;go_wp2;go_ret;exact⟨HTT.out _ HR3.out,HB3.out⟩
def gU(t x:List UInt8):Nd:=⟨4,0,⟨#[]⟩,ba t,⟨#[]⟩,ba x,[],[]⟩
theorem eH.curOther{w w':World}{B rb cb:Nat}{st:Rd}{vn vo vd vt:Value}{ys:List Ny}{R:ByteArray}{cs:Array Value}(h:eH w B rb st vn vo vd vt ys)(hc:dK cb R w w')(hcb:w.heap[cb]? = some (.cells cs 85 (0,0))):eH w' B rb st vn vo vd vt ys :=
 h.keep (hc.other rb (au h.box) (fun e=>by have hb:=h.box;rw[e,hcb]at hb;simp at hb)) (fun b e cs' hb hb2=>hc.other b (au hb2) (fun e0=>by
  subst e0;rw[hcb]at hb2;simp only[al,Obj.cells.injEq]at hb2;obtain⟨_,he,_⟩:=hb2;rcases hb with⟨_,h2⟩|⟨_,h2⟩|⟨_,h2⟩|⟨_,h2⟩|⟨y,_,⟨_,h2⟩|⟨_,h2⟩⟩<;>(rw[h2]at he;exact absurd he (by decide))))
theorem yQ(hU:gm)(w:World)(B rb:Nat)(st:Rd)(fr:List Po)(o:Po)(ho:st.op=fr++[o])(hf:iV st)(h:dS w B rb st)(hW:Wd w)(ok:Bool)(p r:List UInt8)(hT:Calls Tryz.prog 127 #[.pointer (some ⟨rb,0,none⟩),.string ⟨#[63,62]⟩] w fun e w'=>e=.returned (.tuple #[.string (ba p),.bool ok])/\dK rb (ba r) w w')(hp:p.length<=100000) :
 Calls Tryz.prog 90 #[.pointer (some ⟨rb,0,none⟩)] w fun e w'=>e=.returned (.bool ok)/\dS w' B rb (iw { st with rest:=r } o (gU (cE [32,9,10] p) (aI (c9 [32,9,10] p))))/\Below B w w':=by
 obtain⟨vn,vo,vd,vt,ys,h⟩:=h;have hfr:fr.length<=1000000:=by have:=hf.op;rw[ho,aj]at this;simp at this;omega
 have hBs:B<=w.heap.size:=ag h.lo (be (au h.box));have HT:=aa hT;have H:=aa h;have hul:=gM [32,9,10] p;have HUP:Hid (∀w' cb,aG w' cb (ba p)->_):=fun w' cb hc=>hU p [32,9,10] cb w' hc hp (.inr (.inl rfl));have HBL:Hid (∀w' cb,aG w' cb (ba (c9 [32,9,10] p))->_):=fun w' cb hc=>bP (c9 [32,9,10] p) cb w' hc (by omega)
 have HADD:Hid (∀w1,eH w1 B rb { st with rest:=r } vn vo vd vt ys->_):=fun w1 h1=>oT w1 B rb { st with rest:=r } vn vo vd vt ys fr o (gU (cE [32,9,10] p) (aI (c9 [32,9,10] p))) (.slice none 0 0) (.slice none 0 0) ho hfr hf.ns hf.tx h1 ⟨aQ _ _ _ _,aQ _ _ _ _⟩ (.inl rfl);clear h hW ho hT hul hp;generalize decide ((aI (c9 [32,9,10] p)).length<(c9 [32,9,10] p).length)=Bz at *;obtain⟨tA,htA⟩ : ∃t,cE [32,9,10] p=t:=⟨_,rfl⟩;obtain⟨tB,htB⟩ : ∃t,c9 [32,9,10] p=t:=⟨_,rfl⟩;rw[htA,htB]at HUP HADD ⊢;rw[htB]at HBL;obtain⟨tC,htC⟩ : ∃t,aI tB=t:=⟨_,rfl⟩;rw[htC]at HBL HADD ⊢;clear htA htB htC;go_enter Tryz.func90,Tryz.ntmps90
 go_wp2_with fail
 refine HT.out.mono ?_;rintro e w1⟨rfl,hc1⟩;have H1:=aa (H.out.cur hc1);have HB1:=aa (hc1.below H.out.lo hBs);clear hc1
 go_wp2_with fail
 obtain⟨cb,hcb⟩ : ∃cb,w1.heap.size=cb:=⟨_,rfl⟩;obtain⟨w2,hw2⟩ : ∃w2,w1.alloc (Obj.cells #[.string (ba p)] 85)=w2:=⟨_,rfl⟩;have hb2:Below w1.heap.size w1 w2:=by rw[<-hw2];exact(ae _ _).alloc (af _) _
 have hbx2:w2.heap[cb]? = some (.cells #[.string (ba p)] 85 (0,0)):=by rw[<-hw2,<-hcb];exact ar w1 _
 have hca:aG w2 cb (ba p):=⟨_,_,hbx2,rfl⟩;have H2:=aa (H1.out.below hb2);have HBX2:=aa hbx2;have HCA:=aa hca;have hBc:B<=cb:=by rw[<-hcb];exact ag hBs HB1.out.size
 have HB2:=aa (HB1.out.trans (hb2.mono (ag hBs HB1.out.size)));rw[hw2,hcb];clear hw2 hcb hb2 hbx2 hca;refine(HUP.out w2 cb HCA.out).mono ?_;rintro e w3⟨rfl,hc3⟩;have HC3:=aa hc3;have H3:=aa (H2.out.curOther hc3 HBX2.out);have HBX3:Hid (w3.heap[cb]? = some (.cells #[.string (ba tB)] 85 (0,0))):=hc3.cell _ _ HBX2.out;have HB3:=aa (HB2.out.trans (hc3.below hBc (ag hBs (by have:=HB2.out.size;omega))))
 clear hc3
 go_wp2_with fail
 refine(HBL.out w3 cb (HC3.out.at HCA.out)).mono ?_;rintro e w4⟨rfl,hc4⟩;have H4:=aa (H3.out.curOther hc4 HBX3.out);have hbx4:w4.heap[cb]? = some (.cells #[.string (ba tC)] 85 (0,0)):=hc4.cell _ _ HBX3.out;have q0:w4.cell? ⟨cb,0,none⟩=some (.string (ba tC)):=by rw[ai w4 cb 0 _ _ _ hbx4];rfl
 have HB4:=aa (HB3.out.trans (hc4.below hBc (ag hBs (by have:=HB3.out.size;omega))))
 clear hc4 hbx4
 go_wp2_with fail
 refine(HADD.out w4 H4.out).mono ?_;rintro e w5⟨rfl,⟨vn',ys',hr,hg⟩,hb⟩;have HR:=aa hr;have HB5:=aa (HB4.out.trans hb);clear hr hg hb;go_wp2;go_ret;exact⟨rfl,⟨_,_,_,_,_,HR.out⟩,HB5.out⟩
end Go.Proofs.YteinegfbpfhflaaGreatDoor
