/-
  parse.cursor: says. Conditions: the text isn't too long; what is asked of the value answers as it is to.
-/
import Derived.Test.YteinegfbpfhflaaGreatDoorM30
namespace Go.Proofs.YteinegfbpfhflaaGreatDoor
open Go.RowKit
set_option linter.unusedVariables false
set_option maxRecDepth 100000
set_option maxHeartbeats 8000000
def bQ(key:List UInt8)(may:List UInt8->Bool)(s:List UInt8):Option (List UInt8) :=
 if(aI s).length<s.length then
  match aH key (aI s)with
  |none=>none
  |some r=>match fe r with
   |none=>none
   |some r2=>match e9 r2 with
    |none=>none
    |some (v,r3)=>if may v=true then some r3 else none
 else none
def dx(F:FuncId)(may:List UInt8->Bool):Prop:=∀(v:List UInt8) (w:World),v.length<=100000->Wd w->Calls Tryz.prog F #[.string (ba v)] w fun e w'=>e=.returned (.bool (may v))/\Below w.heap.size w w'
theorem Wd.low2{w w':World}(h:Wd w)(hb:Below w.heap.size w w'):Wd w':=h.later hb
theorem EG(may:List UInt8->Bool)(hM:dx 84 may)(key s:List UInt8)(b:Nat)(w:World)(h:aG w b (ba s))(hl:s.length<=100000)(hW:Wd w)(h1:¬(aI s).length<s.length):Calls Tryz.prog 83 #[.pointer (some ⟨b,0,none⟩),.string (ba key),.func (.func 84) #[] #[]] w fun e w'=>e=.returned (.bool false)/\dK b (ba s) w w':=by
 have hlt:b<w.heap.size:=h.lt;have c0:=h.cell;have f0:=h.frozen;have HS:=aa h;have HW:=aa hW;have hbl:=cB s;have HM:=aa hM;have HBS:=aa (af w.heap.size);have H0:=aa (ae w.heap.size w);have HBL:Hid (∀w' cb,aG w' cb (ba s)->_):=fun w' cb hc=>bP s cb w' hc (by omega)
 rw[ap h1]at HBL;clear h hW hM;obtain⟨Z,hZ⟩ : ∃Z,ba s=Z:=⟨_,rfl⟩;obtain⟨cb,hcb⟩ : ∃cb,w.heap.size=cb:=⟨_,rfl⟩;have hcb1:(w.alloc (Obj.cells #[.string Z] 85)).heap[cb]? = some (.cells #[.string Z] 85 (0,0)):=by rw[<-hcb];exact ar w _
 have HCB:=aa hcb1;have HCBS:=aa hcb;have HWA:=aa (H0.out.alloc (af _) (Obj.cells #[.string Z] 85));rw[hZ]at HBL c0;have HZ:=aa hZ;clear hcb1 hZ hcb;go_enter Tryz.func83,Tryz.ntmps83
 go_upto_region 2 with fail
 rw[HCBS.out];obtain⟨w0,hw0⟩ : ∃w0,w.alloc (Obj.cells #[.string Z] 85)=w0:=⟨_,rfl⟩;rw[hw0]at HCB HWA ⊢;clear hw0;have HA0:Hid (aG w0 cb Z):=⟨_,_,HCB.out,rfl⟩;have HLE:Hid (w.heap.size<=cb):=cu HCBS.out
 go_wp2_with fail
 refine(HBL.out w0 cb HA0.out).mono ?_;rintro e w1⟨rfl,hc⟩;have HA1:=aa (hc.at HA0.out);replace HWA:=aa (HWA.out.trans (hc.below HLE.out HWA.out.size));clear hc;go_wp2;go_ret;exact⟨rfl,dK.of_below HS.out HWA.out⟩
theorem ED(may:List UInt8->Bool)(hM:dx 84 may)(key s:List UInt8)(b:Nat)(w:World)(h:aG w b (ba s))(hl:s.length<=100000)(hW:Wd w)(h1:(aI s).length<s.length)(h2:aH key (aI s)=none):Calls Tryz.prog 83 #[.pointer (some ⟨b,0,none⟩),.string (ba key),.func (.func 84) #[] #[]] w fun e w'=>e=.returned (.bool false)/\dK b (ba s) w w':=by
 have hlt:b<w.heap.size:=h.lt;have c0:=h.cell;have f0:=h.frozen;have HS:=aa h;have HW:=aa hW;have hbl:=cB s;have HM:=aa hM;have HBS:=aa (af w.heap.size);have H0:=aa (ae w.heap.size w);have HBL:Hid (∀w' cb,aG w' cb (ba s)->_):=fun w' cb hc=>bP s cb w' hc (by omega)
 rw[ax h1]at HBL;have HSK:Hid (∀w' cb,aG w' cb (ba (aI s))->_):=fun w' cb hc=>dc (aI s) key cb w' hc h2;clear h hW hM;obtain⟨Z,hZ⟩ : ∃Z,ba s=Z:=⟨_,rfl⟩;obtain⟨cb,hcb⟩ : ∃cb,w.heap.size=cb:=⟨_,rfl⟩;have hcb1:(w.alloc (Obj.cells #[.string Z] 85)).heap[cb]? = some (.cells #[.string Z] 85 (0,0)):=by rw[<-hcb];exact ar w _
 have HCB:=aa hcb1;have HCBS:=aa hcb;have HWA:=aa (H0.out.alloc (af _) (Obj.cells #[.string Z] 85));rw[hZ]at HBL c0;have HZ:=aa hZ;clear hcb1 hZ hcb;go_enter Tryz.func83,Tryz.ntmps83
 go_upto_region 2 with fail
 rw[HCBS.out];obtain⟨w0,hw0⟩ : ∃w0,w.alloc (Obj.cells #[.string Z] 85)=w0:=⟨_,rfl⟩;rw[hw0]at HCB HWA ⊢;clear hw0;have HA0:Hid (aG w0 cb Z):=⟨_,_,HCB.out,rfl⟩;have HLE:Hid (w.heap.size<=cb):=cu HCBS.out
 go_wp2_with fail
 refine(HBL.out w0 cb HA0.out).mono ?_;rintro e w1⟨rfl,hc⟩;have HA1:=aa (hc.at HA0.out);replace HWA:=aa (HWA.out.trans (hc.below HLE.out HWA.out.size));clear hc
 go_wp2_with fail
 refine(HSK.out w1 cb HA1.out).mono ?_;rintro e w2⟨rfl,hc⟩;have HA2:=aa (hc.at HA1.out);replace HWA:=aa (HWA.out.trans (hc.below HLE.out HWA.out.size));clear hc;go_wp2;go_ret;exact⟨rfl,dK.of_below HS.out HWA.out⟩
theorem Ez(may:List UInt8->Bool)(hM:dx 84 may)(key s:List UInt8)(b:Nat)(w:World)(h:aG w b (ba s))(hl:s.length<=100000)(hW:Wd w)(h1:(aI s).length<s.length)(r:List UInt8)(h2:aH key (aI s)=some r)(h3:fe r=none):Calls Tryz.prog 83 #[.pointer (some ⟨b,0,none⟩),.string (ba key),.func (.func 84) #[] #[]] w fun e w'=>e=.returned (.bool false)/\dK b (ba s) w w':=by
 have hlt:b<w.heap.size:=h.lt;have c0:=h.cell;have f0:=h.frozen;have HS:=aa h;have HW:=aa hW;have hbl:=cB s;have HM:=aa hM;have HBS:=aa (af w.heap.size);have H0:=aa (ae w.heap.size w);have HBL:Hid (∀w' cb,aG w' cb (ba s)->_):=fun w' cb hc=>bP s cb w' hc (by omega)
 rw[ax h1]at HBL;have HSK:Hid (∀w' cb,aG w' cb (ba (aI s))->_):=fun w' cb hc=>bW (aI s) key r cb w' hc h2;have hl2:=cx h2;have HEQ:Hid (∀w' cb,aG w' cb (ba r)->_):=fun w' cb hc=>iI r cb w' hc (by omega) h3
 clear h hW hM;obtain⟨Z,hZ⟩ : ∃Z,ba s=Z:=⟨_,rfl⟩;obtain⟨cb,hcb⟩ : ∃cb,w.heap.size=cb:=⟨_,rfl⟩;have hcb1:(w.alloc (Obj.cells #[.string Z] 85)).heap[cb]? = some (.cells #[.string Z] 85 (0,0)):=by rw[<-hcb];exact ar w _
 have HCB:=aa hcb1;have HCBS:=aa hcb;have HWA:=aa (H0.out.alloc (af _) (Obj.cells #[.string Z] 85));rw[hZ]at HBL c0;have HZ:=aa hZ;clear hcb1 hZ hcb;go_enter Tryz.func83,Tryz.ntmps83
 go_upto_region 2 with fail
 rw[HCBS.out];obtain⟨w0,hw0⟩ : ∃w0,w.alloc (Obj.cells #[.string Z] 85)=w0:=⟨_,rfl⟩;rw[hw0]at HCB HWA ⊢;clear hw0;have HA0:Hid (aG w0 cb Z):=⟨_,_,HCB.out,rfl⟩;have HLE:Hid (w.heap.size<=cb):=cu HCBS.out
 go_wp2_with fail
 refine(HBL.out w0 cb HA0.out).mono ?_;rintro e w1⟨rfl,hc⟩;have HA1:=aa (hc.at HA0.out);replace HWA:=aa (HWA.out.trans (hc.below HLE.out HWA.out.size));clear hc
 go_wp2_with fail
 refine(HSK.out w1 cb HA1.out).mono ?_;rintro e w2⟨rfl,hc⟩;have HA2:=aa (hc.at HA1.out);replace HWA:=aa (HWA.out.trans (hc.below HLE.out HWA.out.size));clear hc
 go_wp2_with fail
 refine(HEQ.out w2 cb HA2.out).mono ?_;rintro e w3⟨rfl,rr,_,hc⟩;have HA3:=aa (hc.at HA2.out);replace HWA:=aa (HWA.out.trans (hc.below HLE.out HWA.out.size));clear hc;go_wp2;go_ret;exact⟨rfl,dK.of_below HS.out HWA.out⟩
theorem Ew(may:List UInt8->Bool)(hM:dx 84 may)(key s:List UInt8)(b:Nat)(w:World)(h:aG w b (ba s))(hl:s.length<=100000)(hW:Wd w)(h1:(aI s).length<s.length)(r:List UInt8)(h2:aH key (aI s)=some r)(r2:List UInt8)(h3:fe r=some r2)(h4:e9 r2=none):Calls Tryz.prog 83 #[.pointer (some ⟨b,0,none⟩),.string (ba key),.func (.func 84) #[] #[]] w fun e w'=>e=.returned (.bool false)/\dK b (ba s) w w':=by
 have hlt:b<w.heap.size:=h.lt;have c0:=h.cell;have f0:=h.frozen;have HS:=aa h;have HW:=aa hW;have hbl:=cB s;have HM:=aa hM;have HBS:=aa (af w.heap.size);have H0:=aa (ae w.heap.size w);have HBL:Hid (∀w' cb,aG w' cb (ba s)->_):=fun w' cb hc=>bP s cb w' hc (by omega)
 rw[ax h1]at HBL;have HSK:Hid (∀w' cb,aG w' cb (ba (aI s))->_):=fun w' cb hc=>bW (aI s) key r cb w' hc h2;have hl2:=cx h2;have HEQ:Hid (∀w' cb,aG w' cb (ba r)->_):=fun w' cb hc=>dr r r2 cb w' hc (by omega) h3
 have hl3:=gh h3;have HQU:Hid (∀w' cb,aG w' cb (ba r2)->cD w'->_):=fun w' cb hc hm=>i6 r2 cb w' hc hm (by omega) h4
 clear h hW hM;obtain⟨Z,hZ⟩ : ∃Z,ba s=Z:=⟨_,rfl⟩;obtain⟨cb,hcb⟩ : ∃cb,w.heap.size=cb:=⟨_,rfl⟩;have hcb1:(w.alloc (Obj.cells #[.string Z] 85)).heap[cb]? = some (.cells #[.string Z] 85 (0,0)):=by rw[<-hcb];exact ar w _
 have HCB:=aa hcb1;have HCBS:=aa hcb;have HWA:=aa (H0.out.alloc (af _) (Obj.cells #[.string Z] 85));rw[hZ]at HBL c0;have HZ:=aa hZ;clear hcb1 hZ hcb;go_enter Tryz.func83,Tryz.ntmps83
 go_upto_region 2 with fail
 rw[HCBS.out];obtain⟨w0,hw0⟩ : ∃w0,w.alloc (Obj.cells #[.string Z] 85)=w0:=⟨_,rfl⟩;rw[hw0]at HCB HWA ⊢;clear hw0;have HA0:Hid (aG w0 cb Z):=⟨_,_,HCB.out,rfl⟩;have HLE:Hid (w.heap.size<=cb):=cu HCBS.out
 go_wp2_with fail
 refine(HBL.out w0 cb HA0.out).mono ?_;rintro e w1⟨rfl,hc⟩;have HA1:=aa (hc.at HA0.out);replace HWA:=aa (HWA.out.trans (hc.below HLE.out HWA.out.size));clear hc
 go_wp2_with fail
 refine(HSK.out w1 cb HA1.out).mono ?_;rintro e w2⟨rfl,hc⟩;have HA2:=aa (hc.at HA1.out);replace HWA:=aa (HWA.out.trans (hc.below HLE.out HWA.out.size));clear hc
 go_wp2_with fail
 refine(HEQ.out w2 cb HA2.out).mono ?_;rintro e w3⟨rfl,hc⟩;have HA3:=aa (hc.at HA2.out);replace HWA:=aa (HWA.out.trans (hc.below HLE.out HWA.out.size));clear hc
 go_wp2_with fail
 refine(HQU.out w3 cb HA3.out (HW.out.low2 HWA.out).max).mono ?_;rintro e w4⟨rfl,hc⟩;have HA4:=aa (hc.at HA3.out);replace HWA:=aa (HWA.out.trans (hc.below HLE.out HWA.out.size));clear hc;go_wp2;go_ret;exact⟨rfl,dK.of_below HS.out HWA.out⟩
theorem Et(may:List UInt8->Bool)(hM:dx 84 may)(key s:List UInt8)(b:Nat)(w:World)(h:aG w b (ba s))(hl:s.length<=100000)(hW:Wd w)(h1:(aI s).length<s.length)(r:List UInt8)(h2:aH key (aI s)=some r)(r2:List UInt8)(h3:fe r=some r2)(v r3:List UInt8)(h4:e9 r2=some (v,r3))(h5:may v=false):Calls Tryz.prog 83 #[.pointer (some ⟨b,0,none⟩),.string (ba key),.func (.func 84) #[] #[]] w fun e w'=>e=.returned (.bool false)/\dK b (ba s) w w':=by
 have hlt:b<w.heap.size:=h.lt;have c0:=h.cell;have f0:=h.frozen;have HS:=aa h;have HW:=aa hW;have hbl:=cB s;have HM:=aa hM;have HBS:=aa (af w.heap.size);have H0:=aa (ae w.heap.size w);have HBL:Hid (∀w' cb,aG w' cb (ba s)->_):=fun w' cb hc=>bP s cb w' hc (by omega)
 rw[ax h1]at HBL;have HSK:Hid (∀w' cb,aG w' cb (ba (aI s))->_):=fun w' cb hc=>bW (aI s) key r cb w' hc h2;have hl2:=cx h2;have HEQ:Hid (∀w' cb,aG w' cb (ba r)->_):=fun w' cb hc=>dr r r2 cb w' hc (by omega) h3
 have hl3:=gh h3;have HQU:Hid (∀w' cb,aG w' cb (ba r2)->cD w'->_):=fun w' cb hc hm=>eL r2 v r3 cb w' hc hm (by omega) h4
 have hl4:=il h4;have HMAY:Hid (∀w',Wd w'->_):=fun w' hw=>HM.out v w' (by omega) hw
 rw[h5]at HMAY;clear h hW hM;obtain⟨Z,hZ⟩ : ∃Z,ba s=Z:=⟨_,rfl⟩;obtain⟨cb,hcb⟩ : ∃cb,w.heap.size=cb:=⟨_,rfl⟩;have hcb1:(w.alloc (Obj.cells #[.string Z] 85)).heap[cb]? = some (.cells #[.string Z] 85 (0,0)):=by rw[<-hcb];exact ar w _
 have HCB:=aa hcb1;have HCBS:=aa hcb;have HWA:=aa (H0.out.alloc (af _) (Obj.cells #[.string Z] 85));rw[hZ]at HBL c0;have HZ:=aa hZ;clear hcb1 hZ hcb;go_enter Tryz.func83,Tryz.ntmps83
 go_upto_region 2 with fail
 rw[HCBS.out];obtain⟨w0,hw0⟩ : ∃w0,w.alloc (Obj.cells #[.string Z] 85)=w0:=⟨_,rfl⟩;rw[hw0]at HCB HWA ⊢;clear hw0;have HA0:Hid (aG w0 cb Z):=⟨_,_,HCB.out,rfl⟩;have HLE:Hid (w.heap.size<=cb):=cu HCBS.out
 go_wp2_with fail
 refine(HBL.out w0 cb HA0.out).mono ?_;rintro e w1⟨rfl,hc⟩;have HA1:=aa (hc.at HA0.out);replace HWA:=aa (HWA.out.trans (hc.below HLE.out HWA.out.size));clear hc
 go_wp2_with fail
 refine(HSK.out w1 cb HA1.out).mono ?_;rintro e w2⟨rfl,hc⟩;have HA2:=aa (hc.at HA1.out);replace HWA:=aa (HWA.out.trans (hc.below HLE.out HWA.out.size));clear hc
 go_wp2_with fail
 refine(HEQ.out w2 cb HA2.out).mono ?_;rintro e w3⟨rfl,hc⟩;have HA3:=aa (hc.at HA2.out);replace HWA:=aa (HWA.out.trans (hc.below HLE.out HWA.out.size));clear hc
 go_wp2_with fail
 refine(HQU.out w3 cb HA3.out (HW.out.low2 HWA.out).max).mono ?_;rintro e w4⟨rfl,hc⟩;have HA4:=aa (hc.at HA3.out);replace HWA:=aa (HWA.out.trans (hc.below HLE.out HWA.out.size));clear hc
 go_wp2_with fail
 refine(HMAY.out w4 (HW.out.low2 HWA.out)).mono ?_;rintro e w5⟨rfl,hb⟩;have HA5:=aa (HA4.out.below hb);replace HWA:=aa (HWA.out.trans (hb.mono HWA.out.size));clear hb;go_wp2;go_ret;exact⟨rfl,dK.of_below HS.out HWA.out⟩
theorem Ep(may:List UInt8->Bool)(hM:dx 84 may)(key s:List UInt8)(b:Nat)(w:World)(h:aG w b (ba s))(hl:s.length<=100000)(hW:Wd w)(h1:(aI s).length<s.length)(r:List UInt8)(h2:aH key (aI s)=some r)(r2:List UInt8)(h3:fe r=some r2)(v r3:List UInt8)(h4:e9 r2=some (v,r3))(h5:may v=true):Calls Tryz.prog 83 #[.pointer (some ⟨b,0,none⟩),.string (ba key),.func (.func 84) #[] #[]] w fun e w'=>e=.returned (.bool true)/\dK b (ba r3) w w':=by
 have hlt:b<w.heap.size:=h.lt;have c0:=h.cell;have f0:=h.frozen;have HS:=aa h;have HW:=aa hW;have hbl:=cB s;have HM:=aa hM;have HBS:=aa (af w.heap.size);have H0:=aa (ae w.heap.size w);have HBL:Hid (∀w' cb,aG w' cb (ba s)->_):=fun w' cb hc=>bP s cb w' hc (by omega)
 rw[ax h1]at HBL;have HSK:Hid (∀w' cb,aG w' cb (ba (aI s))->_):=fun w' cb hc=>bW (aI s) key r cb w' hc h2;have hl2:=cx h2;have HEQ:Hid (∀w' cb,aG w' cb (ba r)->_):=fun w' cb hc=>dr r r2 cb w' hc (by omega) h3
 have hl3:=gh h3;have HQU:Hid (∀w' cb,aG w' cb (ba r2)->cD w'->_):=fun w' cb hc hm=>eL r2 v r3 cb w' hc hm (by omega) h4
 have hl4:=il h4;have HMAY:Hid (∀w',Wd w'->_):=fun w' hw=>HM.out v w' (by omega) hw
 rw[h5]at HMAY;clear h hW hM;obtain⟨Z,hZ⟩ : ∃Z,ba s=Z:=⟨_,rfl⟩;obtain⟨cb,hcb⟩ : ∃cb,w.heap.size=cb:=⟨_,rfl⟩;have hcb1:(w.alloc (Obj.cells #[.string Z] 85)).heap[cb]? = some (.cells #[.string Z] 85 (0,0)):=by rw[<-hcb];exact ar w _
 have HCB:=aa hcb1;have HCBS:=aa hcb;have HWA:=aa (H0.out.alloc (af _) (Obj.cells #[.string Z] 85));rw[hZ]at HBL c0;have HZ:=aa hZ;clear hcb1 hZ hcb;go_enter Tryz.func83,Tryz.ntmps83
 go_upto_region 2 with fail
 rw[HCBS.out];obtain⟨w0,hw0⟩ : ∃w0,w.alloc (Obj.cells #[.string Z] 85)=w0:=⟨_,rfl⟩;rw[hw0]at HCB HWA ⊢;clear hw0;have HA0:Hid (aG w0 cb Z):=⟨_,_,HCB.out,rfl⟩;have HLE:Hid (w.heap.size<=cb):=cu HCBS.out
 go_wp2_with fail
 refine(HBL.out w0 cb HA0.out).mono ?_;rintro e w1⟨rfl,hc⟩;have HA1:=aa (hc.at HA0.out);replace HWA:=aa (HWA.out.trans (hc.below HLE.out HWA.out.size));clear hc
 go_wp2_with fail
 refine(HSK.out w1 cb HA1.out).mono ?_;rintro e w2⟨rfl,hc⟩;have HA2:=aa (hc.at HA1.out);replace HWA:=aa (HWA.out.trans (hc.below HLE.out HWA.out.size));clear hc
 go_wp2_with fail
 refine(HEQ.out w2 cb HA2.out).mono ?_;rintro e w3⟨rfl,hc⟩;have HA3:=aa (hc.at HA2.out);replace HWA:=aa (HWA.out.trans (hc.below HLE.out HWA.out.size));clear hc
 go_wp2_with fail
 refine(HQU.out w3 cb HA3.out (HW.out.low2 HWA.out).max).mono ?_;rintro e w4⟨rfl,hc⟩;have HA4:=aa (hc.at HA3.out);replace HWA:=aa (HWA.out.trans (hc.below HLE.out HWA.out.size));clear hc
 go_wp2_with fail
 refine(HMAY.out w4 (HW.out.low2 HWA.out)).mono ?_;rintro e w5⟨rfl,hb⟩;have HA5:=aa (HA4.out.below hb);replace HWA:=aa (HWA.out.trans (hb.mono HWA.out.size));clear hb;have q0:=HA5.out.cell;have q1:=(HS.out.below HWA.out).cell;have q2:=(HS.out.below HWA.out).frozen;go_wp2;go_ret;exact⟨rfl,(dK.of_below HS.out HWA.out).trans (dK.set (HS.out.below HWA.out) _)⟩
theorem nb(may:List UInt8->Bool)(hM:dx 84 may)(key s:List UInt8)(b:Nat)(w:World)(h:aG w b (ba s))(hl:s.length<=100000)(hW:Wd w):Calls Tryz.prog 83 #[.pointer (some ⟨b,0,none⟩),.string (ba key),.func (.func 84) #[] #[]] w fun e w'=>e=.returned (.bool (bQ key may s).isSome)/\dK b (ba ((bQ key may s).getD s)) w w':=by
 unfold bQ;by_cases h1:(aI s).length<s.length
 ·rw[av h1]
  cases h2:aH key (aI s)with
  |none=>exact ED may hM key s b w h hl hW h1 h2
  |some r =>
   dsimp only;cases h3:fe r with
   |none=>exact Ez may hM key s b w h hl hW h1 r h2 h3
   |some r2 =>
    dsimp only;cases h4:e9 r2 with
    |none=>exact Ew may hM key s b w h hl hW h1 r h2 r2 h3 h4
    |some q =>
     obtain⟨v,r3⟩:=q;dsimp only;cases h5:may v with
     |false=>rw[am (by decide)];exact Et may hM key s b w h hl hW h1 r h2 r2 h3 v r3 h4 h5
     |true=>rw[av rfl];exact Ep may hM key s b w h hl hW h1 r h2 r2 h3 v r3 h4 h5
 ·rw[am h1]
  exact EG may hM key s b w h hl hW h1
theorem EI(may:List UInt8->Bool)(hM:dx 85 may)(key s:List UInt8)(b:Nat)(w:World)(h:aG w b (ba s))(hl:s.length<=100000)(hW:Wd w)(h1:¬(aI s).length<s.length):Calls Tryz.prog 83 #[.pointer (some ⟨b,0,none⟩),.string (ba key),.func (.func 85) #[] #[]] w fun e w'=>e=.returned (.bool false)/\dK b (ba s) w w':=by
 have hlt:b<w.heap.size:=h.lt;have c0:=h.cell;have f0:=h.frozen;have HS:=aa h;have HW:=aa hW;have hbl:=cB s;have HM:=aa hM;have HBS:=aa (af w.heap.size);have H0:=aa (ae w.heap.size w);have HBL:Hid (∀w' cb,aG w' cb (ba s)->_):=fun w' cb hc=>bP s cb w' hc (by omega)
 rw[ap h1]at HBL;clear h hW hM;obtain⟨Z,hZ⟩ : ∃Z,ba s=Z:=⟨_,rfl⟩;obtain⟨cb,hcb⟩ : ∃cb,w.heap.size=cb:=⟨_,rfl⟩;have hcb1:(w.alloc (Obj.cells #[.string Z] 85)).heap[cb]? = some (.cells #[.string Z] 85 (0,0)):=by rw[<-hcb];exact ar w _
 have HCB:=aa hcb1;have HCBS:=aa hcb;have HWA:=aa (H0.out.alloc (af _) (Obj.cells #[.string Z] 85));rw[hZ]at HBL c0;have HZ:=aa hZ;clear hcb1 hZ hcb;go_enter Tryz.func83,Tryz.ntmps83
 go_upto_region 2 with fail
 rw[HCBS.out];obtain⟨w0,hw0⟩ : ∃w0,w.alloc (Obj.cells #[.string Z] 85)=w0:=⟨_,rfl⟩;rw[hw0]at HCB HWA ⊢;clear hw0;have HA0:Hid (aG w0 cb Z):=⟨_,_,HCB.out,rfl⟩;have HLE:Hid (w.heap.size<=cb):=cu HCBS.out
 go_wp2_with fail
 refine(HBL.out w0 cb HA0.out).mono ?_;rintro e w1⟨rfl,hc⟩;have HA1:=aa (hc.at HA0.out);replace HWA:=aa (HWA.out.trans (hc.below HLE.out HWA.out.size));clear hc;go_wp2;go_ret;exact⟨rfl,dK.of_below HS.out HWA.out⟩
theorem EF(may:List UInt8->Bool)(hM:dx 85 may)(key s:List UInt8)(b:Nat)(w:World)(h:aG w b (ba s))(hl:s.length<=100000)(hW:Wd w)(h1:(aI s).length<s.length)(h2:aH key (aI s)=none):Calls Tryz.prog 83 #[.pointer (some ⟨b,0,none⟩),.string (ba key),.func (.func 85) #[] #[]] w fun e w'=>e=.returned (.bool false)/\dK b (ba s) w w':=by
 have hlt:b<w.heap.size:=h.lt;have c0:=h.cell;have f0:=h.frozen;have HS:=aa h;have HW:=aa hW;have hbl:=cB s;have HM:=aa hM;have HBS:=aa (af w.heap.size);have H0:=aa (ae w.heap.size w);have HBL:Hid (∀w' cb,aG w' cb (ba s)->_):=fun w' cb hc=>bP s cb w' hc (by omega)
 rw[ax h1]at HBL;have HSK:Hid (∀w' cb,aG w' cb (ba (aI s))->_):=fun w' cb hc=>dc (aI s) key cb w' hc h2;clear h hW hM;obtain⟨Z,hZ⟩ : ∃Z,ba s=Z:=⟨_,rfl⟩;obtain⟨cb,hcb⟩ : ∃cb,w.heap.size=cb:=⟨_,rfl⟩;have hcb1:(w.alloc (Obj.cells #[.string Z] 85)).heap[cb]? = some (.cells #[.string Z] 85 (0,0)):=by rw[<-hcb];exact ar w _
 have HCB:=aa hcb1;have HCBS:=aa hcb;have HWA:=aa (H0.out.alloc (af _) (Obj.cells #[.string Z] 85));rw[hZ]at HBL c0;have HZ:=aa hZ;clear hcb1 hZ hcb;go_enter Tryz.func83,Tryz.ntmps83
 go_upto_region 2 with fail
 rw[HCBS.out];obtain⟨w0,hw0⟩ : ∃w0,w.alloc (Obj.cells #[.string Z] 85)=w0:=⟨_,rfl⟩;rw[hw0]at HCB HWA ⊢;clear hw0;have HA0:Hid (aG w0 cb Z):=⟨_,_,HCB.out,rfl⟩;have HLE:Hid (w.heap.size<=cb):=cu HCBS.out
 go_wp2_with fail
 refine(HBL.out w0 cb HA0.out).mono ?_;rintro e w1⟨rfl,hc⟩;have HA1:=aa (hc.at HA0.out);replace HWA:=aa (HWA.out.trans (hc.below HLE.out HWA.out.size));clear hc
 go_wp2_with fail
 refine(HSK.out w1 cb HA1.out).mono ?_;rintro e w2⟨rfl,hc⟩;have HA2:=aa (hc.at HA1.out);replace HWA:=aa (HWA.out.trans (hc.below HLE.out HWA.out.size));clear hc;go_wp2;go_ret;exact⟨rfl,dK.of_below HS.out HWA.out⟩
theorem EC(may:List UInt8->Bool)(hM:dx 85 may)(key s:List UInt8)(b:Nat)(w:World)(h:aG w b (ba s))(hl:s.length<=100000)(hW:Wd w)(h1:(aI s).length<s.length)(r:List UInt8)(h2:aH key (aI s)=some r)(h3:fe r=none):Calls Tryz.prog 83 #[.pointer (some ⟨b,0,none⟩),.string (ba key),.func (.func 85) #[] #[]] w fun e w'=>e=.returned (.bool false)/\dK b (ba s) w w':=by
 have hlt:b<w.heap.size:=h.lt;have c0:=h.cell;have f0:=h.frozen;have HS:=aa h;have HW:=aa hW;have hbl:=cB s;have HM:=aa hM;have HBS:=aa (af w.heap.size);have H0:=aa (ae w.heap.size w);have HBL:Hid (∀w' cb,aG w' cb (ba s)->_):=fun w' cb hc=>bP s cb w' hc (by omega)
 rw[ax h1]at HBL;have HSK:Hid (∀w' cb,aG w' cb (ba (aI s))->_):=fun w' cb hc=>bW (aI s) key r cb w' hc h2;have hl2:=cx h2;have HEQ:Hid (∀w' cb,aG w' cb (ba r)->_):=fun w' cb hc=>iI r cb w' hc (by omega) h3
 clear h hW hM;obtain⟨Z,hZ⟩ : ∃Z,ba s=Z:=⟨_,rfl⟩;obtain⟨cb,hcb⟩ : ∃cb,w.heap.size=cb:=⟨_,rfl⟩;have hcb1:(w.alloc (Obj.cells #[.string Z] 85)).heap[cb]? = some (.cells #[.string Z] 85 (0,0)):=by rw[<-hcb];exact ar w _
 have HCB:=aa hcb1;have HCBS:=aa hcb;have HWA:=aa (H0.out.alloc (af _) (Obj.cells #[.string Z] 85));rw[hZ]at HBL c0;have HZ:=aa hZ;clear hcb1 hZ hcb;go_enter Tryz.func83,Tryz.ntmps83
 go_upto_region 2 with fail
 rw[HCBS.out];obtain⟨w0,hw0⟩ : ∃w0,w.alloc (Obj.cells #[.string Z] 85)=w0:=⟨_,rfl⟩;rw[hw0]at HCB HWA ⊢;clear hw0;have HA0:Hid (aG w0 cb Z):=⟨_,_,HCB.out,rfl⟩;have HLE:Hid (w.heap.size<=cb):=cu HCBS.out
 go_wp2_with fail
 refine(HBL.out w0 cb HA0.out).mono ?_;rintro e w1⟨rfl,hc⟩;have HA1:=aa (hc.at HA0.out);replace HWA:=aa (HWA.out.trans (hc.below HLE.out HWA.out.size));clear hc
 go_wp2_with fail
 refine(HSK.out w1 cb HA1.out).mono ?_;rintro e w2⟨rfl,hc⟩;have HA2:=aa (hc.at HA1.out);replace HWA:=aa (HWA.out.trans (hc.below HLE.out HWA.out.size));clear hc
 go_wp2_with fail
 refine(HEQ.out w2 cb HA2.out).mono ?_;rintro e w3⟨rfl,rr,_,hc⟩;have HA3:=aa (hc.at HA2.out);replace HWA:=aa (HWA.out.trans (hc.below HLE.out HWA.out.size));clear hc;go_wp2;go_ret;exact⟨rfl,dK.of_below HS.out HWA.out⟩
theorem Ey(may:List UInt8->Bool)(hM:dx 85 may)(key s:List UInt8)(b:Nat)(w:World)(h:aG w b (ba s))(hl:s.length<=100000)(hW:Wd w)(h1:(aI s).length<s.length)(r:List UInt8)(h2:aH key (aI s)=some r)(r2:List UInt8)(h3:fe r=some r2)(h4:e9 r2=none):Calls Tryz.prog 83 #[.pointer (some ⟨b,0,none⟩),.string (ba key),.func (.func 85) #[] #[]] w fun e w'=>e=.returned (.bool false)/\dK b (ba s) w w':=by
 have hlt:b<w.heap.size:=h.lt;have c0:=h.cell;have f0:=h.frozen;have HS:=aa h;have HW:=aa hW;have hbl:=cB s;have HM:=aa hM;have HBS:=aa (af w.heap.size);have H0:=aa (ae w.heap.size w);have HBL:Hid (∀w' cb,aG w' cb (ba s)->_):=fun w' cb hc=>bP s cb w' hc (by omega)
 rw[ax h1]at HBL;have HSK:Hid (∀w' cb,aG w' cb (ba (aI s))->_):=fun w' cb hc=>bW (aI s) key r cb w' hc h2;have hl2:=cx h2;have HEQ:Hid (∀w' cb,aG w' cb (ba r)->_):=fun w' cb hc=>dr r r2 cb w' hc (by omega) h3
 have hl3:=gh h3;have HQU:Hid (∀w' cb,aG w' cb (ba r2)->cD w'->_):=fun w' cb hc hm=>i6 r2 cb w' hc hm (by omega) h4
 clear h hW hM;obtain⟨Z,hZ⟩ : ∃Z,ba s=Z:=⟨_,rfl⟩;obtain⟨cb,hcb⟩ : ∃cb,w.heap.size=cb:=⟨_,rfl⟩;have hcb1:(w.alloc (Obj.cells #[.string Z] 85)).heap[cb]? = some (.cells #[.string Z] 85 (0,0)):=by rw[<-hcb];exact ar w _
 have HCB:=aa hcb1;have HCBS:=aa hcb;have HWA:=aa (H0.out.alloc (af _) (Obj.cells #[.string Z] 85));rw[hZ]at HBL c0;have HZ:=aa hZ;clear hcb1 hZ hcb;go_enter Tryz.func83,Tryz.ntmps83
 go_upto_region 2 with fail
 rw[HCBS.out];obtain⟨w0,hw0⟩ : ∃w0,w.alloc (Obj.cells #[.string Z] 85)=w0:=⟨_,rfl⟩;rw[hw0]at HCB HWA ⊢;clear hw0;have HA0:Hid (aG w0 cb Z):=⟨_,_,HCB.out,rfl⟩;have HLE:Hid (w.heap.size<=cb):=cu HCBS.out
 go_wp2_with fail
 refine(HBL.out w0 cb HA0.out).mono ?_;rintro e w1⟨rfl,hc⟩;have HA1:=aa (hc.at HA0.out);replace HWA:=aa (HWA.out.trans (hc.below HLE.out HWA.out.size));clear hc
 go_wp2_with fail
 refine(HSK.out w1 cb HA1.out).mono ?_;rintro e w2⟨rfl,hc⟩;have HA2:=aa (hc.at HA1.out);replace HWA:=aa (HWA.out.trans (hc.below HLE.out HWA.out.size));clear hc
 go_wp2_with fail
 refine(HEQ.out w2 cb HA2.out).mono ?_;rintro e w3⟨rfl,hc⟩;have HA3:=aa (hc.at HA2.out);replace HWA:=aa (HWA.out.trans (hc.below HLE.out HWA.out.size));clear hc
 go_wp2_with fail
 refine(HQU.out w3 cb HA3.out (HW.out.low2 HWA.out).max).mono ?_;rintro e w4⟨rfl,hc⟩;have HA4:=aa (hc.at HA3.out);replace HWA:=aa (HWA.out.trans (hc.below HLE.out HWA.out.size));clear hc;go_wp2;go_ret;exact⟨rfl,dK.of_below HS.out HWA.out⟩
theorem Ev(may:List UInt8->Bool)(hM:dx 85 may)(key s:List UInt8)(b:Nat)(w:World)(h:aG w b (ba s))(hl:s.length<=100000)(hW:Wd w)(h1:(aI s).length<s.length)(r:List UInt8)(h2:aH key (aI s)=some r)(r2:List UInt8)(h3:fe r=some r2)(v r3:List UInt8)(h4:e9 r2=some (v,r3))(h5:may v=false):Calls Tryz.prog 83 #[.pointer (some ⟨b,0,none⟩),.string (ba key),.func (.func 85) #[] #[]] w fun e w'=>e=.returned (.bool false)/\dK b (ba s) w w':=by
 have hlt:b<w.heap.size:=h.lt;have c0:=h.cell;have f0:=h.frozen;have HS:=aa h;have HW:=aa hW;have hbl:=cB s;have HM:=aa hM;have HBS:=aa (af w.heap.size);have H0:=aa (ae w.heap.size w);have HBL:Hid (∀w' cb,aG w' cb (ba s)->_):=fun w' cb hc=>bP s cb w' hc (by omega)
 rw[ax h1]at HBL;have HSK:Hid (∀w' cb,aG w' cb (ba (aI s))->_):=fun w' cb hc=>bW (aI s) key r cb w' hc h2;have hl2:=cx h2;have HEQ:Hid (∀w' cb,aG w' cb (ba r)->_):=fun w' cb hc=>dr r r2 cb w' hc (by omega) h3
 have hl3:=gh h3;have HQU:Hid (∀w' cb,aG w' cb (ba r2)->cD w'->_):=fun w' cb hc hm=>eL r2 v r3 cb w' hc hm (by omega) h4
 have hl4:=il h4;have HMAY:Hid (∀w',Wd w'->_):=fun w' hw=>HM.out v w' (by omega) hw
 rw[h5]at HMAY;clear h hW hM;obtain⟨Z,hZ⟩ : ∃Z,ba s=Z:=⟨_,rfl⟩;obtain⟨cb,hcb⟩ : ∃cb,w.heap.size=cb:=⟨_,rfl⟩;have hcb1:(w.alloc (Obj.cells #[.string Z] 85)).heap[cb]? = some (.cells #[.string Z] 85 (0,0)):=by rw[<-hcb];exact ar w _
 have HCB:=aa hcb1;have HCBS:=aa hcb;have HWA:=aa (H0.out.alloc (af _) (Obj.cells #[.string Z] 85));rw[hZ]at HBL c0;have HZ:=aa hZ;clear hcb1 hZ hcb;go_enter Tryz.func83,Tryz.ntmps83
 go_upto_region 2 with fail
 rw[HCBS.out];obtain⟨w0,hw0⟩ : ∃w0,w.alloc (Obj.cells #[.string Z] 85)=w0:=⟨_,rfl⟩;rw[hw0]at HCB HWA ⊢;clear hw0;have HA0:Hid (aG w0 cb Z):=⟨_,_,HCB.out,rfl⟩;have HLE:Hid (w.heap.size<=cb):=cu HCBS.out
 go_wp2_with fail
 refine(HBL.out w0 cb HA0.out).mono ?_;rintro e w1⟨rfl,hc⟩;have HA1:=aa (hc.at HA0.out);replace HWA:=aa (HWA.out.trans (hc.below HLE.out HWA.out.size));clear hc
 go_wp2_with fail
 refine(HSK.out w1 cb HA1.out).mono ?_;rintro e w2⟨rfl,hc⟩;have HA2:=aa (hc.at HA1.out);replace HWA:=aa (HWA.out.trans (hc.below HLE.out HWA.out.size));clear hc
 go_wp2_with fail
 refine(HEQ.out w2 cb HA2.out).mono ?_;rintro e w3⟨rfl,hc⟩;have HA3:=aa (hc.at HA2.out);replace HWA:=aa (HWA.out.trans (hc.below HLE.out HWA.out.size));clear hc
 go_wp2_with fail
 refine(HQU.out w3 cb HA3.out (HW.out.low2 HWA.out).max).mono ?_;rintro e w4⟨rfl,hc⟩;have HA4:=aa (hc.at HA3.out);replace HWA:=aa (HWA.out.trans (hc.below HLE.out HWA.out.size));clear hc
 go_wp2_with fail
 refine(HMAY.out w4 (HW.out.low2 HWA.out)).mono ?_;rintro e w5⟨rfl,hb⟩;have HA5:=aa (HA4.out.below hb);replace HWA:=aa (HWA.out.trans (hb.mono HWA.out.size));clear hb;go_wp2;go_ret;exact⟨rfl,dK.of_below HS.out HWA.out⟩
theorem Es(may:List UInt8->Bool)(hM:dx 85 may)(key s:List UInt8)(b:Nat)(w:World)(h:aG w b (ba s))(hl:s.length<=100000)(hW:Wd w)(h1:(aI s).length<s.length)(r:List UInt8)(h2:aH key (aI s)=some r)(r2:List UInt8)(h3:fe r=some r2)(v r3:List UInt8)(h4:e9 r2=some (v,r3))(h5:may v=true):Calls Tryz.prog 83 #[.pointer (some ⟨b,0,none⟩),.string (ba key),.func (.func 85) #[] #[]] w fun e w'=>e=.returned (.bool true)/\dK b (ba r3) w w':=by
 have hlt:b<w.heap.size:=h.lt;have c0:=h.cell;have f0:=h.frozen;have HS:=aa h;have HW:=aa hW;have hbl:=cB s;have HM:=aa hM;have HBS:=aa (af w.heap.size);have H0:=aa (ae w.heap.size w);have HBL:Hid (∀w' cb,aG w' cb (ba s)->_):=fun w' cb hc=>bP s cb w' hc (by omega)
 rw[ax h1]at HBL;have HSK:Hid (∀w' cb,aG w' cb (ba (aI s))->_):=fun w' cb hc=>bW (aI s) key r cb w' hc h2;have hl2:=cx h2;have HEQ:Hid (∀w' cb,aG w' cb (ba r)->_):=fun w' cb hc=>dr r r2 cb w' hc (by omega) h3
 have hl3:=gh h3;have HQU:Hid (∀w' cb,aG w' cb (ba r2)->cD w'->_):=fun w' cb hc hm=>eL r2 v r3 cb w' hc hm (by omega) h4
 have hl4:=il h4;have HMAY:Hid (∀w',Wd w'->_):=fun w' hw=>HM.out v w' (by omega) hw
 rw[h5]at HMAY;clear h hW hM;obtain⟨Z,hZ⟩ : ∃Z,ba s=Z:=⟨_,rfl⟩;obtain⟨cb,hcb⟩ : ∃cb,w.heap.size=cb:=⟨_,rfl⟩;have hcb1:(w.alloc (Obj.cells #[.string Z] 85)).heap[cb]? = some (.cells #[.string Z] 85 (0,0)):=by rw[<-hcb];exact ar w _
 have HCB:=aa hcb1;have HCBS:=aa hcb;have HWA:=aa (H0.out.alloc (af _) (Obj.cells #[.string Z] 85));rw[hZ]at HBL c0;have HZ:=aa hZ;clear hcb1 hZ hcb;go_enter Tryz.func83,Tryz.ntmps83
 go_upto_region 2 with fail
 rw[HCBS.out];obtain⟨w0,hw0⟩ : ∃w0,w.alloc (Obj.cells #[.string Z] 85)=w0:=⟨_,rfl⟩;rw[hw0]at HCB HWA ⊢;clear hw0;have HA0:Hid (aG w0 cb Z):=⟨_,_,HCB.out,rfl⟩;have HLE:Hid (w.heap.size<=cb):=cu HCBS.out
 go_wp2_with fail
 refine(HBL.out w0 cb HA0.out).mono ?_;rintro e w1⟨rfl,hc⟩;have HA1:=aa (hc.at HA0.out);replace HWA:=aa (HWA.out.trans (hc.below HLE.out HWA.out.size));clear hc
 go_wp2_with fail
 refine(HSK.out w1 cb HA1.out).mono ?_;rintro e w2⟨rfl,hc⟩;have HA2:=aa (hc.at HA1.out);replace HWA:=aa (HWA.out.trans (hc.below HLE.out HWA.out.size));clear hc
 go_wp2_with fail
 refine(HEQ.out w2 cb HA2.out).mono ?_;rintro e w3⟨rfl,hc⟩;have HA3:=aa (hc.at HA2.out);replace HWA:=aa (HWA.out.trans (hc.below HLE.out HWA.out.size));clear hc
 go_wp2_with fail
 refine(HQU.out w3 cb HA3.out (HW.out.low2 HWA.out).max).mono ?_;rintro e w4⟨rfl,hc⟩;have HA4:=aa (hc.at HA3.out);replace HWA:=aa (HWA.out.trans (hc.below HLE.out HWA.out.size));clear hc
 go_wp2_with fail
 refine(HMAY.out w4 (HW.out.low2 HWA.out)).mono ?_;rintro e w5⟨rfl,hb⟩;have HA5:=aa (HA4.out.below hb);replace HWA:=aa (HWA.out.trans (hb.mono HWA.out.size));clear hb;have q0:=HA5.out.cell;have q1:=(HS.out.below HWA.out).cell;have q2:=(HS.out.below HWA.out).frozen;go_wp2;go_ret;exact⟨rfl,(dK.of_below HS.out HWA.out).trans (dK.set (HS.out.below HWA.out) _)⟩
theorem qY(may:List UInt8->Bool)(hM:dx 85 may)(key s:List UInt8)(b:Nat)(w:World)(h:aG w b (ba s))(hl:s.length<=100000)(hW:Wd w):Calls Tryz.prog 83 #[.pointer (some ⟨b,0,none⟩),.string (ba key),.func (.func 85) #[] #[]] w fun e w'=>e=.returned (.bool (bQ key may s).isSome)/\dK b (ba ((bQ key may s).getD s)) w w':=by
 unfold bQ;by_cases h1:(aI s).length<s.length
 ·rw[av h1]
  cases h2:aH key (aI s)with
  |none=>exact EF may hM key s b w h hl hW h1 h2
  |some r =>
   dsimp only;cases h3:fe r with
   |none=>exact EC may hM key s b w h hl hW h1 r h2 h3
   |some r2 =>
    dsimp only;cases h4:e9 r2 with
    |none=>exact Ey may hM key s b w h hl hW h1 r h2 r2 h3 h4
    |some q =>
     obtain⟨v,r3⟩:=q;dsimp only;cases h5:may v with
     |false=>rw[am (by decide)];exact Ev may hM key s b w h hl hW h1 r h2 r2 h3 v r3 h4 h5
     |true=>rw[av rfl];exact Es may hM key s b w h hl hW h1 r h2 r2 h3 v r3 h4 h5
 ·rw[am h1]
  exact EI may hM key s b w h hl hW h1
theorem EH(may:List UInt8->Bool)(hM:dx 86 may)(key s:List UInt8)(b:Nat)(w:World)(h:aG w b (ba s))(hl:s.length<=100000)(hW:Wd w)(h1:¬(aI s).length<s.length):Calls Tryz.prog 83 #[.pointer (some ⟨b,0,none⟩),.string (ba key),.func (.func 86) #[] #[]] w fun e w'=>e=.returned (.bool false)/\dK b (ba s) w w':=by
 have hlt:b<w.heap.size:=h.lt;have c0:=h.cell;have f0:=h.frozen;have HS:=aa h;have HW:=aa hW;have hbl:=cB s;have HM:=aa hM;have HBS:=aa (af w.heap.size);have H0:=aa (ae w.heap.size w);have HBL:Hid (∀w' cb,aG w' cb (ba s)->_):=fun w' cb hc=>bP s cb w' hc (by omega)
 rw[ap h1]at HBL;clear h hW hM;obtain⟨Z,hZ⟩ : ∃Z,ba s=Z:=⟨_,rfl⟩;obtain⟨cb,hcb⟩ : ∃cb,w.heap.size=cb:=⟨_,rfl⟩;have hcb1:(w.alloc (Obj.cells #[.string Z] 85)).heap[cb]? = some (.cells #[.string Z] 85 (0,0)):=by rw[<-hcb];exact ar w _
 have HCB:=aa hcb1;have HCBS:=aa hcb;have HWA:=aa (H0.out.alloc (af _) (Obj.cells #[.string Z] 85));rw[hZ]at HBL c0;have HZ:=aa hZ;clear hcb1 hZ hcb;go_enter Tryz.func83,Tryz.ntmps83
 go_upto_region 2 with fail
 rw[HCBS.out];obtain⟨w0,hw0⟩ : ∃w0,w.alloc (Obj.cells #[.string Z] 85)=w0:=⟨_,rfl⟩;rw[hw0]at HCB HWA ⊢;clear hw0;have HA0:Hid (aG w0 cb Z):=⟨_,_,HCB.out,rfl⟩;have HLE:Hid (w.heap.size<=cb):=cu HCBS.out
 go_wp2_with fail
 refine(HBL.out w0 cb HA0.out).mono ?_;rintro e w1⟨rfl,hc⟩;have HA1:=aa (hc.at HA0.out);replace HWA:=aa (HWA.out.trans (hc.below HLE.out HWA.out.size));clear hc;go_wp2;go_ret;exact⟨rfl,dK.of_below HS.out HWA.out⟩
theorem EE(may:List UInt8->Bool)(hM:dx 86 may)(key s:List UInt8)(b:Nat)(w:World)(h:aG w b (ba s))(hl:s.length<=100000)(hW:Wd w)(h1:(aI s).length<s.length)(h2:aH key (aI s)=none):Calls Tryz.prog 83 #[.pointer (some ⟨b,0,none⟩),.string (ba key),.func (.func 86) #[] #[]] w fun e w'=>e=.returned (.bool false)/\dK b (ba s) w w':=by
 have hlt:b<w.heap.size:=h.lt;have c0:=h.cell;have f0:=h.frozen;have HS:=aa h;have HW:=aa hW;have hbl:=cB s;have HM:=aa hM;have HBS:=aa (af w.heap.size);have H0:=aa (ae w.heap.size w);have HBL:Hid (∀w' cb,aG w' cb (ba s)->_):=fun w' cb hc=>bP s cb w' hc (by omega)
 rw[ax h1]at HBL;have HSK:Hid (∀w' cb,aG w' cb (ba (aI s))->_):=fun w' cb hc=>dc (aI s) key cb w' hc h2;clear h hW hM;obtain⟨Z,hZ⟩ : ∃Z,ba s=Z:=⟨_,rfl⟩;obtain⟨cb,hcb⟩ : ∃cb,w.heap.size=cb:=⟨_,rfl⟩;have hcb1:(w.alloc (Obj.cells #[.string Z] 85)).heap[cb]? = some (.cells #[.string Z] 85 (0,0)):=by rw[<-hcb];exact ar w _
 have HCB:=aa hcb1;have HCBS:=aa hcb;have HWA:=aa (H0.out.alloc (af _) (Obj.cells #[.string Z] 85));rw[hZ]at HBL c0;have HZ:=aa hZ;clear hcb1 hZ hcb;go_enter Tryz.func83,Tryz.ntmps83
 go_upto_region 2 with fail
 rw[HCBS.out];obtain⟨w0,hw0⟩ : ∃w0,w.alloc (Obj.cells #[.string Z] 85)=w0:=⟨_,rfl⟩;rw[hw0]at HCB HWA ⊢;clear hw0;have HA0:Hid (aG w0 cb Z):=⟨_,_,HCB.out,rfl⟩;have HLE:Hid (w.heap.size<=cb):=cu HCBS.out
 go_wp2_with fail
 refine(HBL.out w0 cb HA0.out).mono ?_;rintro e w1⟨rfl,hc⟩;have HA1:=aa (hc.at HA0.out);replace HWA:=aa (HWA.out.trans (hc.below HLE.out HWA.out.size));clear hc
 go_wp2_with fail
 refine(HSK.out w1 cb HA1.out).mono ?_;rintro e w2⟨rfl,hc⟩;have HA2:=aa (hc.at HA1.out);replace HWA:=aa (HWA.out.trans (hc.below HLE.out HWA.out.size));clear hc;go_wp2;go_ret;exact⟨rfl,dK.of_below HS.out HWA.out⟩
theorem EA(may:List UInt8->Bool)(hM:dx 86 may)(key s:List UInt8)(b:Nat)(w:World)(h:aG w b (ba s))(hl:s.length<=100000)(hW:Wd w)(h1:(aI s).length<s.length)(r:List UInt8)(h2:aH key (aI s)=some r)(h3:fe r=none):Calls Tryz.prog 83 #[.pointer (some ⟨b,0,none⟩),.string (ba key),.func (.func 86) #[] #[]] w fun e w'=>e=.returned (.bool false)/\dK b (ba s) w w':=by
 have hlt:b<w.heap.size:=h.lt;have c0:=h.cell;have f0:=h.frozen;have HS:=aa h;have HW:=aa hW;have hbl:=cB s;have HM:=aa hM;have HBS:=aa (af w.heap.size);have H0:=aa (ae w.heap.size w);have HBL:Hid (∀w' cb,aG w' cb (ba s)->_):=fun w' cb hc=>bP s cb w' hc (by omega)
 rw[ax h1]at HBL;have HSK:Hid (∀w' cb,aG w' cb (ba (aI s))->_):=fun w' cb hc=>bW (aI s) key r cb w' hc h2;have hl2:=cx h2;have HEQ:Hid (∀w' cb,aG w' cb (ba r)->_):=fun w' cb hc=>iI r cb w' hc (by omega) h3
 clear h hW hM;obtain⟨Z,hZ⟩ : ∃Z,ba s=Z:=⟨_,rfl⟩;obtain⟨cb,hcb⟩ : ∃cb,w.heap.size=cb:=⟨_,rfl⟩;have hcb1:(w.alloc (Obj.cells #[.string Z] 85)).heap[cb]? = some (.cells #[.string Z] 85 (0,0)):=by rw[<-hcb];exact ar w _
 have HCB:=aa hcb1;have HCBS:=aa hcb;have HWA:=aa (H0.out.alloc (af _) (Obj.cells #[.string Z] 85));rw[hZ]at HBL c0;have HZ:=aa hZ;clear hcb1 hZ hcb;go_enter Tryz.func83,Tryz.ntmps83
 go_upto_region 2 with fail
 rw[HCBS.out];obtain⟨w0,hw0⟩ : ∃w0,w.alloc (Obj.cells #[.string Z] 85)=w0:=⟨_,rfl⟩;rw[hw0]at HCB HWA ⊢;clear hw0;have HA0:Hid (aG w0 cb Z):=⟨_,_,HCB.out,rfl⟩;have HLE:Hid (w.heap.size<=cb):=cu HCBS.out
 go_wp2_with fail
 refine(HBL.out w0 cb HA0.out).mono ?_;rintro e w1⟨rfl,hc⟩;have HA1:=aa (hc.at HA0.out);replace HWA:=aa (HWA.out.trans (hc.below HLE.out HWA.out.size));clear hc
 go_wp2_with fail
 refine(HSK.out w1 cb HA1.out).mono ?_;rintro e w2⟨rfl,hc⟩;have HA2:=aa (hc.at HA1.out);replace HWA:=aa (HWA.out.trans (hc.below HLE.out HWA.out.size));clear hc
 go_wp2_with fail
 refine(HEQ.out w2 cb HA2.out).mono ?_;rintro e w3⟨rfl,rr,_,hc⟩;have HA3:=aa (hc.at HA2.out);replace HWA:=aa (HWA.out.trans (hc.below HLE.out HWA.out.size));clear hc;go_wp2;go_ret;exact⟨rfl,dK.of_below HS.out HWA.out⟩
theorem Ex(may:List UInt8->Bool)(hM:dx 86 may)(key s:List UInt8)(b:Nat)(w:World)(h:aG w b (ba s))(hl:s.length<=100000)(hW:Wd w)(h1:(aI s).length<s.length)(r:List UInt8)(h2:aH key (aI s)=some r)(r2:List UInt8)(h3:fe r=some r2)(h4:e9 r2=none):Calls Tryz.prog 83 #[.pointer (some ⟨b,0,none⟩),.string (ba key),.func (.func 86) #[] #[]] w fun e w'=>e=.returned (.bool false)/\dK b (ba s) w w':=by
 have hlt:b<w.heap.size:=h.lt;have c0:=h.cell;have f0:=h.frozen;have HS:=aa h;have HW:=aa hW;have hbl:=cB s;have HM:=aa hM;have HBS:=aa (af w.heap.size);have H0:=aa (ae w.heap.size w);have HBL:Hid (∀w' cb,aG w' cb (ba s)->_):=fun w' cb hc=>bP s cb w' hc (by omega)
 rw[ax h1]at HBL;have HSK:Hid (∀w' cb,aG w' cb (ba (aI s))->_):=fun w' cb hc=>bW (aI s) key r cb w' hc h2;have hl2:=cx h2;have HEQ:Hid (∀w' cb,aG w' cb (ba r)->_):=fun w' cb hc=>dr r r2 cb w' hc (by omega) h3
 have hl3:=gh h3;have HQU:Hid (∀w' cb,aG w' cb (ba r2)->cD w'->_):=fun w' cb hc hm=>i6 r2 cb w' hc hm (by omega) h4
 clear h hW hM;obtain⟨Z,hZ⟩ : ∃Z,ba s=Z:=⟨_,rfl⟩;obtain⟨cb,hcb⟩ : ∃cb,w.heap.size=cb:=⟨_,rfl⟩;have hcb1:(w.alloc (Obj.cells #[.string Z] 85)).heap[cb]? = some (.cells #[.string Z] 85 (0,0)):=by rw[<-hcb];exact ar w _
 have HCB:=aa hcb1;have HCBS:=aa hcb;have HWA:=aa (H0.out.alloc (af _) (Obj.cells #[.string Z] 85));rw[hZ]at HBL c0;have HZ:=aa hZ;clear hcb1 hZ hcb;go_enter Tryz.func83,Tryz.ntmps83
 go_upto_region 2 with fail
 rw[HCBS.out];obtain⟨w0,hw0⟩ : ∃w0,w.alloc (Obj.cells #[.string Z] 85)=w0:=⟨_,rfl⟩;rw[hw0]at HCB HWA ⊢;clear hw0;have HA0:Hid (aG w0 cb Z):=⟨_,_,HCB.out,rfl⟩;have HLE:Hid (w.heap.size<=cb):=cu HCBS.out
 go_wp2_with fail
 refine(HBL.out w0 cb HA0.out).mono ?_;rintro e w1⟨rfl,hc⟩;have HA1:=aa (hc.at HA0.out);replace HWA:=aa (HWA.out.trans (hc.below HLE.out HWA.out.size));clear hc
 go_wp2_with fail
 refine(HSK.out w1 cb HA1.out).mono ?_;rintro e w2⟨rfl,hc⟩;have HA2:=aa (hc.at HA1.out);replace HWA:=aa (HWA.out.trans (hc.below HLE.out HWA.out.size));clear hc
 go_wp2_with fail
 refine(HEQ.out w2 cb HA2.out).mono ?_;rintro e w3⟨rfl,hc⟩;have HA3:=aa (hc.at HA2.out);replace HWA:=aa (HWA.out.trans (hc.below HLE.out HWA.out.size));clear hc
 go_wp2_with fail
 refine(HQU.out w3 cb HA3.out (HW.out.low2 HWA.out).max).mono ?_;rintro e w4⟨rfl,hc⟩;have HA4:=aa (hc.at HA3.out);replace HWA:=aa (HWA.out.trans (hc.below HLE.out HWA.out.size));clear hc;go_wp2;go_ret;exact⟨rfl,dK.of_below HS.out HWA.out⟩
theorem Eu(may:List UInt8->Bool)(hM:dx 86 may)(key s:List UInt8)(b:Nat)(w:World)(h:aG w b (ba s))(hl:s.length<=100000)(hW:Wd w)(h1:(aI s).length<s.length)(r:List UInt8)(h2:aH key (aI s)=some r)(r2:List UInt8)(h3:fe r=some r2)(v r3:List UInt8)(h4:e9 r2=some (v,r3))(h5:may v=false):Calls Tryz.prog 83 #[.pointer (some ⟨b,0,none⟩),.string (ba key),.func (.func 86) #[] #[]] w fun e w'=>e=.returned (.bool false)/\dK b (ba s) w w':=by
 have hlt:b<w.heap.size:=h.lt;have c0:=h.cell;have f0:=h.frozen;have HS:=aa h;have HW:=aa hW;have hbl:=cB s;have HM:=aa hM;have HBS:=aa (af w.heap.size);have H0:=aa (ae w.heap.size w);have HBL:Hid (∀w' cb,aG w' cb (ba s)->_):=fun w' cb hc=>bP s cb w' hc (by omega)
 rw[ax h1]at HBL;have HSK:Hid (∀w' cb,aG w' cb (ba (aI s))->_):=fun w' cb hc=>bW (aI s) key r cb w' hc h2;have hl2:=cx h2;have HEQ:Hid (∀w' cb,aG w' cb (ba r)->_):=fun w' cb hc=>dr r r2 cb w' hc (by omega) h3
 have hl3:=gh h3;have HQU:Hid (∀w' cb,aG w' cb (ba r2)->cD w'->_):=fun w' cb hc hm=>eL r2 v r3 cb w' hc hm (by omega) h4
 have hl4:=il h4;have HMAY:Hid (∀w',Wd w'->_):=fun w' hw=>HM.out v w' (by omega) hw
 rw[h5]at HMAY;clear h hW hM;obtain⟨Z,hZ⟩ : ∃Z,ba s=Z:=⟨_,rfl⟩;obtain⟨cb,hcb⟩ : ∃cb,w.heap.size=cb:=⟨_,rfl⟩;have hcb1:(w.alloc (Obj.cells #[.string Z] 85)).heap[cb]? = some (.cells #[.string Z] 85 (0,0)):=by rw[<-hcb];exact ar w _
 have HCB:=aa hcb1;have HCBS:=aa hcb;have HWA:=aa (H0.out.alloc (af _) (Obj.cells #[.string Z] 85));rw[hZ]at HBL c0;have HZ:=aa hZ;clear hcb1 hZ hcb;go_enter Tryz.func83,Tryz.ntmps83
 go_upto_region 2 with fail
 rw[HCBS.out];obtain⟨w0,hw0⟩ : ∃w0,w.alloc (Obj.cells #[.string Z] 85)=w0:=⟨_,rfl⟩;rw[hw0]at HCB HWA ⊢;clear hw0;have HA0:Hid (aG w0 cb Z):=⟨_,_,HCB.out,rfl⟩;have HLE:Hid (w.heap.size<=cb):=cu HCBS.out
 go_wp2_with fail
 refine(HBL.out w0 cb HA0.out).mono ?_;rintro e w1⟨rfl,hc⟩;have HA1:=aa (hc.at HA0.out);replace HWA:=aa (HWA.out.trans (hc.below HLE.out HWA.out.size));clear hc
 go_wp2_with fail
 refine(HSK.out w1 cb HA1.out).mono ?_;rintro e w2⟨rfl,hc⟩;have HA2:=aa (hc.at HA1.out);replace HWA:=aa (HWA.out.trans (hc.below HLE.out HWA.out.size));clear hc
 go_wp2_with fail
 refine(HEQ.out w2 cb HA2.out).mono ?_;rintro e w3⟨rfl,hc⟩;have HA3:=aa (hc.at HA2.out);replace HWA:=aa (HWA.out.trans (hc.below HLE.out HWA.out.size));clear hc
 go_wp2_with fail
 refine(HQU.out w3 cb HA3.out (HW.out.low2 HWA.out).max).mono ?_;rintro e w4⟨rfl,hc⟩;have HA4:=aa (hc.at HA3.out);replace HWA:=aa (HWA.out.trans (hc.below HLE.out HWA.out.size));clear hc
 go_wp2_with fail
 refine(HMAY.out w4 (HW.out.low2 HWA.out)).mono ?_;rintro e w5⟨rfl,hb⟩;have HA5:=aa (HA4.out.below hb);replace HWA:=aa (HWA.out.trans (hb.mono HWA.out.size));clear hb;go_wp2;go_ret;exact⟨rfl,dK.of_below HS.out HWA.out⟩
theorem Er(may:List UInt8->Bool)(hM:dx 86 may)(key s:List UInt8)(b:Nat)(w:World)(h:aG w b (ba s))(hl:s.length<=100000)(hW:Wd w)(h1:(aI s).length<s.length)(r:List UInt8)(h2:aH key (aI s)=some r)(r2:List UInt8)(h3:fe r=some r2)(v r3:List UInt8)(h4:e9 r2=some (v,r3))(h5:may v=true):Calls Tryz.prog 83 #[.pointer (some ⟨b,0,none⟩),.string (ba key),.func (.func 86) #[] #[]] w fun e w'=>e=.returned (.bool true)/\dK b (ba r3) w w':=by
 have hlt:b<w.heap.size:=h.lt;have c0:=h.cell;have f0:=h.frozen;have HS:=aa h;have HW:=aa hW;have hbl:=cB s;have HM:=aa hM;have HBS:=aa (af w.heap.size);have H0:=aa (ae w.heap.size w);have HBL:Hid (∀w' cb,aG w' cb (ba s)->_):=fun w' cb hc=>bP s cb w' hc (by omega)
 rw[ax h1]at HBL;have HSK:Hid (∀w' cb,aG w' cb (ba (aI s))->_):=fun w' cb hc=>bW (aI s) key r cb w' hc h2;have hl2:=cx h2;have HEQ:Hid (∀w' cb,aG w' cb (ba r)->_):=fun w' cb hc=>dr r r2 cb w' hc (by omega) h3
 have hl3:=gh h3;have HQU:Hid (∀w' cb,aG w' cb (ba r2)->cD w'->_):=fun w' cb hc hm=>eL r2 v r3 cb w' hc hm (by omega) h4
 have hl4:=il h4;have HMAY:Hid (∀w',Wd w'->_):=fun w' hw=>HM.out v w' (by omega) hw
 rw[h5]at HMAY;clear h hW hM;obtain⟨Z,hZ⟩ : ∃Z,ba s=Z:=⟨_,rfl⟩;obtain⟨cb,hcb⟩ : ∃cb,w.heap.size=cb:=⟨_,rfl⟩;have hcb1:(w.alloc (Obj.cells #[.string Z] 85)).heap[cb]? = some (.cells #[.string Z] 85 (0,0)):=by rw[<-hcb];exact ar w _
 have HCB:=aa hcb1;have HCBS:=aa hcb;have HWA:=aa (H0.out.alloc (af _) (Obj.cells #[.string Z] 85));rw[hZ]at HBL c0;have HZ:=aa hZ;clear hcb1 hZ hcb;go_enter Tryz.func83,Tryz.ntmps83
 go_upto_region 2 with fail
 rw[HCBS.out];obtain⟨w0,hw0⟩ : ∃w0,w.alloc (Obj.cells #[.string Z] 85)=w0:=⟨_,rfl⟩;rw[hw0]at HCB HWA ⊢;clear hw0;have HA0:Hid (aG w0 cb Z):=⟨_,_,HCB.out,rfl⟩;have HLE:Hid (w.heap.size<=cb):=cu HCBS.out
 go_wp2_with fail
 refine(HBL.out w0 cb HA0.out).mono ?_;rintro e w1⟨rfl,hc⟩;have HA1:=aa (hc.at HA0.out);replace HWA:=aa (HWA.out.trans (hc.below HLE.out HWA.out.size));clear hc
 go_wp2_with fail
 refine(HSK.out w1 cb HA1.out).mono ?_;rintro e w2⟨rfl,hc⟩;have HA2:=aa (hc.at HA1.out);replace HWA:=aa (HWA.out.trans (hc.below HLE.out HWA.out.size));clear hc
 go_wp2_with fail
 refine(HEQ.out w2 cb HA2.out).mono ?_;rintro e w3⟨rfl,hc⟩;have HA3:=aa (hc.at HA2.out);replace HWA:=aa (HWA.out.trans (hc.below HLE.out HWA.out.size));clear hc
 go_wp2_with fail
 refine(HQU.out w3 cb HA3.out (HW.out.low2 HWA.out).max).mono ?_;rintro e w4⟨rfl,hc⟩;have HA4:=aa (hc.at HA3.out);replace HWA:=aa (HWA.out.trans (hc.below HLE.out HWA.out.size));clear hc
 go_wp2_with fail
 refine(HMAY.out w4 (HW.out.low2 HWA.out)).mono ?_;rintro e w5⟨rfl,hb⟩;have HA5:=aa (HA4.out.below hb);replace HWA:=aa (HWA.out.trans (hb.mono HWA.out.size));clear hb;have q0:=HA5.out.cell;have q1:=(HS.out.below HWA.out).cell;have q2:=(HS.out.below HWA.out).frozen;go_wp2;go_ret;exact⟨rfl,(dK.of_below HS.out HWA.out).trans (dK.set (HS.out.below HWA.out) _)⟩
theorem qX(may:List UInt8->Bool)(hM:dx 86 may)(key s:List UInt8)(b:Nat)(w:World)(h:aG w b (ba s))(hl:s.length<=100000)(hW:Wd w):Calls Tryz.prog 83 #[.pointer (some ⟨b,0,none⟩),.string (ba key),.func (.func 86) #[] #[]] w fun e w'=>e=.returned (.bool (bQ key may s).isSome)/\dK b (ba ((bQ key may s).getD s)) w w':=by
 unfold bQ;by_cases h1:(aI s).length<s.length
 ·rw[av h1]
  cases h2:aH key (aI s)with
  |none=>exact EE may hM key s b w h hl hW h1 h2
  |some r =>
   dsimp only;cases h3:fe r with
   |none=>exact EA may hM key s b w h hl hW h1 r h2 h3
   |some r2 =>
    dsimp only;cases h4:e9 r2 with
    |none=>exact Ex may hM key s b w h hl hW h1 r h2 r2 h3 h4
    |some q =>
     obtain⟨v,r3⟩:=q;dsimp only;cases h5:may v with
     |false=>rw[am (by decide)];exact Eu may hM key s b w h hl hW h1 r h2 r2 h3 v r3 h4 h5
     |true=>rw[av rfl];exact Er may hM key s b w h hl hW h1 r h2 r2 h3 v r3 h4 h5
 ·rw[am h1]
  exact EH may hM key s b w h hl hW h1
end Go.Proofs.YteinegfbpfhflaaGreatDoor
