/-
  parse.cursor: says. Conditions: the text isn't too long; what is asked of the value answers as it is to.
-/
import Derived.Test.YtlgcigmolfhamaaGreatDoorK30
namespace Go.Proofs.YtlgcigmolfhamaaGreatDoor
open Go.RowKit
set_option linter.unusedVariables false
set_option maxRecDepth 100000
set_option maxHeartbeats 8000000
def E7(key:List UInt8)(may:List UInt8->Bool)(s:List UInt8):Option (List UInt8) :=
 if(n8 s).length<s.length then
  match m9 key (n8 s)with
  |none=>none
  |some r=>match V3 r with
   |none=>none
   |some r2=>match V0 r2 with
    |none=>none
    |some (v,r3)=>if may v=true then some r3 else none
 else none
def L9(F:FuncId)(may:List UInt8->Bool):Prop:=∀(v:List UInt8) (w:World),v.length<=100000->Wd w->Calls Tryz.prog F #[.string (ba v)] w fun e w'=>e=.returned (.bool (may v))/\Below w.heap.size w w'
theorem Wd.low2{w w':World}(h:Wd w)(hb:Below w.heap.size w w'):Wd w':=h.later hb
theorem b8i(may:List UInt8->Bool)(hM:L9 112 may)(key s:List UInt8)(b:Nat)(w:World)(h:n0 w b (ba s))(hl:s.length<=100000)(hW:Wd w)(h1:¬(n8 s).length<s.length):Calls Tryz.prog 111 #[.pointer (some ⟨b,0,none⟩),.string (ba key),.func (.func 112) #[] #[]] w fun e w'=>e=.returned (.bool false)/\N7 b (ba s) w w':=by
 have E5:b<w.heap.size:=h.lt;have c0:=h.cell;have f0:=h.frozen;have HS:=a8 h;have HW:=a8 hW;have E6:=I0 s;have HM:=a8 hM;have E7:=a8 (c9 w.heap.size);have H0:=a8 (b8 w.heap.size w);have D3:Hid (∀w' cb,n0 w' cb (ba s)->_):=fun w' cb hc=>D9 s cb w' hc (by omega)
 rw[f8 h1]at D3;clear h hW hM;obtain⟨Z,hZ⟩ : ∃Z,ba s=Z:=⟨_,rfl⟩;obtain⟨cb,E0⟩ : ∃cb,w.heap.size=cb:=⟨_,rfl⟩;have D0:(w.alloc (Obj.cells #[.string Z] 114)).heap[cb]? = some (.cells #[.string Z] 114 (0,0)):=by rw[<-E0];exact g9 w _
 have E1:=a8 D0;have D1:=a8 E0;have D2:=a8 (H0.out.alloc (c9 _) (Obj.cells #[.string Z] 114));rw[hZ]at D3 c0;have HZ:=a8 hZ;clear D0 hZ E0;go_enter Tryz.func111,Tryz.ntmps111
 go_upto_region 2 with fail
 rw[D1.out];obtain⟨w0,E2⟩ : ∃w0,w.alloc (Obj.cells #[.string Z] 114)=w0:=⟨_,rfl⟩;rw[E2]at E1 D2 ⊢;clear E2;have E3:Hid (n0 w0 cb Z):=⟨_,_,E1.out,rfl⟩;have E4:Hid (w.heap.size<=cb):=G2 D1.out
 go_wp2_with fail
 refine(D3.out w0 cb E3.out).mono ?_;rintro e w1⟨rfl,hc⟩;have E8:=a8 (hc.at E3.out);replace D2:=a8 (D2.out.trans (hc.below E4.out D2.out.size));clear hc;go_wp2;go_ret;exact⟨rfl,N7.of_below HS.out D2.out⟩
theorem b8f(may:List UInt8->Bool)(hM:L9 112 may)(key s:List UInt8)(b:Nat)(w:World)(h:n0 w b (ba s))(hl:s.length<=100000)(hW:Wd w)(h1:(n8 s).length<s.length)(h2:m9 key (n8 s)=none):Calls Tryz.prog 111 #[.pointer (some ⟨b,0,none⟩),.string (ba key),.func (.func 112) #[] #[]] w fun e w'=>e=.returned (.bool false)/\N7 b (ba s) w w':=by
 have E7:b<w.heap.size:=h.lt;have c0:=h.cell;have f0:=h.frozen;have HS:=a8 h;have HW:=a8 hW;have E8:=I0 s;have HM:=a8 hM;have G0:=a8 (c9 w.heap.size);have H0:=a8 (b8 w.heap.size w);have D3:Hid (∀w' cb,n0 w' cb (ba s)->_):=fun w' cb hc=>D9 s cb w' hc (by omega)
 rw[i6 h1]at D3;have E6:Hid (∀w' cb,n0 w' cb (ba (n8 s))->_):=fun w' cb hc=>K9 (n8 s) key cb w' hc h2;clear h hW hM;obtain⟨Z,hZ⟩ : ∃Z,ba s=Z:=⟨_,rfl⟩;obtain⟨cb,E0⟩ : ∃cb,w.heap.size=cb:=⟨_,rfl⟩;have D1:(w.alloc (Obj.cells #[.string Z] 114)).heap[cb]? = some (.cells #[.string Z] 114 (0,0)):=by rw[<-E0];exact g9 w _
 have E1:=a8 D1;have D2:=a8 E0;have D0:=a8 (H0.out.alloc (c9 _) (Obj.cells #[.string Z] 114));rw[hZ]at D3 c0;have HZ:=a8 hZ;clear D1 hZ E0;go_enter Tryz.func111,Tryz.ntmps111
 go_upto_region 2 with fail
 rw[D2.out];obtain⟨w0,E2⟩ : ∃w0,w.alloc (Obj.cells #[.string Z] 114)=w0:=⟨_,rfl⟩;rw[E2]at E1 D0 ⊢;clear E2;have E3:Hid (n0 w0 cb Z):=⟨_,_,E1.out,rfl⟩;have E4:Hid (w.heap.size<=cb):=G2 D2.out
 go_wp2_with fail
 refine(D3.out w0 cb E3.out).mono ?_;rintro e w1⟨rfl,hc⟩;have E5:=a8 (hc.at E3.out);replace D0:=a8 (D0.out.trans (hc.below E4.out D0.out.size));clear hc
 go_wp2_with fail
 refine(E6.out w1 cb E5.out).mono ?_;rintro e w2⟨rfl,hc⟩;have G1:=a8 (hc.at E5.out);replace D0:=a8 (D0.out.trans (hc.below E4.out D0.out.size));clear hc;go_wp2;go_ret;exact⟨rfl,N7.of_below HS.out D0.out⟩
theorem b8c(may:List UInt8->Bool)(hM:L9 112 may)(key s:List UInt8)(b:Nat)(w:World)(h:n0 w b (ba s))(hl:s.length<=100000)(hW:Wd w)(h1:(n8 s).length<s.length)(r:List UInt8)(h2:m9 key (n8 s)=some r)(h3:V3 r=none):Calls Tryz.prog 111 #[.pointer (some ⟨b,0,none⟩),.string (ba key),.func (.func 112) #[] #[]] w fun e w'=>e=.returned (.bool false)/\N7 b (ba s) w w':=by
 have G0:b<w.heap.size:=h.lt;have c0:=h.cell;have f0:=h.frozen;have HS:=a8 h;have HW:=a8 hW;have G1:=I0 s;have HM:=a8 hM;have G4:=a8 (c9 w.heap.size);have H0:=a8 (b8 w.heap.size w);have D3:Hid (∀w' cb,n0 w' cb (ba s)->_):=fun w' cb hc=>D9 s cb w' hc (by omega)
 rw[i6 h1]at D3;have E7:Hid (∀w' cb,n0 w' cb (ba (n8 s))->_):=fun w' cb hc=>F2 (n8 s) key r cb w' hc h2;have G6:=G5 h2;have E8:Hid (∀w' cb,n0 w' cb (ba r)->_):=fun w' cb hc=>a1y r cb w' hc (by omega) h3
 clear h hW hM;obtain⟨Z,hZ⟩ : ∃Z,ba s=Z:=⟨_,rfl⟩;obtain⟨cb,E0⟩ : ∃cb,w.heap.size=cb:=⟨_,rfl⟩;have D1:(w.alloc (Obj.cells #[.string Z] 114)).heap[cb]? = some (.cells #[.string Z] 114 (0,0)):=by rw[<-E0];exact g9 w _
 have E2:=a8 D1;have D2:=a8 E0;have D0:=a8 (H0.out.alloc (c9 _) (Obj.cells #[.string Z] 114));rw[hZ]at D3 c0;have HZ:=a8 hZ;clear D1 hZ E0;go_enter Tryz.func111,Tryz.ntmps111
 go_upto_region 2 with fail
 rw[D2.out];obtain⟨w0,E3⟩ : ∃w0,w.alloc (Obj.cells #[.string Z] 114)=w0:=⟨_,rfl⟩;rw[E3]at E2 D0 ⊢;clear E3;have E4:Hid (n0 w0 cb Z):=⟨_,_,E2.out,rfl⟩;have E1:Hid (w.heap.size<=cb):=G2 D2.out
 go_wp2_with fail
 refine(D3.out w0 cb E4.out).mono ?_;rintro e w1⟨rfl,hc⟩;have E5:=a8 (hc.at E4.out);replace D0:=a8 (D0.out.trans (hc.below E1.out D0.out.size));clear hc
 go_wp2_with fail
 refine(E7.out w1 cb E5.out).mono ?_;rintro e w2⟨rfl,hc⟩;have E6:=a8 (hc.at E5.out);replace D0:=a8 (D0.out.trans (hc.below E1.out D0.out.size));clear hc
 go_wp2_with fail
 refine(E8.out w2 cb E6.out).mono ?_;rintro e w3⟨rfl,rr,_,hc⟩;have G7:=a8 (hc.at E6.out);replace D0:=a8 (D0.out.trans (hc.below E1.out D0.out.size));clear hc;go_wp2;go_ret;exact⟨rfl,N7.of_below HS.out D0.out⟩
theorem b79(may:List UInt8->Bool)(hM:L9 112 may)(key s:List UInt8)(b:Nat)(w:World)(h:n0 w b (ba s))(hl:s.length<=100000)(hW:Wd w)(h1:(n8 s).length<s.length)(r:List UInt8)(h2:m9 key (n8 s)=some r)(r2:List UInt8)(h3:V3 r=some r2)(h4:V0 r2=none):Calls Tryz.prog 111 #[.pointer (some ⟨b,0,none⟩),.string (ba key),.func (.func 112) #[] #[]] w fun e w'=>e=.returned (.bool false)/\N7 b (ba s) w w':=by
 have G4:b<w.heap.size:=h.lt;have c0:=h.cell;have f0:=h.frozen;have HS:=a8 h;have HW:=a8 hW;have G6:=I0 s;have HM:=a8 hM;have G7:=a8 (c9 w.heap.size);have H0:=a8 (b8 w.heap.size w);have E0:Hid (∀w' cb,n0 w' cb (ba s)->_):=fun w' cb hc=>D9 s cb w' hc (by omega)
 rw[i6 h1]at E0;have E8:Hid (∀w' cb,n0 w' cb (ba (n8 s))->_):=fun w' cb hc=>F2 (n8 s) key r cb w' hc h2;have G8:=G5 h2;have G0:Hid (∀w' cb,n0 w' cb (ba r)->_):=fun w' cb hc=>L5 r r2 cb w' hc (by omega) h3
 have G9:=a0o h3;have G1:Hid (∀w' cb,n0 w' cb (ba r2)->I3 w'->_):=fun w' cb hc hm=>a1S r2 cb w' hc hm (by omega) h4
 clear h hW hM;obtain⟨Z,hZ⟩ : ∃Z,ba s=Z:=⟨_,rfl⟩;obtain⟨cb,E1⟩ : ∃cb,w.heap.size=cb:=⟨_,rfl⟩;have D1:(w.alloc (Obj.cells #[.string Z] 114)).heap[cb]? = some (.cells #[.string Z] 114 (0,0)):=by rw[<-E1];exact g9 w _
 have E2:=a8 D1;have D2:=a8 E1;have D0:=a8 (H0.out.alloc (c9 _) (Obj.cells #[.string Z] 114));rw[hZ]at E0 c0;have HZ:=a8 hZ;clear D1 hZ E1;go_enter Tryz.func111,Tryz.ntmps111
 go_upto_region 2 with fail
 rw[D2.out];obtain⟨w0,E3⟩ : ∃w0,w.alloc (Obj.cells #[.string Z] 114)=w0:=⟨_,rfl⟩;rw[E3]at E2 D0 ⊢;clear E3;have E4:Hid (n0 w0 cb Z):=⟨_,_,E2.out,rfl⟩;have D3:Hid (w.heap.size<=cb):=G2 D2.out
 go_wp2_with fail
 refine(E0.out w0 cb E4.out).mono ?_;rintro e w1⟨rfl,hc⟩;have E5:=a8 (hc.at E4.out);replace D0:=a8 (D0.out.trans (hc.below D3.out D0.out.size));clear hc
 go_wp2_with fail
 refine(E8.out w1 cb E5.out).mono ?_;rintro e w2⟨rfl,hc⟩;have E6:=a8 (hc.at E5.out);replace D0:=a8 (D0.out.trans (hc.below D3.out D0.out.size));clear hc
 go_wp2_with fail
 refine(G0.out w2 cb E6.out).mono ?_;rintro e w3⟨rfl,hc⟩;have E7:=a8 (hc.at E6.out);replace D0:=a8 (D0.out.trans (hc.below D3.out D0.out.size));clear hc
 go_wp2_with fail
 refine(G1.out w3 cb E7.out (HW.out.low2 D0.out).max).mono ?_;rintro e w4⟨rfl,hc⟩;have J1:=a8 (hc.at E7.out);replace D0:=a8 (D0.out.trans (hc.below D3.out D0.out.size));clear hc;go_wp2;go_ret;exact⟨rfl,N7.of_below HS.out D0.out⟩
theorem b76(may:List UInt8->Bool)(hM:L9 112 may)(key s:List UInt8)(b:Nat)(w:World)(h:n0 w b (ba s))(hl:s.length<=100000)(hW:Wd w)(h1:(n8 s).length<s.length)(r:List UInt8)(h2:m9 key (n8 s)=some r)(r2:List UInt8)(h3:V3 r=some r2)(v r3:List UInt8)(h4:V0 r2=some (v,r3))(h5:may v=false):Calls Tryz.prog 111 #[.pointer (some ⟨b,0,none⟩),.string (ba key),.func (.func 112) #[] #[]] w fun e w'=>e=.returned (.bool false)/\N7 b (ba s) w w':=by
 have G7:b<w.heap.size:=h.lt;have c0:=h.cell;have f0:=h.frozen;have HS:=a8 h;have HW:=a8 hW;have G8:=I0 s;have HM:=a8 hM;have G9:=a8 (c9 w.heap.size);have H0:=a8 (b8 w.heap.size w);have E1:Hid (∀w' cb,n0 w' cb (ba s)->_):=fun w' cb hc=>D9 s cb w' hc (by omega)
 rw[i6 h1]at E1;have G0:Hid (∀w' cb,n0 w' cb (ba (n8 s))->_):=fun w' cb hc=>F2 (n8 s) key r cb w' hc h2;have J1:=G5 h2;have G1:Hid (∀w' cb,n0 w' cb (ba r)->_):=fun w' cb hc=>L5 r r2 cb w' hc (by omega) h3
 have J2:=a0o h3;have G4:Hid (∀w' cb,n0 w' cb (ba r2)->I3 w'->_):=fun w' cb hc hm=>T9 r2 v r3 cb w' hc hm (by omega) h4
 have J3:=a1d h4;have D1:Hid (∀w',Wd w'->_):=fun w' hw=>HM.out v w' (by omega) hw
 rw[h5]at D1;clear h hW hM;obtain⟨Z,hZ⟩ : ∃Z,ba s=Z:=⟨_,rfl⟩;obtain⟨cb,E2⟩ : ∃cb,w.heap.size=cb:=⟨_,rfl⟩;have D2:(w.alloc (Obj.cells #[.string Z] 114)).heap[cb]? = some (.cells #[.string Z] 114 (0,0)):=by rw[<-E2];exact g9 w _
 have E3:=a8 D2;have D3:=a8 E2;have D0:=a8 (H0.out.alloc (c9 _) (Obj.cells #[.string Z] 114));rw[hZ]at E1 c0;have HZ:=a8 hZ;clear D2 hZ E2;go_enter Tryz.func111,Tryz.ntmps111
 go_upto_region 2 with fail
 rw[D3.out];obtain⟨w0,E4⟩ : ∃w0,w.alloc (Obj.cells #[.string Z] 114)=w0:=⟨_,rfl⟩;rw[E4]at E3 D0 ⊢;clear E4;have E5:Hid (n0 w0 cb Z):=⟨_,_,E3.out,rfl⟩;have E0:Hid (w.heap.size<=cb):=G2 D3.out
 go_wp2_with fail
 refine(E1.out w0 cb E5.out).mono ?_;rintro e w1⟨rfl,hc⟩;have E6:=a8 (hc.at E5.out);replace D0:=a8 (D0.out.trans (hc.below E0.out D0.out.size));clear hc
 go_wp2_with fail
 refine(G0.out w1 cb E6.out).mono ?_;rintro e w2⟨rfl,hc⟩;have E7:=a8 (hc.at E6.out);replace D0:=a8 (D0.out.trans (hc.below E0.out D0.out.size));clear hc
 go_wp2_with fail
 refine(G1.out w2 cb E7.out).mono ?_;rintro e w3⟨rfl,hc⟩;have E8:=a8 (hc.at E7.out);replace D0:=a8 (D0.out.trans (hc.below E0.out D0.out.size));clear hc
 go_wp2_with fail
 refine(G4.out w3 cb E8.out (HW.out.low2 D0.out).max).mono ?_;rintro e w4⟨rfl,hc⟩;have G6:=a8 (hc.at E8.out);replace D0:=a8 (D0.out.trans (hc.below E0.out D0.out.size));clear hc
 go_wp2_with fail
 refine(D1.out w4 (HW.out.low2 D0.out)).mono ?_;rintro e w5⟨rfl,hb⟩;have J4:=a8 (G6.out.below hb);replace D0:=a8 (D0.out.trans (hb.mono D0.out.size));clear hb;go_wp2;go_ret;exact⟨rfl,N7.of_below HS.out D0.out⟩
theorem b73(may:List UInt8->Bool)(hM:L9 112 may)(key s:List UInt8)(b:Nat)(w:World)(h:n0 w b (ba s))(hl:s.length<=100000)(hW:Wd w)(h1:(n8 s).length<s.length)(r:List UInt8)(h2:m9 key (n8 s)=some r)(r2:List UInt8)(h3:V3 r=some r2)(v r3:List UInt8)(h4:V0 r2=some (v,r3))(h5:may v=true):Calls Tryz.prog 111 #[.pointer (some ⟨b,0,none⟩),.string (ba key),.func (.func 112) #[] #[]] w fun e w'=>e=.returned (.bool true)/\N7 b (ba r3) w w':=by
 have G8:b<w.heap.size:=h.lt;have c0:=h.cell;have f0:=h.frozen;have HS:=a8 h;have HW:=a8 hW;have G9:=I0 s;have HM:=a8 hM;have J1:=a8 (c9 w.heap.size);have H0:=a8 (b8 w.heap.size w);have E1:Hid (∀w' cb,n0 w' cb (ba s)->_):=fun w' cb hc=>D9 s cb w' hc (by omega)
 rw[i6 h1]at E1;have G0:Hid (∀w' cb,n0 w' cb (ba (n8 s))->_):=fun w' cb hc=>F2 (n8 s) key r cb w' hc h2;have J2:=G5 h2;have G1:Hid (∀w' cb,n0 w' cb (ba r)->_):=fun w' cb hc=>L5 r r2 cb w' hc (by omega) h3
 have J3:=a0o h3;have G4:Hid (∀w' cb,n0 w' cb (ba r2)->I3 w'->_):=fun w' cb hc hm=>T9 r2 v r3 cb w' hc hm (by omega) h4
 have J4:=a1d h4;have D1:Hid (∀w',Wd w'->_):=fun w' hw=>HM.out v w' (by omega) hw
 rw[h5]at D1;clear h hW hM;obtain⟨Z,hZ⟩ : ∃Z,ba s=Z:=⟨_,rfl⟩;obtain⟨cb,E2⟩ : ∃cb,w.heap.size=cb:=⟨_,rfl⟩;have D2:(w.alloc (Obj.cells #[.string Z] 114)).heap[cb]? = some (.cells #[.string Z] 114 (0,0)):=by rw[<-E2];exact g9 w _
 have E3:=a8 D2;have D3:=a8 E2;have D0:=a8 (H0.out.alloc (c9 _) (Obj.cells #[.string Z] 114));rw[hZ]at E1 c0;have HZ:=a8 hZ;clear D2 hZ E2;go_enter Tryz.func111,Tryz.ntmps111
 go_upto_region 2 with fail
 rw[D3.out];obtain⟨w0,E4⟩ : ∃w0,w.alloc (Obj.cells #[.string Z] 114)=w0:=⟨_,rfl⟩;rw[E4]at E3 D0 ⊢;clear E4;have E5:Hid (n0 w0 cb Z):=⟨_,_,E3.out,rfl⟩;have E0:Hid (w.heap.size<=cb):=G2 D3.out
 go_wp2_with fail
 refine(E1.out w0 cb E5.out).mono ?_;rintro e w1⟨rfl,hc⟩;have E6:=a8 (hc.at E5.out);replace D0:=a8 (D0.out.trans (hc.below E0.out D0.out.size));clear hc
 go_wp2_with fail
 refine(G0.out w1 cb E6.out).mono ?_;rintro e w2⟨rfl,hc⟩;have E7:=a8 (hc.at E6.out);replace D0:=a8 (D0.out.trans (hc.below E0.out D0.out.size));clear hc
 go_wp2_with fail
 refine(G1.out w2 cb E7.out).mono ?_;rintro e w3⟨rfl,hc⟩;have E8:=a8 (hc.at E7.out);replace D0:=a8 (D0.out.trans (hc.below E0.out D0.out.size));clear hc
 go_wp2_with fail
 refine(G4.out w3 cb E8.out (HW.out.low2 D0.out).max).mono ?_;rintro e w4⟨rfl,hc⟩;have G6:=a8 (hc.at E8.out);replace D0:=a8 (D0.out.trans (hc.below E0.out D0.out.size));clear hc
 go_wp2_with fail
 refine(D1.out w4 (HW.out.low2 D0.out)).mono ?_;rintro e w5⟨rfl,hb⟩;have G7:=a8 (G6.out.below hb);replace D0:=a8 (D0.out.trans (hb.mono D0.out.size));clear hb;have q0:=G7.out.cell;have q1:=(HS.out.below D0.out).cell;have q2:=(HS.out.below D0.out).frozen;go_wp2;go_ret;exact⟨rfl,(N7.of_below HS.out D0.out).trans (N7.set (HS.out.below D0.out) _)⟩
theorem a4P(may:List UInt8->Bool)(hM:L9 112 may)(key s:List UInt8)(b:Nat)(w:World)(h:n0 w b (ba s))(hl:s.length<=100000)(hW:Wd w):Calls Tryz.prog 111 #[.pointer (some ⟨b,0,none⟩),.string (ba key),.func (.func 112) #[] #[]] w fun e w'=>e=.returned (.bool (E7 key may s).isSome)/\N7 b (ba ((E7 key may s).getD s)) w w':=by
 unfold E7;by_cases h1:(n8 s).length<s.length
 ·rw[g8 h1]
  cases h2:m9 key (n8 s)with
  |none=>exact b8f may hM key s b w h hl hW h1 h2
  |some r =>
   dsimp only;cases h3:V3 r with
   |none=>exact b8c may hM key s b w h hl hW h1 r h2 h3
   |some r2 =>
    dsimp only;cases h4:V0 r2 with
    |none=>exact b79 may hM key s b w h hl hW h1 r h2 r2 h3 h4
    |some q =>
     obtain⟨v,r3⟩:=q;dsimp only;cases h5:may v with
     |false=>rw[f6 (by decide)];exact b76 may hM key s b w h hl hW h1 r h2 r2 h3 v r3 h4 h5
     |true=>rw[g8 rfl];exact b73 may hM key s b w h hl hW h1 r h2 r2 h3 v r3 h4 h5
 ·rw[f6 h1]
  exact b8i may hM key s b w h hl hW h1
theorem b8k(may:List UInt8->Bool)(hM:L9 113 may)(key s:List UInt8)(b:Nat)(w:World)(h:n0 w b (ba s))(hl:s.length<=100000)(hW:Wd w)(h1:¬(n8 s).length<s.length):Calls Tryz.prog 111 #[.pointer (some ⟨b,0,none⟩),.string (ba key),.func (.func 113) #[] #[]] w fun e w'=>e=.returned (.bool false)/\N7 b (ba s) w w':=by
 have E5:b<w.heap.size:=h.lt;have c0:=h.cell;have f0:=h.frozen;have HS:=a8 h;have HW:=a8 hW;have E6:=I0 s;have HM:=a8 hM;have E7:=a8 (c9 w.heap.size);have H0:=a8 (b8 w.heap.size w);have D3:Hid (∀w' cb,n0 w' cb (ba s)->_):=fun w' cb hc=>D9 s cb w' hc (by omega)
 rw[f8 h1]at D3;clear h hW hM;obtain⟨Z,hZ⟩ : ∃Z,ba s=Z:=⟨_,rfl⟩;obtain⟨cb,E0⟩ : ∃cb,w.heap.size=cb:=⟨_,rfl⟩;have D0:(w.alloc (Obj.cells #[.string Z] 114)).heap[cb]? = some (.cells #[.string Z] 114 (0,0)):=by rw[<-E0];exact g9 w _
 have E1:=a8 D0;have D1:=a8 E0;have D2:=a8 (H0.out.alloc (c9 _) (Obj.cells #[.string Z] 114));rw[hZ]at D3 c0;have HZ:=a8 hZ;clear D0 hZ E0;go_enter Tryz.func111,Tryz.ntmps111
 go_upto_region 2 with fail
 rw[D1.out];obtain⟨w0,E2⟩ : ∃w0,w.alloc (Obj.cells #[.string Z] 114)=w0:=⟨_,rfl⟩;rw[E2]at E1 D2 ⊢;clear E2;have E3:Hid (n0 w0 cb Z):=⟨_,_,E1.out,rfl⟩;have E4:Hid (w.heap.size<=cb):=G2 D1.out
 go_wp2_with fail
 refine(D3.out w0 cb E3.out).mono ?_;rintro e w1⟨rfl,hc⟩;have E8:=a8 (hc.at E3.out);replace D2:=a8 (D2.out.trans (hc.below E4.out D2.out.size));clear hc;go_wp2;go_ret;exact⟨rfl,N7.of_below HS.out D2.out⟩
theorem b8h(may:List UInt8->Bool)(hM:L9 113 may)(key s:List UInt8)(b:Nat)(w:World)(h:n0 w b (ba s))(hl:s.length<=100000)(hW:Wd w)(h1:(n8 s).length<s.length)(h2:m9 key (n8 s)=none):Calls Tryz.prog 111 #[.pointer (some ⟨b,0,none⟩),.string (ba key),.func (.func 113) #[] #[]] w fun e w'=>e=.returned (.bool false)/\N7 b (ba s) w w':=by
 have E7:b<w.heap.size:=h.lt;have c0:=h.cell;have f0:=h.frozen;have HS:=a8 h;have HW:=a8 hW;have E8:=I0 s;have HM:=a8 hM;have G0:=a8 (c9 w.heap.size);have H0:=a8 (b8 w.heap.size w);have D3:Hid (∀w' cb,n0 w' cb (ba s)->_):=fun w' cb hc=>D9 s cb w' hc (by omega)
 rw[i6 h1]at D3;have E6:Hid (∀w' cb,n0 w' cb (ba (n8 s))->_):=fun w' cb hc=>K9 (n8 s) key cb w' hc h2;clear h hW hM;obtain⟨Z,hZ⟩ : ∃Z,ba s=Z:=⟨_,rfl⟩;obtain⟨cb,E0⟩ : ∃cb,w.heap.size=cb:=⟨_,rfl⟩;have D1:(w.alloc (Obj.cells #[.string Z] 114)).heap[cb]? = some (.cells #[.string Z] 114 (0,0)):=by rw[<-E0];exact g9 w _
 have E1:=a8 D1;have D2:=a8 E0;have D0:=a8 (H0.out.alloc (c9 _) (Obj.cells #[.string Z] 114));rw[hZ]at D3 c0;have HZ:=a8 hZ;clear D1 hZ E0;go_enter Tryz.func111,Tryz.ntmps111
 go_upto_region 2 with fail
 rw[D2.out];obtain⟨w0,E2⟩ : ∃w0,w.alloc (Obj.cells #[.string Z] 114)=w0:=⟨_,rfl⟩;rw[E2]at E1 D0 ⊢;clear E2;have E3:Hid (n0 w0 cb Z):=⟨_,_,E1.out,rfl⟩;have E4:Hid (w.heap.size<=cb):=G2 D2.out
 go_wp2_with fail
 refine(D3.out w0 cb E3.out).mono ?_;rintro e w1⟨rfl,hc⟩;have E5:=a8 (hc.at E3.out);replace D0:=a8 (D0.out.trans (hc.below E4.out D0.out.size));clear hc
 go_wp2_with fail
 refine(E6.out w1 cb E5.out).mono ?_;rintro e w2⟨rfl,hc⟩;have G1:=a8 (hc.at E5.out);replace D0:=a8 (D0.out.trans (hc.below E4.out D0.out.size));clear hc;go_wp2;go_ret;exact⟨rfl,N7.of_below HS.out D0.out⟩
theorem b8e(may:List UInt8->Bool)(hM:L9 113 may)(key s:List UInt8)(b:Nat)(w:World)(h:n0 w b (ba s))(hl:s.length<=100000)(hW:Wd w)(h1:(n8 s).length<s.length)(r:List UInt8)(h2:m9 key (n8 s)=some r)(h3:V3 r=none):Calls Tryz.prog 111 #[.pointer (some ⟨b,0,none⟩),.string (ba key),.func (.func 113) #[] #[]] w fun e w'=>e=.returned (.bool false)/\N7 b (ba s) w w':=by
 have G0:b<w.heap.size:=h.lt;have c0:=h.cell;have f0:=h.frozen;have HS:=a8 h;have HW:=a8 hW;have G1:=I0 s;have HM:=a8 hM;have G4:=a8 (c9 w.heap.size);have H0:=a8 (b8 w.heap.size w);have D3:Hid (∀w' cb,n0 w' cb (ba s)->_):=fun w' cb hc=>D9 s cb w' hc (by omega)
 rw[i6 h1]at D3;have E7:Hid (∀w' cb,n0 w' cb (ba (n8 s))->_):=fun w' cb hc=>F2 (n8 s) key r cb w' hc h2;have G6:=G5 h2;have E8:Hid (∀w' cb,n0 w' cb (ba r)->_):=fun w' cb hc=>a1y r cb w' hc (by omega) h3
 clear h hW hM;obtain⟨Z,hZ⟩ : ∃Z,ba s=Z:=⟨_,rfl⟩;obtain⟨cb,E0⟩ : ∃cb,w.heap.size=cb:=⟨_,rfl⟩;have D1:(w.alloc (Obj.cells #[.string Z] 114)).heap[cb]? = some (.cells #[.string Z] 114 (0,0)):=by rw[<-E0];exact g9 w _
 have E2:=a8 D1;have D2:=a8 E0;have D0:=a8 (H0.out.alloc (c9 _) (Obj.cells #[.string Z] 114));rw[hZ]at D3 c0;have HZ:=a8 hZ;clear D1 hZ E0;go_enter Tryz.func111,Tryz.ntmps111
 go_upto_region 2 with fail
 rw[D2.out];obtain⟨w0,E3⟩ : ∃w0,w.alloc (Obj.cells #[.string Z] 114)=w0:=⟨_,rfl⟩;rw[E3]at E2 D0 ⊢;clear E3;have E4:Hid (n0 w0 cb Z):=⟨_,_,E2.out,rfl⟩;have E1:Hid (w.heap.size<=cb):=G2 D2.out
 go_wp2_with fail
 refine(D3.out w0 cb E4.out).mono ?_;rintro e w1⟨rfl,hc⟩;have E5:=a8 (hc.at E4.out);replace D0:=a8 (D0.out.trans (hc.below E1.out D0.out.size));clear hc
 go_wp2_with fail
 refine(E7.out w1 cb E5.out).mono ?_;rintro e w2⟨rfl,hc⟩;have E6:=a8 (hc.at E5.out);replace D0:=a8 (D0.out.trans (hc.below E1.out D0.out.size));clear hc
 go_wp2_with fail
 refine(E8.out w2 cb E6.out).mono ?_;rintro e w3⟨rfl,rr,_,hc⟩;have G7:=a8 (hc.at E6.out);replace D0:=a8 (D0.out.trans (hc.below E1.out D0.out.size));clear hc;go_wp2;go_ret;exact⟨rfl,N7.of_below HS.out D0.out⟩
theorem b8b(may:List UInt8->Bool)(hM:L9 113 may)(key s:List UInt8)(b:Nat)(w:World)(h:n0 w b (ba s))(hl:s.length<=100000)(hW:Wd w)(h1:(n8 s).length<s.length)(r:List UInt8)(h2:m9 key (n8 s)=some r)(r2:List UInt8)(h3:V3 r=some r2)(h4:V0 r2=none):Calls Tryz.prog 111 #[.pointer (some ⟨b,0,none⟩),.string (ba key),.func (.func 113) #[] #[]] w fun e w'=>e=.returned (.bool false)/\N7 b (ba s) w w':=by
 have G4:b<w.heap.size:=h.lt;have c0:=h.cell;have f0:=h.frozen;have HS:=a8 h;have HW:=a8 hW;have G6:=I0 s;have HM:=a8 hM;have G7:=a8 (c9 w.heap.size);have H0:=a8 (b8 w.heap.size w);have E0:Hid (∀w' cb,n0 w' cb (ba s)->_):=fun w' cb hc=>D9 s cb w' hc (by omega)
 rw[i6 h1]at E0;have E8:Hid (∀w' cb,n0 w' cb (ba (n8 s))->_):=fun w' cb hc=>F2 (n8 s) key r cb w' hc h2;have G8:=G5 h2;have G0:Hid (∀w' cb,n0 w' cb (ba r)->_):=fun w' cb hc=>L5 r r2 cb w' hc (by omega) h3
 have G9:=a0o h3;have G1:Hid (∀w' cb,n0 w' cb (ba r2)->I3 w'->_):=fun w' cb hc hm=>a1S r2 cb w' hc hm (by omega) h4
 clear h hW hM;obtain⟨Z,hZ⟩ : ∃Z,ba s=Z:=⟨_,rfl⟩;obtain⟨cb,E1⟩ : ∃cb,w.heap.size=cb:=⟨_,rfl⟩;have D1:(w.alloc (Obj.cells #[.string Z] 114)).heap[cb]? = some (.cells #[.string Z] 114 (0,0)):=by rw[<-E1];exact g9 w _
 have E2:=a8 D1;have D2:=a8 E1;have D0:=a8 (H0.out.alloc (c9 _) (Obj.cells #[.string Z] 114));rw[hZ]at E0 c0;have HZ:=a8 hZ;clear D1 hZ E1;go_enter Tryz.func111,Tryz.ntmps111
 go_upto_region 2 with fail
 rw[D2.out];obtain⟨w0,E3⟩ : ∃w0,w.alloc (Obj.cells #[.string Z] 114)=w0:=⟨_,rfl⟩;rw[E3]at E2 D0 ⊢;clear E3;have E4:Hid (n0 w0 cb Z):=⟨_,_,E2.out,rfl⟩;have D3:Hid (w.heap.size<=cb):=G2 D2.out
 go_wp2_with fail
 refine(E0.out w0 cb E4.out).mono ?_;rintro e w1⟨rfl,hc⟩;have E5:=a8 (hc.at E4.out);replace D0:=a8 (D0.out.trans (hc.below D3.out D0.out.size));clear hc
 go_wp2_with fail
 refine(E8.out w1 cb E5.out).mono ?_;rintro e w2⟨rfl,hc⟩;have E6:=a8 (hc.at E5.out);replace D0:=a8 (D0.out.trans (hc.below D3.out D0.out.size));clear hc
 go_wp2_with fail
 refine(G0.out w2 cb E6.out).mono ?_;rintro e w3⟨rfl,hc⟩;have E7:=a8 (hc.at E6.out);replace D0:=a8 (D0.out.trans (hc.below D3.out D0.out.size));clear hc
 go_wp2_with fail
 refine(G1.out w3 cb E7.out (HW.out.low2 D0.out).max).mono ?_;rintro e w4⟨rfl,hc⟩;have J1:=a8 (hc.at E7.out);replace D0:=a8 (D0.out.trans (hc.below D3.out D0.out.size));clear hc;go_wp2;go_ret;exact⟨rfl,N7.of_below HS.out D0.out⟩
theorem b78(may:List UInt8->Bool)(hM:L9 113 may)(key s:List UInt8)(b:Nat)(w:World)(h:n0 w b (ba s))(hl:s.length<=100000)(hW:Wd w)(h1:(n8 s).length<s.length)(r:List UInt8)(h2:m9 key (n8 s)=some r)(r2:List UInt8)(h3:V3 r=some r2)(v r3:List UInt8)(h4:V0 r2=some (v,r3))(h5:may v=false):Calls Tryz.prog 111 #[.pointer (some ⟨b,0,none⟩),.string (ba key),.func (.func 113) #[] #[]] w fun e w'=>e=.returned (.bool false)/\N7 b (ba s) w w':=by
 have G7:b<w.heap.size:=h.lt;have c0:=h.cell;have f0:=h.frozen;have HS:=a8 h;have HW:=a8 hW;have G8:=I0 s;have HM:=a8 hM;have G9:=a8 (c9 w.heap.size);have H0:=a8 (b8 w.heap.size w);have E1:Hid (∀w' cb,n0 w' cb (ba s)->_):=fun w' cb hc=>D9 s cb w' hc (by omega)
 rw[i6 h1]at E1;have G0:Hid (∀w' cb,n0 w' cb (ba (n8 s))->_):=fun w' cb hc=>F2 (n8 s) key r cb w' hc h2;have J1:=G5 h2;have G1:Hid (∀w' cb,n0 w' cb (ba r)->_):=fun w' cb hc=>L5 r r2 cb w' hc (by omega) h3
 have J2:=a0o h3;have G4:Hid (∀w' cb,n0 w' cb (ba r2)->I3 w'->_):=fun w' cb hc hm=>T9 r2 v r3 cb w' hc hm (by omega) h4
 have J3:=a1d h4;have D1:Hid (∀w',Wd w'->_):=fun w' hw=>HM.out v w' (by omega) hw
 rw[h5]at D1;clear h hW hM;obtain⟨Z,hZ⟩ : ∃Z,ba s=Z:=⟨_,rfl⟩;obtain⟨cb,E2⟩ : ∃cb,w.heap.size=cb:=⟨_,rfl⟩;have D2:(w.alloc (Obj.cells #[.string Z] 114)).heap[cb]? = some (.cells #[.string Z] 114 (0,0)):=by rw[<-E2];exact g9 w _
 have E3:=a8 D2;have D3:=a8 E2;have D0:=a8 (H0.out.alloc (c9 _) (Obj.cells #[.string Z] 114));rw[hZ]at E1 c0;have HZ:=a8 hZ;clear D2 hZ E2;go_enter Tryz.func111,Tryz.ntmps111
 go_upto_region 2 with fail
 rw[D3.out];obtain⟨w0,E4⟩ : ∃w0,w.alloc (Obj.cells #[.string Z] 114)=w0:=⟨_,rfl⟩;rw[E4]at E3 D0 ⊢;clear E4;have E5:Hid (n0 w0 cb Z):=⟨_,_,E3.out,rfl⟩;have E0:Hid (w.heap.size<=cb):=G2 D3.out
 go_wp2_with fail
 refine(E1.out w0 cb E5.out).mono ?_;rintro e w1⟨rfl,hc⟩;have E6:=a8 (hc.at E5.out);replace D0:=a8 (D0.out.trans (hc.below E0.out D0.out.size));clear hc
 go_wp2_with fail
 refine(G0.out w1 cb E6.out).mono ?_;rintro e w2⟨rfl,hc⟩;have E7:=a8 (hc.at E6.out);replace D0:=a8 (D0.out.trans (hc.below E0.out D0.out.size));clear hc
 go_wp2_with fail
 refine(G1.out w2 cb E7.out).mono ?_;rintro e w3⟨rfl,hc⟩;have E8:=a8 (hc.at E7.out);replace D0:=a8 (D0.out.trans (hc.below E0.out D0.out.size));clear hc
 go_wp2_with fail
 refine(G4.out w3 cb E8.out (HW.out.low2 D0.out).max).mono ?_;rintro e w4⟨rfl,hc⟩;have G6:=a8 (hc.at E8.out);replace D0:=a8 (D0.out.trans (hc.below E0.out D0.out.size));clear hc
 go_wp2_with fail
 refine(D1.out w4 (HW.out.low2 D0.out)).mono ?_;rintro e w5⟨rfl,hb⟩;have J4:=a8 (G6.out.below hb);replace D0:=a8 (D0.out.trans (hb.mono D0.out.size));clear hb;go_wp2;go_ret;exact⟨rfl,N7.of_below HS.out D0.out⟩
theorem b75(may:List UInt8->Bool)(hM:L9 113 may)(key s:List UInt8)(b:Nat)(w:World)(h:n0 w b (ba s))(hl:s.length<=100000)(hW:Wd w)(h1:(n8 s).length<s.length)(r:List UInt8)(h2:m9 key (n8 s)=some r)(r2:List UInt8)(h3:V3 r=some r2)(v r3:List UInt8)(h4:V0 r2=some (v,r3))(h5:may v=true):Calls Tryz.prog 111 #[.pointer (some ⟨b,0,none⟩),.string (ba key),.func (.func 113) #[] #[]] w fun e w'=>e=.returned (.bool true)/\N7 b (ba r3) w w':=by
 have G8:b<w.heap.size:=h.lt;have c0:=h.cell;have f0:=h.frozen;have HS:=a8 h;have HW:=a8 hW;have G9:=I0 s;have HM:=a8 hM;have J1:=a8 (c9 w.heap.size);have H0:=a8 (b8 w.heap.size w);have E1:Hid (∀w' cb,n0 w' cb (ba s)->_):=fun w' cb hc=>D9 s cb w' hc (by omega)
 rw[i6 h1]at E1;have G0:Hid (∀w' cb,n0 w' cb (ba (n8 s))->_):=fun w' cb hc=>F2 (n8 s) key r cb w' hc h2;have J2:=G5 h2;have G1:Hid (∀w' cb,n0 w' cb (ba r)->_):=fun w' cb hc=>L5 r r2 cb w' hc (by omega) h3
 have J3:=a0o h3;have G4:Hid (∀w' cb,n0 w' cb (ba r2)->I3 w'->_):=fun w' cb hc hm=>T9 r2 v r3 cb w' hc hm (by omega) h4
 have J4:=a1d h4;have D1:Hid (∀w',Wd w'->_):=fun w' hw=>HM.out v w' (by omega) hw
 rw[h5]at D1;clear h hW hM;obtain⟨Z,hZ⟩ : ∃Z,ba s=Z:=⟨_,rfl⟩;obtain⟨cb,E2⟩ : ∃cb,w.heap.size=cb:=⟨_,rfl⟩;have D2:(w.alloc (Obj.cells #[.string Z] 114)).heap[cb]? = some (.cells #[.string Z] 114 (0,0)):=by rw[<-E2];exact g9 w _
 have E3:=a8 D2;have D3:=a8 E2;have D0:=a8 (H0.out.alloc (c9 _) (Obj.cells #[.string Z] 114));rw[hZ]at E1 c0;have HZ:=a8 hZ;clear D2 hZ E2;go_enter Tryz.func111,Tryz.ntmps111
 go_upto_region 2 with fail
 rw[D3.out];obtain⟨w0,E4⟩ : ∃w0,w.alloc (Obj.cells #[.string Z] 114)=w0:=⟨_,rfl⟩;rw[E4]at E3 D0 ⊢;clear E4;have E5:Hid (n0 w0 cb Z):=⟨_,_,E3.out,rfl⟩;have E0:Hid (w.heap.size<=cb):=G2 D3.out
 go_wp2_with fail
 refine(E1.out w0 cb E5.out).mono ?_;rintro e w1⟨rfl,hc⟩;have E6:=a8 (hc.at E5.out);replace D0:=a8 (D0.out.trans (hc.below E0.out D0.out.size));clear hc
 go_wp2_with fail
 refine(G0.out w1 cb E6.out).mono ?_;rintro e w2⟨rfl,hc⟩;have E7:=a8 (hc.at E6.out);replace D0:=a8 (D0.out.trans (hc.below E0.out D0.out.size));clear hc
 go_wp2_with fail
 refine(G1.out w2 cb E7.out).mono ?_;rintro e w3⟨rfl,hc⟩;have E8:=a8 (hc.at E7.out);replace D0:=a8 (D0.out.trans (hc.below E0.out D0.out.size));clear hc
 go_wp2_with fail
 refine(G4.out w3 cb E8.out (HW.out.low2 D0.out).max).mono ?_;rintro e w4⟨rfl,hc⟩;have G6:=a8 (hc.at E8.out);replace D0:=a8 (D0.out.trans (hc.below E0.out D0.out.size));clear hc
 go_wp2_with fail
 refine(D1.out w4 (HW.out.low2 D0.out)).mono ?_;rintro e w5⟨rfl,hb⟩;have G7:=a8 (G6.out.below hb);replace D0:=a8 (D0.out.trans (hb.mono D0.out.size));clear hb;have q0:=G7.out.cell;have q1:=(HS.out.below D0.out).cell;have q2:=(HS.out.below D0.out).frozen;go_wp2;go_ret;exact⟨rfl,(N7.of_below HS.out D0.out).trans (N7.set (HS.out.below D0.out) _)⟩
theorem a7J(may:List UInt8->Bool)(hM:L9 113 may)(key s:List UInt8)(b:Nat)(w:World)(h:n0 w b (ba s))(hl:s.length<=100000)(hW:Wd w):Calls Tryz.prog 111 #[.pointer (some ⟨b,0,none⟩),.string (ba key),.func (.func 113) #[] #[]] w fun e w'=>e=.returned (.bool (E7 key may s).isSome)/\N7 b (ba ((E7 key may s).getD s)) w w':=by
 unfold E7;by_cases h1:(n8 s).length<s.length
 ·rw[g8 h1]
  cases h2:m9 key (n8 s)with
  |none=>exact b8h may hM key s b w h hl hW h1 h2
  |some r =>
   dsimp only;cases h3:V3 r with
   |none=>exact b8e may hM key s b w h hl hW h1 r h2 h3
   |some r2 =>
    dsimp only;cases h4:V0 r2 with
    |none=>exact b8b may hM key s b w h hl hW h1 r h2 r2 h3 h4
    |some q =>
     obtain⟨v,r3⟩:=q;dsimp only;cases h5:may v with
     |false=>rw[f6 (by decide)];exact b78 may hM key s b w h hl hW h1 r h2 r2 h3 v r3 h4 h5
     |true=>rw[g8 rfl];exact b75 may hM key s b w h hl hW h1 r h2 r2 h3 v r3 h4 h5
 ·rw[f6 h1]
  exact b8k may hM key s b w h hl hW h1
theorem b8j(may:List UInt8->Bool)(hM:L9 114 may)(key s:List UInt8)(b:Nat)(w:World)(h:n0 w b (ba s))(hl:s.length<=100000)(hW:Wd w)(h1:¬(n8 s).length<s.length):Calls Tryz.prog 111 #[.pointer (some ⟨b,0,none⟩),.string (ba key),.func (.func 114) #[] #[]] w fun e w'=>e=.returned (.bool false)/\N7 b (ba s) w w':=by
 have E5:b<w.heap.size:=h.lt;have c0:=h.cell;have f0:=h.frozen;have HS:=a8 h;have HW:=a8 hW;have E6:=I0 s;have HM:=a8 hM;have E7:=a8 (c9 w.heap.size);have H0:=a8 (b8 w.heap.size w);have D3:Hid (∀w' cb,n0 w' cb (ba s)->_):=fun w' cb hc=>D9 s cb w' hc (by omega)
 rw[f8 h1]at D3;clear h hW hM;obtain⟨Z,hZ⟩ : ∃Z,ba s=Z:=⟨_,rfl⟩;obtain⟨cb,E0⟩ : ∃cb,w.heap.size=cb:=⟨_,rfl⟩;have D0:(w.alloc (Obj.cells #[.string Z] 114)).heap[cb]? = some (.cells #[.string Z] 114 (0,0)):=by rw[<-E0];exact g9 w _
 have E1:=a8 D0;have D1:=a8 E0;have D2:=a8 (H0.out.alloc (c9 _) (Obj.cells #[.string Z] 114));rw[hZ]at D3 c0;have HZ:=a8 hZ;clear D0 hZ E0;go_enter Tryz.func111,Tryz.ntmps111
 go_upto_region 2 with fail
 rw[D1.out];obtain⟨w0,E2⟩ : ∃w0,w.alloc (Obj.cells #[.string Z] 114)=w0:=⟨_,rfl⟩;rw[E2]at E1 D2 ⊢;clear E2;have E3:Hid (n0 w0 cb Z):=⟨_,_,E1.out,rfl⟩;have E4:Hid (w.heap.size<=cb):=G2 D1.out
 go_wp2_with fail
 refine(D3.out w0 cb E3.out).mono ?_;rintro e w1⟨rfl,hc⟩;have E8:=a8 (hc.at E3.out);replace D2:=a8 (D2.out.trans (hc.below E4.out D2.out.size));clear hc;go_wp2;go_ret;exact⟨rfl,N7.of_below HS.out D2.out⟩
theorem b8g(may:List UInt8->Bool)(hM:L9 114 may)(key s:List UInt8)(b:Nat)(w:World)(h:n0 w b (ba s))(hl:s.length<=100000)(hW:Wd w)(h1:(n8 s).length<s.length)(h2:m9 key (n8 s)=none):Calls Tryz.prog 111 #[.pointer (some ⟨b,0,none⟩),.string (ba key),.func (.func 114) #[] #[]] w fun e w'=>e=.returned (.bool false)/\N7 b (ba s) w w':=by
 have E7:b<w.heap.size:=h.lt;have c0:=h.cell;have f0:=h.frozen;have HS:=a8 h;have HW:=a8 hW;have E8:=I0 s;have HM:=a8 hM;have G0:=a8 (c9 w.heap.size);have H0:=a8 (b8 w.heap.size w);have D3:Hid (∀w' cb,n0 w' cb (ba s)->_):=fun w' cb hc=>D9 s cb w' hc (by omega)
 rw[i6 h1]at D3;have E6:Hid (∀w' cb,n0 w' cb (ba (n8 s))->_):=fun w' cb hc=>K9 (n8 s) key cb w' hc h2;clear h hW hM;obtain⟨Z,hZ⟩ : ∃Z,ba s=Z:=⟨_,rfl⟩;obtain⟨cb,E0⟩ : ∃cb,w.heap.size=cb:=⟨_,rfl⟩;have D1:(w.alloc (Obj.cells #[.string Z] 114)).heap[cb]? = some (.cells #[.string Z] 114 (0,0)):=by rw[<-E0];exact g9 w _
 have E1:=a8 D1;have D2:=a8 E0;have D0:=a8 (H0.out.alloc (c9 _) (Obj.cells #[.string Z] 114));rw[hZ]at D3 c0;have HZ:=a8 hZ;clear D1 hZ E0;go_enter Tryz.func111,Tryz.ntmps111
 go_upto_region 2 with fail
 rw[D2.out];obtain⟨w0,E2⟩ : ∃w0,w.alloc (Obj.cells #[.string Z] 114)=w0:=⟨_,rfl⟩;rw[E2]at E1 D0 ⊢;clear E2;have E3:Hid (n0 w0 cb Z):=⟨_,_,E1.out,rfl⟩;have E4:Hid (w.heap.size<=cb):=G2 D2.out
 go_wp2_with fail
 refine(D3.out w0 cb E3.out).mono ?_;rintro e w1⟨rfl,hc⟩;have E5:=a8 (hc.at E3.out);replace D0:=a8 (D0.out.trans (hc.below E4.out D0.out.size));clear hc
 go_wp2_with fail
 refine(E6.out w1 cb E5.out).mono ?_;rintro e w2⟨rfl,hc⟩;have G1:=a8 (hc.at E5.out);replace D0:=a8 (D0.out.trans (hc.below E4.out D0.out.size));clear hc;go_wp2;go_ret;exact⟨rfl,N7.of_below HS.out D0.out⟩
theorem b8d(may:List UInt8->Bool)(hM:L9 114 may)(key s:List UInt8)(b:Nat)(w:World)(h:n0 w b (ba s))(hl:s.length<=100000)(hW:Wd w)(h1:(n8 s).length<s.length)(r:List UInt8)(h2:m9 key (n8 s)=some r)(h3:V3 r=none):Calls Tryz.prog 111 #[.pointer (some ⟨b,0,none⟩),.string (ba key),.func (.func 114) #[] #[]] w fun e w'=>e=.returned (.bool false)/\N7 b (ba s) w w':=by
 have G0:b<w.heap.size:=h.lt;have c0:=h.cell;have f0:=h.frozen;have HS:=a8 h;have HW:=a8 hW;have G1:=I0 s;have HM:=a8 hM;have G4:=a8 (c9 w.heap.size);have H0:=a8 (b8 w.heap.size w);have D3:Hid (∀w' cb,n0 w' cb (ba s)->_):=fun w' cb hc=>D9 s cb w' hc (by omega)
 rw[i6 h1]at D3;have E7:Hid (∀w' cb,n0 w' cb (ba (n8 s))->_):=fun w' cb hc=>F2 (n8 s) key r cb w' hc h2;have G6:=G5 h2;have E8:Hid (∀w' cb,n0 w' cb (ba r)->_):=fun w' cb hc=>a1y r cb w' hc (by omega) h3
 clear h hW hM;obtain⟨Z,hZ⟩ : ∃Z,ba s=Z:=⟨_,rfl⟩;obtain⟨cb,E0⟩ : ∃cb,w.heap.size=cb:=⟨_,rfl⟩;have D1:(w.alloc (Obj.cells #[.string Z] 114)).heap[cb]? = some (.cells #[.string Z] 114 (0,0)):=by rw[<-E0];exact g9 w _
 have E2:=a8 D1;have D2:=a8 E0;have D0:=a8 (H0.out.alloc (c9 _) (Obj.cells #[.string Z] 114));rw[hZ]at D3 c0;have HZ:=a8 hZ;clear D1 hZ E0;go_enter Tryz.func111,Tryz.ntmps111
 go_upto_region 2 with fail
 rw[D2.out];obtain⟨w0,E3⟩ : ∃w0,w.alloc (Obj.cells #[.string Z] 114)=w0:=⟨_,rfl⟩;rw[E3]at E2 D0 ⊢;clear E3;have E4:Hid (n0 w0 cb Z):=⟨_,_,E2.out,rfl⟩;have E1:Hid (w.heap.size<=cb):=G2 D2.out
 go_wp2_with fail
 refine(D3.out w0 cb E4.out).mono ?_;rintro e w1⟨rfl,hc⟩;have E5:=a8 (hc.at E4.out);replace D0:=a8 (D0.out.trans (hc.below E1.out D0.out.size));clear hc
 go_wp2_with fail
 refine(E7.out w1 cb E5.out).mono ?_;rintro e w2⟨rfl,hc⟩;have E6:=a8 (hc.at E5.out);replace D0:=a8 (D0.out.trans (hc.below E1.out D0.out.size));clear hc
 go_wp2_with fail
 refine(E8.out w2 cb E6.out).mono ?_;rintro e w3⟨rfl,rr,_,hc⟩;have G7:=a8 (hc.at E6.out);replace D0:=a8 (D0.out.trans (hc.below E1.out D0.out.size));clear hc;go_wp2;go_ret;exact⟨rfl,N7.of_below HS.out D0.out⟩
theorem b8a(may:List UInt8->Bool)(hM:L9 114 may)(key s:List UInt8)(b:Nat)(w:World)(h:n0 w b (ba s))(hl:s.length<=100000)(hW:Wd w)(h1:(n8 s).length<s.length)(r:List UInt8)(h2:m9 key (n8 s)=some r)(r2:List UInt8)(h3:V3 r=some r2)(h4:V0 r2=none):Calls Tryz.prog 111 #[.pointer (some ⟨b,0,none⟩),.string (ba key),.func (.func 114) #[] #[]] w fun e w'=>e=.returned (.bool false)/\N7 b (ba s) w w':=by
 have G4:b<w.heap.size:=h.lt;have c0:=h.cell;have f0:=h.frozen;have HS:=a8 h;have HW:=a8 hW;have G6:=I0 s;have HM:=a8 hM;have G7:=a8 (c9 w.heap.size);have H0:=a8 (b8 w.heap.size w);have E0:Hid (∀w' cb,n0 w' cb (ba s)->_):=fun w' cb hc=>D9 s cb w' hc (by omega)
 rw[i6 h1]at E0;have E8:Hid (∀w' cb,n0 w' cb (ba (n8 s))->_):=fun w' cb hc=>F2 (n8 s) key r cb w' hc h2;have G8:=G5 h2;have G0:Hid (∀w' cb,n0 w' cb (ba r)->_):=fun w' cb hc=>L5 r r2 cb w' hc (by omega) h3
 have G9:=a0o h3;have G1:Hid (∀w' cb,n0 w' cb (ba r2)->I3 w'->_):=fun w' cb hc hm=>a1S r2 cb w' hc hm (by omega) h4
 clear h hW hM;obtain⟨Z,hZ⟩ : ∃Z,ba s=Z:=⟨_,rfl⟩;obtain⟨cb,E1⟩ : ∃cb,w.heap.size=cb:=⟨_,rfl⟩;have D1:(w.alloc (Obj.cells #[.string Z] 114)).heap[cb]? = some (.cells #[.string Z] 114 (0,0)):=by rw[<-E1];exact g9 w _
 have E2:=a8 D1;have D2:=a8 E1;have D0:=a8 (H0.out.alloc (c9 _) (Obj.cells #[.string Z] 114));rw[hZ]at E0 c0;have HZ:=a8 hZ;clear D1 hZ E1;go_enter Tryz.func111,Tryz.ntmps111
 go_upto_region 2 with fail
 rw[D2.out];obtain⟨w0,E3⟩ : ∃w0,w.alloc (Obj.cells #[.string Z] 114)=w0:=⟨_,rfl⟩;rw[E3]at E2 D0 ⊢;clear E3;have E4:Hid (n0 w0 cb Z):=⟨_,_,E2.out,rfl⟩;have D3:Hid (w.heap.size<=cb):=G2 D2.out
 go_wp2_with fail
 refine(E0.out w0 cb E4.out).mono ?_;rintro e w1⟨rfl,hc⟩;have E5:=a8 (hc.at E4.out);replace D0:=a8 (D0.out.trans (hc.below D3.out D0.out.size));clear hc
 go_wp2_with fail
 refine(E8.out w1 cb E5.out).mono ?_;rintro e w2⟨rfl,hc⟩;have E6:=a8 (hc.at E5.out);replace D0:=a8 (D0.out.trans (hc.below D3.out D0.out.size));clear hc
 go_wp2_with fail
 refine(G0.out w2 cb E6.out).mono ?_;rintro e w3⟨rfl,hc⟩;have E7:=a8 (hc.at E6.out);replace D0:=a8 (D0.out.trans (hc.below D3.out D0.out.size));clear hc
 go_wp2_with fail
 refine(G1.out w3 cb E7.out (HW.out.low2 D0.out).max).mono ?_;rintro e w4⟨rfl,hc⟩;have J1:=a8 (hc.at E7.out);replace D0:=a8 (D0.out.trans (hc.below D3.out D0.out.size));clear hc;go_wp2;go_ret;exact⟨rfl,N7.of_below HS.out D0.out⟩
theorem b77(may:List UInt8->Bool)(hM:L9 114 may)(key s:List UInt8)(b:Nat)(w:World)(h:n0 w b (ba s))(hl:s.length<=100000)(hW:Wd w)(h1:(n8 s).length<s.length)(r:List UInt8)(h2:m9 key (n8 s)=some r)(r2:List UInt8)(h3:V3 r=some r2)(v r3:List UInt8)(h4:V0 r2=some (v,r3))(h5:may v=false):Calls Tryz.prog 111 #[.pointer (some ⟨b,0,none⟩),.string (ba key),.func (.func 114) #[] #[]] w fun e w'=>e=.returned (.bool false)/\N7 b (ba s) w w':=by
 have G7:b<w.heap.size:=h.lt;have c0:=h.cell;have f0:=h.frozen;have HS:=a8 h;have HW:=a8 hW;have G8:=I0 s;have HM:=a8 hM;have G9:=a8 (c9 w.heap.size);have H0:=a8 (b8 w.heap.size w);have E1:Hid (∀w' cb,n0 w' cb (ba s)->_):=fun w' cb hc=>D9 s cb w' hc (by omega)
 rw[i6 h1]at E1;have G0:Hid (∀w' cb,n0 w' cb (ba (n8 s))->_):=fun w' cb hc=>F2 (n8 s) key r cb w' hc h2;have J1:=G5 h2;have G1:Hid (∀w' cb,n0 w' cb (ba r)->_):=fun w' cb hc=>L5 r r2 cb w' hc (by omega) h3
 have J2:=a0o h3;have G4:Hid (∀w' cb,n0 w' cb (ba r2)->I3 w'->_):=fun w' cb hc hm=>T9 r2 v r3 cb w' hc hm (by omega) h4
 have J3:=a1d h4;have D1:Hid (∀w',Wd w'->_):=fun w' hw=>HM.out v w' (by omega) hw
 rw[h5]at D1;clear h hW hM;obtain⟨Z,hZ⟩ : ∃Z,ba s=Z:=⟨_,rfl⟩;obtain⟨cb,E2⟩ : ∃cb,w.heap.size=cb:=⟨_,rfl⟩;have D2:(w.alloc (Obj.cells #[.string Z] 114)).heap[cb]? = some (.cells #[.string Z] 114 (0,0)):=by rw[<-E2];exact g9 w _
 have E3:=a8 D2;have D3:=a8 E2;have D0:=a8 (H0.out.alloc (c9 _) (Obj.cells #[.string Z] 114));rw[hZ]at E1 c0;have HZ:=a8 hZ;clear D2 hZ E2;go_enter Tryz.func111,Tryz.ntmps111
 go_upto_region 2 with fail
 rw[D3.out];obtain⟨w0,E4⟩ : ∃w0,w.alloc (Obj.cells #[.string Z] 114)=w0:=⟨_,rfl⟩;rw[E4]at E3 D0 ⊢;clear E4;have E5:Hid (n0 w0 cb Z):=⟨_,_,E3.out,rfl⟩;have E0:Hid (w.heap.size<=cb):=G2 D3.out
 go_wp2_with fail
 refine(E1.out w0 cb E5.out).mono ?_;rintro e w1⟨rfl,hc⟩;have E6:=a8 (hc.at E5.out);replace D0:=a8 (D0.out.trans (hc.below E0.out D0.out.size));clear hc
 go_wp2_with fail
 refine(G0.out w1 cb E6.out).mono ?_;rintro e w2⟨rfl,hc⟩;have E7:=a8 (hc.at E6.out);replace D0:=a8 (D0.out.trans (hc.below E0.out D0.out.size));clear hc
 go_wp2_with fail
 refine(G1.out w2 cb E7.out).mono ?_;rintro e w3⟨rfl,hc⟩;have E8:=a8 (hc.at E7.out);replace D0:=a8 (D0.out.trans (hc.below E0.out D0.out.size));clear hc
 go_wp2_with fail
 refine(G4.out w3 cb E8.out (HW.out.low2 D0.out).max).mono ?_;rintro e w4⟨rfl,hc⟩;have G6:=a8 (hc.at E8.out);replace D0:=a8 (D0.out.trans (hc.below E0.out D0.out.size));clear hc
 go_wp2_with fail
 refine(D1.out w4 (HW.out.low2 D0.out)).mono ?_;rintro e w5⟨rfl,hb⟩;have J4:=a8 (G6.out.below hb);replace D0:=a8 (D0.out.trans (hb.mono D0.out.size));clear hb;go_wp2;go_ret;exact⟨rfl,N7.of_below HS.out D0.out⟩
theorem b74(may:List UInt8->Bool)(hM:L9 114 may)(key s:List UInt8)(b:Nat)(w:World)(h:n0 w b (ba s))(hl:s.length<=100000)(hW:Wd w)(h1:(n8 s).length<s.length)(r:List UInt8)(h2:m9 key (n8 s)=some r)(r2:List UInt8)(h3:V3 r=some r2)(v r3:List UInt8)(h4:V0 r2=some (v,r3))(h5:may v=true):Calls Tryz.prog 111 #[.pointer (some ⟨b,0,none⟩),.string (ba key),.func (.func 114) #[] #[]] w fun e w'=>e=.returned (.bool true)/\N7 b (ba r3) w w':=by
 have G8:b<w.heap.size:=h.lt;have c0:=h.cell;have f0:=h.frozen;have HS:=a8 h;have HW:=a8 hW;have G9:=I0 s;have HM:=a8 hM;have J1:=a8 (c9 w.heap.size);have H0:=a8 (b8 w.heap.size w);have E1:Hid (∀w' cb,n0 w' cb (ba s)->_):=fun w' cb hc=>D9 s cb w' hc (by omega)
 rw[i6 h1]at E1;have G0:Hid (∀w' cb,n0 w' cb (ba (n8 s))->_):=fun w' cb hc=>F2 (n8 s) key r cb w' hc h2;have J2:=G5 h2;have G1:Hid (∀w' cb,n0 w' cb (ba r)->_):=fun w' cb hc=>L5 r r2 cb w' hc (by omega) h3
 have J3:=a0o h3;have G4:Hid (∀w' cb,n0 w' cb (ba r2)->I3 w'->_):=fun w' cb hc hm=>T9 r2 v r3 cb w' hc hm (by omega) h4
 have J4:=a1d h4;have D1:Hid (∀w',Wd w'->_):=fun w' hw=>HM.out v w' (by omega) hw
 rw[h5]at D1;clear h hW hM;obtain⟨Z,hZ⟩ : ∃Z,ba s=Z:=⟨_,rfl⟩;obtain⟨cb,E2⟩ : ∃cb,w.heap.size=cb:=⟨_,rfl⟩;have D2:(w.alloc (Obj.cells #[.string Z] 114)).heap[cb]? = some (.cells #[.string Z] 114 (0,0)):=by rw[<-E2];exact g9 w _
 have E3:=a8 D2;have D3:=a8 E2;have D0:=a8 (H0.out.alloc (c9 _) (Obj.cells #[.string Z] 114));rw[hZ]at E1 c0;have HZ:=a8 hZ;clear D2 hZ E2;go_enter Tryz.func111,Tryz.ntmps111
 go_upto_region 2 with fail
 rw[D3.out];obtain⟨w0,E4⟩ : ∃w0,w.alloc (Obj.cells #[.string Z] 114)=w0:=⟨_,rfl⟩;rw[E4]at E3 D0 ⊢;clear E4;have E5:Hid (n0 w0 cb Z):=⟨_,_,E3.out,rfl⟩;have E0:Hid (w.heap.size<=cb):=G2 D3.out
 go_wp2_with fail
 refine(E1.out w0 cb E5.out).mono ?_;rintro e w1⟨rfl,hc⟩;have E6:=a8 (hc.at E5.out);replace D0:=a8 (D0.out.trans (hc.below E0.out D0.out.size));clear hc
 go_wp2_with fail
 refine(G0.out w1 cb E6.out).mono ?_;rintro e w2⟨rfl,hc⟩;have E7:=a8 (hc.at E6.out);replace D0:=a8 (D0.out.trans (hc.below E0.out D0.out.size));clear hc
 go_wp2_with fail
 refine(G1.out w2 cb E7.out).mono ?_;rintro e w3⟨rfl,hc⟩;have E8:=a8 (hc.at E7.out);replace D0:=a8 (D0.out.trans (hc.below E0.out D0.out.size));clear hc
 go_wp2_with fail
 refine(G4.out w3 cb E8.out (HW.out.low2 D0.out).max).mono ?_;rintro e w4⟨rfl,hc⟩;have G6:=a8 (hc.at E8.out);replace D0:=a8 (D0.out.trans (hc.below E0.out D0.out.size));clear hc
 go_wp2_with fail
 refine(D1.out w4 (HW.out.low2 D0.out)).mono ?_;rintro e w5⟨rfl,hb⟩;have G7:=a8 (G6.out.below hb);replace D0:=a8 (D0.out.trans (hb.mono D0.out.size));clear hb;have q0:=G7.out.cell;have q1:=(HS.out.below D0.out).cell;have q2:=(HS.out.below D0.out).frozen;go_wp2;go_ret;exact⟨rfl,(N7.of_below HS.out D0.out).trans (N7.set (HS.out.below D0.out) _)⟩
theorem a7I(may:List UInt8->Bool)(hM:L9 114 may)(key s:List UInt8)(b:Nat)(w:World)(h:n0 w b (ba s))(hl:s.length<=100000)(hW:Wd w):Calls Tryz.prog 111 #[.pointer (some ⟨b,0,none⟩),.string (ba key),.func (.func 114) #[] #[]] w fun e w'=>e=.returned (.bool (E7 key may s).isSome)/\N7 b (ba ((E7 key may s).getD s)) w w':=by
 unfold E7;by_cases h1:(n8 s).length<s.length
 ·rw[g8 h1]
  cases h2:m9 key (n8 s)with
  |none=>exact b8g may hM key s b w h hl hW h1 h2
  |some r =>
   dsimp only;cases h3:V3 r with
   |none=>exact b8d may hM key s b w h hl hW h1 r h2 h3
   |some r2 =>
    dsimp only;cases h4:V0 r2 with
    |none=>exact b8a may hM key s b w h hl hW h1 r h2 r2 h3 h4
    |some q =>
     obtain⟨v,r3⟩:=q;dsimp only;cases h5:may v with
     |false=>rw[f6 (by decide)];exact b77 may hM key s b w h hl hW h1 r h2 r2 h3 v r3 h4 h5
     |true=>rw[g8 rfl];exact b74 may hM key s b w h hl hW h1 r h2 r2 h3 v r3 h4 h5
 ·rw[f6 h1]
  exact b8j may hM key s b w h hl hW h1
end Go.Proofs.YtlgcigmolfhamaaGreatDoor
