/-
  parse.Parse. Conditions: at most 40,000 bytes; upTo and behindDeclaration answer what they are to answer; the tables lie as they are laid.
  parse.behindDeclaration, isVersion, isStandalone. Conditions: the text isn't too long; isEncoding answers what it is to answer.
  parse.cursor: upTo, by what strings.IndexAny answers. Conditions: the text isn't too long; strings.IndexAny answers as the library's own index does.
  strings.IndexAny, where it lies in this program: one byte, or a text of more than eight bytes. Conditions: the text isn't too long.
  strings.IndexRune at a letter beyond ASCII and a text of ASCII: -1. Conditions: none.
-/
import Derived.Test.YteinegfbpfhflaaGreatDoorM35
import Derived.Test.YteinegfbpfhflaaGreatDoorM19
import Derived.Test.YteinegfbpfhflaaGreatDoorM31
import Derived.Test.YteinegfbpfhflaaGreatDoorM27
import Derived.Lib.IndexAny
import Derived.Shelf.Strings.IndexAnyAll
import Derived.Test.YteinegfbpfhflaaGreatDoorM24
import Derived.Deep.LoopGhost
import Derived.Laws.RangeAny
namespace Go.Proofs.YteinegfbpfhflaaGreatDoor
set_option linter.unusedVariables false
set_option maxRecDepth 100000
set_option maxHeartbeats 16000000
section
open Go.RowKit
theorem CF{w:World}{B n:Nat}{v:Value}{ys:List Ny}(h:w.ownsRow B 42 8 v n (ys.flatMap gS))(hl:ys.length=n)(h0:0<n)(hy:∀y∈ys,BN w w.heap.size y):eD w w.heap.size v (ys.map (·.x)):=by
 obtain⟨hlen,h |⟨g,cap,cur,rfl,hg,hh,hnc,hcm,hsz,htk⟩⟩:=h
 ·omega
 ·rw[<-hl]
  refine eD.of_rows (au hh) (by omega) (by unfold maxLen at hcm;exact hcm) hy (fun j u hu => ?_)
  rw[ai w g j cur _ _ hh,<-bi];have hj:=(bh.1 hu).1;rw[dF jE,hl]at hj;rw[<-htk,List.getElem?_take_of_lt hj]at hu;exact hu
theorem GF{w:World}{B n:Nat}{v:Value}{ys:List Ny}(h:w.ownsRow B 42 8 v n (ys.flatMap gS))(hl:ys.length=n)(hy:∀y∈ys,BN w w.heap.size y):eD w w.heap.size v (ys.map (·.x)):=by
 rcases bw n with h0|h0
 ·have hz:ys=[]:=aD (by omega)
  subst hz;obtain⟨A,c,rfl,h1,h2⟩:=aP h;refine⟨A,c,by simp[h0],aM _,h2,fun hne=>absurd rfl hne⟩
 ·exact CF h hl h0 hy
noncomputable def qh(f:List UInt8->List UInt8)(bs:List UInt8):Option (List Nd):=if iZ bs=true then fC ((f (bJ bs)).length+1) (oa (f (bJ bs)))else none
def BL(f:List UInt8->List UInt8)(bs:List UInt8)(B:Nat)(e:Ending)(w':World):Prop:=match qh f bs with
 |none=>e=.returned (.tuple #[.pointer none,.int .i64 2])
 |some l => ∃B',B<=B'/\wF l B' e w'
theorem zX(hU:gm){f:List UInt8->List UInt8}(hF:ub f)(A:Option Addr)(c:Nat)(bs:List UInt8)(w:World)(hB : 8<=w.heap.size)(hW:Wd w)(hl:en w w.heap.size A (ec bs))(hc:bs.length<=c)(hcm:c<=9223372036854775807)(hn:bs.length<=40000) :
 Calls Tryz.prog 12 #[.slice A bs.length c] w fun e w'=>BL f bs w.heap.size e w'/\Below w.heap.size w w':=by
 have HTX:Hid (Calls Tryz.prog 27 #[.slice A bs.length c] w fun e w'=>e=.returned (.bool (iZ bs))/\Below w.heap.size w w'):=(pb A c bs w hW.tabs.u hl hc hcm (by omega)).mono fun e w' ⟨h1,h2⟩=>⟨i4 h1,h2⟩
 have h0:¬(65536:Int)<(bs.length:Int):=by omega
 obtain⟨D,hD⟩ : ∃D,qh f bs=D:=⟨_,rfl⟩
 have HANS:Hid (∀e w',(match D with
  |none=>e=.returned (.tuple #[.pointer none,.int .i64 2])
  |some l => ∃B',w.heap.size<=B'/\wF l B' e w')->BL f bs w.heap.size e w'):=fun e w' h=>by
  unfold BL;rw[hD];exact h
 unfold qh at hD;cases ht:iZ bs with
 |false =>
  rw[ht]at HTX hD;rw[am (by decide)]at hD
  subst hD;clear hl ht hW hU hF;obtain⟨k,hk⟩ : ∃k,bs.length=k:=⟨_,rfl⟩;rw[hk]at HTX h0 ⊢;clear hk hc hn;go_enter Tryz.func12,Tryz.ntmps12
  go_wp2_with fail
  refine HTX.out.mono ?_;rintro e w1⟨rfl,hb1⟩;have HB1:=aa hb1;clear hb1;go_wp2
  go_ret2
  exact⟨HANS.out _ _ rfl,HB1.out⟩
 |true =>
  rw[ht]at HTX hD;rw[av rfl]at hD;have hll:=kb bs;have HCV:Hid (∀w1,Below w.heap.size w w1->(convert 22 9 (.slice A bs.length c)).run Tryz.prog w1=.ok (.string (ba bs)) w1):=fun w1 h=>cF c (hl.below h)
  have HLN:Hid (∀w1,Calls Tryz.prog 29 #[.string (ba bs)] w1 fun e w'=>e=.returned (.string (ba (bJ bs)))/\Below w1.heap.size w1 w'):=fun w1=>by
   have:=AG (ba bs) (by rw[cV];omega) w1
   rw[bp]at this;exact this
  have HRD:Hid (∀w1,8<=w1.heap.size->Wd w1->Calls Tryz.prog 28 #[.string (ba (bJ bs))] w1 fun e w'=>DX D w1.heap.size e w'/\Below w1.heap.size w1 w'):=fun w1 h1 h2=>Cw hU hF w1 (bJ bs) (by omega) h1 h2 D hD
  have hfl:=(hF (bJ bs) w (by omega) hW).1
  have HW:=aa hW;cases D with
  |none =>
   clear hl ht hW hU hF hD hll hfl;obtain⟨L,hL⟩ : ∃L,bJ bs=L:=⟨_,rfl⟩;rw[hL]at HLN HRD;obtain⟨S,hS⟩ : ∃S,ba bs=S:=⟨_,rfl⟩;rw[hS]at HLN HCV;obtain⟨k,hk⟩ : ∃k,bs.length=k:=⟨_,rfl⟩;rw[hk]at HTX HCV h0 ⊢;clear hk hc hn hL hS;go_enter Tryz.func12,Tryz.ntmps12
   go_wp2_with fail
   refine HTX.out.mono ?_;rintro e w1⟨rfl,hb1⟩;have HB1:=aa hb1;have hcv:=HCV.out w1 hb1;clear hb1
   go_wp2_with fail
   refine(HLN.out w1).mono ?_;rintro e w2⟨rfl,hb2⟩;have HB2:=aa (HB1.out.trans (hb2.mono HB1.out.size));clear hb2 hcv
   go_wp2_with fail
   refine(HRD.out w2 (ag hB HB2.out.size) (HW.out.low hB HB2.out)).mono ?_;rintro e w3⟨⟨v,rfl⟩,hb3⟩;have HB3:=aa (HB2.out.trans (hb3.mono HB2.out.size));clear hb3;go_wp2
   go_ret2
   exact⟨HANS.out _ _ rfl,HB3.out⟩
  |some l =>
   obtain⟨hsm,hlen⟩:=px _ (f (bJ bs)).length _ l (by omega) (Gx _) (IX _) hD
   have HOF:Hid (∀w3 vn vo vd vt ys rb B st,eH w3 B rb st vn vo vd vt ys->st.ns=l->Wd w3->Calls Tryz.prog 30 #[vn] w3 fun e w'=>wF l w3.heap.size e w'/\Below w3.heap.size w3 w'):=fun w3 vn vo vd vt ys rb B st h hns hw=>by
    refine GB l vn w3 ?_ (by omega) hsm hw
    rw[<-hns,<-h.ns];exact GF h.rn rfl (fun y hy=>⟨i5 (h.ry y hy).1,i5 (h.ry y hy).2⟩)
   clear hl ht hW hU hF hD hll hfl hsm hlen;obtain⟨L,hL⟩ : ∃L,bJ bs=L:=⟨_,rfl⟩;rw[hL]at HLN HRD;obtain⟨S,hS⟩ : ∃S,ba bs=S:=⟨_,rfl⟩;rw[hS]at HLN HCV;obtain⟨k,hk⟩ : ∃k,bs.length=k:=⟨_,rfl⟩;rw[hk]at HTX HCV h0 ⊢;clear hk hc hn hL hS;go_enter Tryz.func12,Tryz.ntmps12
   go_wp2_with fail
   refine HTX.out.mono ?_;rintro e w1⟨rfl,hb1⟩;have HB1:=aa hb1;have hcv:=HCV.out w1 hb1;clear hb1
   go_wp2_with fail
   refine(HLN.out w1).mono ?_;rintro e w2⟨rfl,hb2⟩;have HB2:=aa (HB1.out.trans (hb2.mono HB1.out.size));clear hb2 hcv
   go_wp2_with fail
   refine(HRD.out w2 (ag hB HB2.out.size) (HW.out.low hB HB2.out)).mono ?_;rintro e w3⟨⟨rb,st,vn,vo,vd,vt,ys,hrm,hns,rfl⟩,hb3⟩;have HB3:=aa (HB2.out.trans (hb3.mono HB2.out.size));have HC:=aa (HOF.out w3 vn vo vd vt ys rb _ st hrm hns (HW.out.low hB HB3.out));clear hb3 hrm hns
   go_wp2_with fail
   refine HC.out.mono ?_;rintro e w4⟨ha,hb4⟩;have HB4:=aa (HB3.out.trans (hb4.mono HB3.out.size));have HA:=aa (HANS.out e w4 ⟨w3.heap.size,HB3.out.size,ha⟩);clear hb4;rcases ha with⟨_,rfl⟩|⟨_,_,rfl⟩|⟨_,_,d,rfl,_⟩
   all_goals
    go_wp2
    go_ret2
    exact⟨HA.out,HB4.out⟩
end
section
open Go.RowKit
def ru(v:List UInt8):Bool:=decide (v=[49,46,48])
def nj(v:List UInt8):Bool:=decide (v=[121,101,115]∨v=[110,111])
def jd(v:List UInt8):Bool:=Lib.equalFold v [85,84,70,45,56]
def lb:Prop:=dx 85 jd
theorem DL(v l:List UInt8):((ba v).toList==l)=decide (v=l):=by
 rw[aq,bp];exact bm.2 (by rw[bc,decide_eq_true_iff])
theorem oZ:dx 84 ru:=fun v w hl hW=>by
 unfold ru;have t:=DL v [49,46,48];generalize decide (v=[49,46,48])=Bz at *;generalize ba v=Z at *;go_enter Tryz.func84,Tryz.ntmps84;go_wp2;go_ret;exact⟨rfl,ae _ _⟩
theorem uv:dx 86 nj:=fun v w hl hW=>by
 unfold nj;have t1:=DL v [121,101,115];have t2:=DL v [110,111];by_cases h1:v=[121,101,115]
 ·rw[ax h1]at t1
  rw[ax (.inl h1)];clear h1;generalize ba v=Z at *;clear t2;go_enter Tryz.func86,Tryz.ntmps86;go_wp2;go_ret;exact⟨rfl,ae _ _⟩
 ·rw[ap h1]at t1
  by_cases h2:v=[110,111]
  ·rw[ax h2]at t2
   rw[ax (.inr h2)];clear h1 h2;generalize ba v=Z at *;go_enter Tryz.func86,Tryz.ntmps86;go_wp2;go_ret;exact⟨rfl,ae _ _⟩
  ·rw[ap h2]at t2
   rw[ap (fun h=>h.elim h1 h2)];clear h1 h2;generalize ba v=Z at *;go_enter Tryz.func86,Tryz.ntmps86;go_wp2;go_ret;exact⟨rfl,ae _ _⟩
def gp:List UInt8:=[118,101,114,115,105,111,110]
def eb:List UInt8:=[101,110,99,111,100,105,110,103]
def fc:List UInt8:=[115,116,97,110,100,97,108,111,110,101]
def dG(s:List UInt8):List UInt8 :=
 match aH [60,63,120,109,108] s with
 |none=>s
 |some r=>match bQ gp ru r with
  |none=>s
  |some r1=>match aH [63,62] (aI ((bQ fc nj ((bQ eb jd r1).getD r1)).getD ((bQ eb jd r1).getD r1)))with
   |none=>s
   |some r4=>r4
theorem ol{key:List UInt8}{may:List UInt8->Bool}{s r:List UInt8}(h:bQ key may s=some r):r.length<=s.length:=by
 unfold bQ at h
 split at h
 ·have hb:=cB s
  cases h2:aH key (aI s)with
  |none=>rw[h2]at h;cases h
  |some r1 =>
   rw[h2]at h;dsimp only at h;cases h3:fe r1 with
   |none=>rw[h3]at h;cases h
   |some r2 =>
    rw[h3]at h;dsimp only at h;cases h4:e9 r2 with
    |none=>rw[h4]at h;cases h
    |some q =>
     obtain⟨v,r3⟩:=q;rw[h4]at h;dsimp only at h
     split at h
     ·simp only[al]at h
      subst h;have:=cx h2;have:=gh h3;have:=il h4;omega
     ·cases h
 ·cases h
theorem fQ(key:List UInt8)(may:List UInt8->Bool)(s:List UInt8):((bQ key may s).getD s).length<=s.length:=by
 cases h:bQ key may s with
 |none=>exact af _
 |some r=>exact ol h
theorem tK(s:List UInt8):(dG s).length<=s.length:=by
 unfold dG;cases h1:aH [60,63,120,109,108] s with
 |none=>exact af _
 |some r =>
  dsimp only;cases h2:bQ gp ru r with
  |none=>exact af _
  |some r1 =>
   dsimp only
   split
   ·exact af _
   ·next r4 h3 =>
    have:=cx h1;have:=ol h2;have:=fQ eb jd r1;have:=fQ fc nj ((bQ eb jd r1).getD r1);have:=cB ((bQ fc nj ((bQ eb jd r1).getD r1)).getD ((bQ eb jd r1).getD r1));have:=cx h3;omega
theorem G5(hE:lb)(s:List UInt8)(w:World)(hl:s.length<=100000)(hW:Wd w)(h1:aH [60,63,120,109,108] s=none):Calls Tryz.prog 50 #[.string (ba s)] w fun e w'=>e=.returned (.string (ba s))/\Below w.heap.size w w':=by
 have HW:=aa hW;have HBS:=aa (af w.heap.size);have H0:=aa (ae w.heap.size w);have HSK:Hid (∀w' cb,aG w' cb (ba s)->_):=fun w' cb hc=>dc s [60,63,120,109,108] cb w' hc h1;clear hW hE;obtain⟨Z,hZ⟩ : ∃Z,ba s=Z:=⟨_,rfl⟩;obtain⟨cb,hcb⟩ : ∃cb,w.heap.size=cb:=⟨_,rfl⟩;have hcb1:(w.alloc (Obj.cells #[.string Z] 85)).heap[cb]? = some (.cells #[.string Z] 85 (0,0)):=by rw[<-hcb];exact ar w _
 have HCB:=aa hcb1;have HCBS:=aa hcb;have HWA:=aa (H0.out.alloc (af _) (Obj.cells #[.string Z] 85));rw[hZ]at HSK ⊢;have HZ:=aa hZ;clear hcb1 hZ hcb;go_enter Tryz.func50,Tryz.ntmps50
 go_upto_region 2 with fail
 rw[HCBS.out];obtain⟨w0,hw0⟩ : ∃w0,w.alloc (Obj.cells #[.string Z] 85)=w0:=⟨_,rfl⟩;rw[hw0]at HCB HWA ⊢;clear hw0;have HA0:Hid (aG w0 cb Z):=⟨_,_,HCB.out,rfl⟩;have HLE:Hid (w.heap.size<=cb):=cu HCBS.out
 go_wp2_with fail
 refine(HSK.out w0 cb HA0.out).mono ?_;rintro e w1⟨rfl,hc⟩;have HA1:=aa (hc.at HA0.out);replace HWA:=aa (HWA.out.trans (hc.below HLE.out HWA.out.size));clear hc;go_wp2;go_ret;exact⟨rfl,HWA.out⟩
theorem G4(hE:lb)(s:List UInt8)(w:World)(hl:s.length<=100000)(hW:Wd w)(r:List UInt8)(h1:aH [60,63,120,109,108] s=some r)(h2:bQ gp ru r=none):Calls Tryz.prog 50 #[.string (ba s)] w fun e w'=>e=.returned (.string (ba s))/\Below w.heap.size w w':=by
 have HW:=aa hW;have HBS:=aa (af w.heap.size);have H0:=aa (ae w.heap.size w);have hl1:=cx h1;have HSK:Hid (∀w' cb,aG w' cb (ba s)->_):=fun w' cb hc=>bW s [60,63,120,109,108] r cb w' hc h1
 have HV:Hid (∀w' cb,aG w' cb (ba r)->Wd w'->Calls Tryz.prog 83 #[.pointer (some ⟨cb,0,none⟩),.string (ba gp),.func (.func 84) #[] #[]] w' fun e w''=>e=.returned (.bool false)/\dK cb (ba r) w' w''):=fun w' cb hc hw=>by
  have:=nb ru oZ gp r cb w' hc (by omega) hw
  rw[h2]at this;exact this
 clear hW hE;obtain⟨Z,hZ⟩ : ∃Z,ba s=Z:=⟨_,rfl⟩;obtain⟨cb,hcb⟩ : ∃cb,w.heap.size=cb:=⟨_,rfl⟩;have hcb1:(w.alloc (Obj.cells #[.string Z] 85)).heap[cb]? = some (.cells #[.string Z] 85 (0,0)):=by rw[<-hcb];exact ar w _
 have HCB:=aa hcb1;have HCBS:=aa hcb;have HWA:=aa (H0.out.alloc (af _) (Obj.cells #[.string Z] 85));rw[hZ]at HSK ⊢;have HZ:=aa hZ;clear hcb1 hZ hcb;go_enter Tryz.func50,Tryz.ntmps50
 go_upto_region 2 with fail
 rw[HCBS.out];obtain⟨w0,hw0⟩ : ∃w0,w.alloc (Obj.cells #[.string Z] 85)=w0:=⟨_,rfl⟩;rw[hw0]at HCB HWA ⊢;clear hw0;have HA0:Hid (aG w0 cb Z):=⟨_,_,HCB.out,rfl⟩;have HLE:Hid (w.heap.size<=cb):=cu HCBS.out
 go_wp2_with fail
 refine(HSK.out w0 cb HA0.out).mono ?_;rintro e w1⟨rfl,hc⟩;have HA1:=aa (hc.at HA0.out);replace HWA:=aa (HWA.out.trans (hc.below HLE.out HWA.out.size));clear hc
 go_wp2_with fail
 refine(HV.out w1 cb HA1.out (HW.out.low2 HWA.out)).mono ?_;rintro e w2⟨rfl,hc⟩;have HA2:=aa (hc.at HA1.out);replace HWA:=aa (HWA.out.trans (hc.below HLE.out HWA.out.size));clear hc;go_wp2;go_ret;exact⟨rfl,HWA.out⟩
theorem G3(hE:lb)(s:List UInt8)(w:World)(hl:s.length<=100000)(hW:Wd w)(r r1:List UInt8)(h1:aH [60,63,120,109,108] s=some r)(h2:bQ gp ru r=some r1)(h3:aH [63,62] (aI ((bQ fc nj ((bQ eb jd r1).getD r1)).getD ((bQ eb jd r1).getD r1)))=none):Calls Tryz.prog 50 #[.string (ba s)] w fun e w'=>e=.returned (.string (ba s))/\Below w.heap.size w w':=by
 have HW:=aa hW;have HBS:=aa (af w.heap.size);have H0:=aa (ae w.heap.size w);have hl1:=cx h1;have HSK:Hid (∀w' cb,aG w' cb (ba s)->_):=fun w' cb hc=>bW s [60,63,120,109,108] r cb w' hc h1;have hl2:=ol h2
 have HV:Hid (∀w' cb,aG w' cb (ba r)->Wd w'->Calls Tryz.prog 83 #[.pointer (some ⟨cb,0,none⟩),.string (ba gp),.func (.func 84) #[] #[]] w' fun e w''=>e=.returned (.bool true)/\dK cb (ba r1) w' w''):=fun w' cb hc hw=>by
  have:=nb ru oZ gp r cb w' hc (by omega) hw
  rw[h2]at this;exact this
 have HEN:Hid (∀w' cb,aG w' cb (ba r1)->Wd w'->_):=fun w' cb hc hw=>qY jd hE eb r1 cb w' hc (by omega) hw
 have hl3:=fQ eb jd r1;generalize (bQ eb jd r1).isSome=Be at *;generalize (bQ eb jd r1).getD r1=r2 at *;have HST:Hid (∀w' cb,aG w' cb (ba r2)->Wd w'->_):=fun w' cb hc hw=>qX nj uv fc r2 cb w' hc (by omega) hw
 have hl4:=fQ fc nj r2;generalize (bQ fc nj r2).isSome=Bs at *;generalize (bQ fc nj r2).getD r2=r3 at *;have HBL:Hid (∀w' cb,aG w' cb (ba r3)->_):=fun w' cb hc=>bP r3 cb w' hc (by omega)
 generalize decide ((aI r3).length<r3.length)=Bb at *;have HSG:Hid (∀w' cb,aG w' cb (ba (aI r3))->_):=fun w' cb hc=>dc (aI r3) [63,62] cb w' hc h3;clear hW hE;obtain⟨Z,hZ⟩ : ∃Z,ba s=Z:=⟨_,rfl⟩;obtain⟨cb,hcb⟩ : ∃cb,w.heap.size=cb:=⟨_,rfl⟩;have hcb1:(w.alloc (Obj.cells #[.string Z] 85)).heap[cb]? = some (.cells #[.string Z] 85 (0,0)):=by rw[<-hcb];exact ar w _
 have HCB:=aa hcb1;have HCBS:=aa hcb;have HWA:=aa (H0.out.alloc (af _) (Obj.cells #[.string Z] 85));rw[hZ]at HSK ⊢;have HZ:=aa hZ;clear hcb1 hZ hcb;go_enter Tryz.func50,Tryz.ntmps50
 go_upto_region 2 with fail
 rw[HCBS.out];obtain⟨w0,hw0⟩ : ∃w0,w.alloc (Obj.cells #[.string Z] 85)=w0:=⟨_,rfl⟩;rw[hw0]at HCB HWA ⊢;clear hw0;have HA0:Hid (aG w0 cb Z):=⟨_,_,HCB.out,rfl⟩;have HLE:Hid (w.heap.size<=cb):=cu HCBS.out
 go_wp2_with fail
 refine(HSK.out w0 cb HA0.out).mono ?_;rintro e w1⟨rfl,hc⟩;have HA1:=aa (hc.at HA0.out);replace HWA:=aa (HWA.out.trans (hc.below HLE.out HWA.out.size));clear hc
 go_wp2_with fail
 refine(HV.out w1 cb HA1.out (HW.out.low2 HWA.out)).mono ?_;rintro e w2⟨rfl,hc⟩;have HA2:=aa (hc.at HA1.out);replace HWA:=aa (HWA.out.trans (hc.below HLE.out HWA.out.size));clear hc
 go_wp2_with fail
 refine(HEN.out w2 cb HA2.out (HW.out.low2 HWA.out)).mono ?_;rintro e w3⟨rfl,hc⟩;have HA3:=aa (hc.at HA2.out);replace HWA:=aa (HWA.out.trans (hc.below HLE.out HWA.out.size));clear hc
 go_wp2_with fail
 refine(HST.out w3 cb HA3.out (HW.out.low2 HWA.out)).mono ?_;rintro e w4⟨rfl,hc⟩;have HA4:=aa (hc.at HA3.out);replace HWA:=aa (HWA.out.trans (hc.below HLE.out HWA.out.size));clear hc
 go_wp2_with fail
 refine(HBL.out w4 cb HA4.out).mono ?_;rintro e w5⟨rfl,hc⟩;have HA5:=aa (hc.at HA4.out);replace HWA:=aa (HWA.out.trans (hc.below HLE.out HWA.out.size));clear hc
 go_wp2_with fail
 refine(HSG.out w5 cb HA5.out).mono ?_;rintro e w6⟨rfl,hc⟩;have HA6:=aa (hc.at HA5.out);replace HWA:=aa (HWA.out.trans (hc.below HLE.out HWA.out.size));clear hc;go_wp2;go_ret;exact⟨rfl,HWA.out⟩
theorem G2(hE:lb)(s:List UInt8)(w:World)(hl:s.length<=100000)(hW:Wd w)(r r1 r4:List UInt8)(h1:aH [60,63,120,109,108] s=some r)(h2:bQ gp ru r=some r1)(h3:aH [63,62] (aI ((bQ fc nj ((bQ eb jd r1).getD r1)).getD ((bQ eb jd r1).getD r1)))=some r4):Calls Tryz.prog 50 #[.string (ba s)] w fun e w'=>e=.returned (.string (ba r4))/\Below w.heap.size w w':=by
 have HW:=aa hW;have HBS:=aa (af w.heap.size);have H0:=aa (ae w.heap.size w);have hl1:=cx h1;have HSK:Hid (∀w' cb,aG w' cb (ba s)->_):=fun w' cb hc=>bW s [60,63,120,109,108] r cb w' hc h1;have hl2:=ol h2
 have HV:Hid (∀w' cb,aG w' cb (ba r)->Wd w'->Calls Tryz.prog 83 #[.pointer (some ⟨cb,0,none⟩),.string (ba gp),.func (.func 84) #[] #[]] w' fun e w''=>e=.returned (.bool true)/\dK cb (ba r1) w' w''):=fun w' cb hc hw=>by
  have:=nb ru oZ gp r cb w' hc (by omega) hw
  rw[h2]at this;exact this
 have HEN:Hid (∀w' cb,aG w' cb (ba r1)->Wd w'->_):=fun w' cb hc hw=>qY jd hE eb r1 cb w' hc (by omega) hw
 have hl3:=fQ eb jd r1;generalize (bQ eb jd r1).isSome=Be at *;generalize (bQ eb jd r1).getD r1=r2 at *;have HST:Hid (∀w' cb,aG w' cb (ba r2)->Wd w'->_):=fun w' cb hc hw=>qX nj uv fc r2 cb w' hc (by omega) hw
 have hl4:=fQ fc nj r2;generalize (bQ fc nj r2).isSome=Bs at *;generalize (bQ fc nj r2).getD r2=r3 at *;have HBL:Hid (∀w' cb,aG w' cb (ba r3)->_):=fun w' cb hc=>bP r3 cb w' hc (by omega)
 generalize decide ((aI r3).length<r3.length)=Bb at *;have HSG:Hid (∀w' cb,aG w' cb (ba (aI r3))->_):=fun w' cb hc=>bW (aI r3) [63,62] r4 cb w' hc h3;clear hW hE;obtain⟨Z,hZ⟩ : ∃Z,ba s=Z:=⟨_,rfl⟩;obtain⟨cb,hcb⟩ : ∃cb,w.heap.size=cb:=⟨_,rfl⟩;have hcb1:(w.alloc (Obj.cells #[.string Z] 85)).heap[cb]? = some (.cells #[.string Z] 85 (0,0)):=by rw[<-hcb];exact ar w _
 have HCB:=aa hcb1;have HCBS:=aa hcb;have HWA:=aa (H0.out.alloc (af _) (Obj.cells #[.string Z] 85));rw[hZ]at HSK ⊢;have HZ:=aa hZ;clear hcb1 hZ hcb;go_enter Tryz.func50,Tryz.ntmps50
 go_upto_region 2 with fail
 rw[HCBS.out];obtain⟨w0,hw0⟩ : ∃w0,w.alloc (Obj.cells #[.string Z] 85)=w0:=⟨_,rfl⟩;rw[hw0]at HCB HWA ⊢;clear hw0;have HA0:Hid (aG w0 cb Z):=⟨_,_,HCB.out,rfl⟩;have HLE:Hid (w.heap.size<=cb):=cu HCBS.out
 go_wp2_with fail
 refine(HSK.out w0 cb HA0.out).mono ?_;rintro e w1⟨rfl,hc⟩;have HA1:=aa (hc.at HA0.out);replace HWA:=aa (HWA.out.trans (hc.below HLE.out HWA.out.size));clear hc
 go_wp2_with fail
 refine(HV.out w1 cb HA1.out (HW.out.low2 HWA.out)).mono ?_;rintro e w2⟨rfl,hc⟩;have HA2:=aa (hc.at HA1.out);replace HWA:=aa (HWA.out.trans (hc.below HLE.out HWA.out.size));clear hc
 go_wp2_with fail
 refine(HEN.out w2 cb HA2.out (HW.out.low2 HWA.out)).mono ?_;rintro e w3⟨rfl,hc⟩;have HA3:=aa (hc.at HA2.out);replace HWA:=aa (HWA.out.trans (hc.below HLE.out HWA.out.size));clear hc
 go_wp2_with fail
 refine(HST.out w3 cb HA3.out (HW.out.low2 HWA.out)).mono ?_;rintro e w4⟨rfl,hc⟩;have HA4:=aa (hc.at HA3.out);replace HWA:=aa (HWA.out.trans (hc.below HLE.out HWA.out.size));clear hc
 go_wp2_with fail
 refine(HBL.out w4 cb HA4.out).mono ?_;rintro e w5⟨rfl,hc⟩;have HA5:=aa (hc.at HA4.out);replace HWA:=aa (HWA.out.trans (hc.below HLE.out HWA.out.size));clear hc
 go_wp2_with fail
 refine(HSG.out w5 cb HA5.out).mono ?_;rintro e w6⟨rfl,hc⟩;have HA6:=aa (hc.at HA5.out);replace HWA:=aa (HWA.out.trans (hc.below HLE.out HWA.out.size));clear hc;have q0:=HA6.out.cell;go_wp2;go_ret;exact⟨rfl,HWA.out⟩
theorem DI(hE:lb):ub dG:=fun s w hl hW=>by
 refine⟨tK s,?_⟩;unfold dG;cases h1:aH [60,63,120,109,108] s with
 |none=>exact G5 hE s w hl hW h1
 |some r =>
  dsimp only;cases h2:bQ gp ru r with
  |none=>exact G4 hE s w hl hW r h1 h2
  |some r1 =>
   dsimp only;cases h3:aH [63,62] (aI ((bQ fc nj ((bQ eb jd r1).getD r1)).getD ((bQ eb jd r1).getD r1)))with
   |none=>exact G3 hE s w hl hW r r1 h1 h2 h3
   |some r4=>exact G2 hE s w hl hW r r1 r4 h1 h2 h3
end
section
open Go.RowKit
def zv:Prop:=∀(s e:List UInt8) (w:World),s.length<=100000->e=[60]∨e=[32,9,10]∨e=[32,9,10,61,47,62]->Calls Tryz.prog 169 #[.string (ba s),.string (ba e)] w fun r w'=>r=.returned (.int .i64 (Lib.indexAny s e))/\Below w.heap.size w w'
theorem BX(e:List UInt8):∀s:List UInt8,(Lib.indexAny s e = -1/\cE e s=s/\c9 e s=[])∨(∃n:Nat,Lib.indexAny s e=n/\n<s.length/\cE e s=s.take n/\c9 e s=s.drop n)
 | [] => .inl ⟨rfl,rfl,rfl⟩
 |c::s=>by
  cases hc:e.contains c with
  |true =>
   refine .inr ⟨0,?_,by simp,?_,?_⟩
   ·rw[Lib.indexAny,av hc];rfl
   ·unfold cE;rw[List.takeWhile_cons_of_neg (by simp only[hc];decide)];rfl
   ·unfold c9;rw[List.dropWhile_cons_of_neg (by simp only[hc];decide)];rfl
  |false =>
   have ha:cE e (c::s)=c::cE e s:=by unfold cE;rw[List.takeWhile_cons_of_pos (by simp only[hc];decide)]
   have hb:c9 e (c::s)=c9 e s:=by unfold c9;rw[List.dropWhile_cons_of_pos (by simp only[hc];decide)]
   rw[ha,hb];rcases BX e s with⟨h1,h2,h3⟩|⟨n,h1,h2,h3,h4⟩
   ·refine .inl ⟨?_,by rw[h2],h3⟩
    rw[Lib.indexAny,am (by rw[hc];decide),h1];rfl
   ·refine .inr ⟨n+1,?_,by simp;omega,by rw[h3];rfl,by rw[h4];rfl⟩
    rw[Lib.indexAny,am (by rw[hc];decide),h1]
    rw[show(((n:Int) == -1)=false)from ak.2 (by omega)]
    simp only[Bool.false_eq_true,if_false];omega
theorem Ek(hI:zv):gm:=fun s e b w h hl he=>by
 have hul:=gN e s;have c0:=h.cell;have f0:=h.frozen;have HS:=aa h;have HI:=aa (hI s e w hl he);clear h he hI;rcases BX e s with⟨h1,h2,h3⟩|⟨n,h1,h2,h3,h4⟩
 ·rw[h1]at HI
  rw[h2,h3];clear h1 h2 h3 hul;have hsz:(ba s).size=s.length:=cV s;obtain⟨E,hE⟩ : ∃E,ba e=E:=⟨_,rfl⟩;rw[hE]at HI ⊢;clear hE;obtain⟨S,hS⟩ : ∃S,ba s=S:=⟨_,rfl⟩;rw[hS]at HI HS c0 hsz ⊢;have HZ:=aa hS;obtain⟨k,hk⟩ : ∃k,s.length=k:=⟨_,rfl⟩;rw[hk]at hsz hl;clear hS hk;go_enter Tryz.func129,Tryz.ntmps129
  go_wp2_with fail
  refine HI.out.mono ?_;rintro r w1⟨rfl,hb⟩;have HB:=aa hb;have hca:=HS.out.below hb;have q0:=hca.cell;have q1:=hca.frozen;clear hb hca c0 f0;go_wp2;have hx1:S.extract 0 k=S:=cp (by rw[cS,<-hsz,aF,cL,List.drop_zero])
  go_ret;exact⟨congrArg (fun x=>Ending.returned (Value.string x)) hx1,(dK.of_below HS.out HB.out).trans (dK.set (HS.out.below HB.out) (ba []))⟩
 ·rw[h1]at HI
  have hE1:ba (cE e s)=(ba s).extract 0 n:=cp (by rw[cS,bp,bp,h3,List.drop_zero])
  have hE2:ba (c9 e s)=(ba s).extract n s.length:=cp (by rw[cS,bp,bp,h4,cL])
  rw[hE1,hE2];clear h1 h3 h4 hE1 hE2 hul;have hsz:(ba s).size=s.length:=cV s;obtain⟨E,hE⟩ : ∃E,ba e=E:=⟨_,rfl⟩;rw[hE]at HI ⊢;clear hE;obtain⟨S,hS⟩ : ∃S,ba s=S:=⟨_,rfl⟩;rw[hS]at HI HS c0 hsz ⊢;obtain⟨k,hk⟩ : ∃k,s.length=k:=⟨_,rfl⟩;rw[hk]at hsz hl h2 ⊢;clear hS hk;have hn0:¬(n:Int)<0:=by omega
  go_enter Tryz.func129,Tryz.ntmps129
  go_wp2_with fail
  refine HI.out.mono ?_;rintro r w1⟨rfl,hb⟩;have HB:=aa hb;have hca:=HS.out.below hb;have q0:=hca.cell;have q1:=hca.frozen;clear hb hca c0 f0;go_wp2;go_ret;exact⟨rfl,(dK.of_below HS.out HB.out).trans (dK.set (HS.out.below HB.out) _)⟩
end
section
open Go.RowKit Go.Shelf
def Gu:Ren:={
 f:=fun x=>match x with|119 => 206 | 137 => 205 | 152 => 191 | 153 => 169 | 217 => 212 | 224 => 207 | 225 => 208 | 226 => 192 | 227 => 193 | 228 => 194 | 266 => 216 | n=>n
 t:=fun x=>match x with|0 => 0 | 3 => 3 | 4 => 4 | 5 => 5 | 9 => 9 | 21 => 21 | 46 => 112 | 116 => 189 | 117 => 190 | 124 => 205 | n=>n
 g:=fun x=>x }
theorem yL:Lays.n153 Tryz.prog Gu:={ mixed:=rfl,f119:=Tryz.func206.trans (congrArg some rfl),f137:=Tryz.func205.trans (congrArg some rfl),f152:=Tryz.func191.trans (congrArg some rfl),f153:=Tryz.func169.trans (congrArg some rfl),f217:=Tryz.func212.trans (congrArg some rfl),f224:=Tryz.func207.trans (congrArg some rfl),f225:=Tryz.func208.trans (congrArg some rfl),f226:=Tryz.func192.trans (congrArg some rfl),f227:=Tryz.func193.trans (congrArg some rfl),f228:=Tryz.func194.trans (congrArg some rfl),f266:=Tryz.func216.trans (congrArg some rfl),t0:=Tryz.underlying0,a0:=Tryz.isAgg0,z0:=Tryz.sizeOf0,v0:=Tryz.zeroValue0,t3:=Tryz.underlying3,a3:=Tryz.isAgg3,z3:=Tryz.sizeOf3,v3:=Tryz.zeroValue3,t4:=Tryz.underlying4,a4:=Tryz.isAgg4,z4:=Tryz.sizeOf4,v4:=Tryz.zeroValue4,t5:=Tryz.underlying5,a5:=Tryz.isAgg5,z5:=Tryz.sizeOf5,v5:=Tryz.zeroValue5,t9:=Tryz.underlying9,a9:=Tryz.isAgg9,z9:=Tryz.sizeOf9,v9:=Tryz.zeroValue9,t21:=Tryz.underlying21,a21:=Tryz.isAgg21,z21:=Tryz.sizeOf21,v21:=Tryz.zeroValue21,t46:=Tryz.underlying112,a46:=Tryz.isAgg112,z46:=Tryz.sizeOf112,v46:=Tryz.zeroValue112,t116:=Tryz.underlying189,a116:=Tryz.isAgg189,z116:=Tryz.sizeOf189,t117:=Tryz.underlying190,a117:=Tryz.isAgg190,z117:=Tryz.sizeOf190,v117:=Tryz.zeroValue190,t124:=Tryz.underlying205,a124:=Tryz.isAgg205,z124:=Tryz.sizeOf205,v124:=Tryz.zeroValue205 }
theorem DQ{e:List UInt8}(he:e=[60]∨e=[32,9,10]∨e=[32,9,10,61,47,62]):∀(j:Nat) b,(ba e).data.toList[j]? = some b->b.toNat<128:=fun j b h=>by
 rw[bp]at h;have hm:=List.mem_of_getElem? h;rcases he with rfl|rfl|rfl
 ·simp only[aW]at hm;subst hm;decide
 ·simp only[aU,bE,or_false]at hm
  rcases hm with rfl|rfl|rfl<;>decide
 ·simp only[aU,bE,or_false]at hm
  rcases hm with rfl|rfl|rfl|rfl|rfl|rfl<;>decide
theorem Fa(s:List UInt8)(w:World):Calls Tryz.prog 169 #[.string (ba s),.string (ba [60])] w fun r w'=>r=.returned (.int .i64 (Lib.indexAny s [60]))/\w'=w:=by
 have:=Any.strings_IndexAny_one yL (ba s) (ba [60]) w rfl (DQ (.inl rfl));rw[bp,bp]at this;exact this
theorem C7(s e:List UInt8)(w:World)(he:e=[60]∨e=[32,9,10]∨e=[32,9,10,61,47,62])(h2:2<=e.length)(h8:8<s.length)(hs:s.length<=100000):Calls Tryz.prog 169 #[.string (ba s),.string (ba e)] w fun r w'=>r=.returned (.int .i64 (Lib.indexAny s e))/\Below w.heap.size w w':=by
 have hel:e.length<=6:=by rcases he with rfl|rfl|rfl<;>decide
 have:=Any.strings_IndexAny_long yL (fun w=>by kernel_rfl) (by kernel_rfl) (ba s) (ba e) w (by rw[cV];exact h2) (by rw[cV];exact h8) (by rw[cV];omega) (by rw[cV];omega) (DQ he)
 rw[bp,bp]at this;refine this.mono fun r w' ⟨h1,h2⟩=>⟨h1,?_⟩;rw[h2];exact((ae _ _).alloc (af _) _).alloc ((ae _ _).alloc (af _) _).size _
def sd:Prop:=∀(s e:List UInt8) (w:World),s.length<=8->e=[32,9,10]∨e=[32,9,10,61,47,62]->Calls Tryz.prog 169 #[.string (ba s),.string (ba e)] w fun r w'=>r=.returned (.int .i64 (Lib.indexAny s e))/\Below w.heap.size w w'
theorem C6(hS:sd):zv:=fun s e w hl he=>by
 rcases he with rfl|he
 ·exact(Fa s w).mono fun r w' ⟨h1,h2⟩=>⟨h1,h2 ▸ ae _ _⟩
 ·by_cases h8:8<s.length
  ·exact C7 s e w (.inr he) (by rcases he with rfl|rfl<;>decide) h8 hl
  ·exact hS s e w (by omega) he
end
section
open Go.RowKit Go.Shelf
theorem Co(S:ByteArray)(r:Int)(h:128<=r)(h1:r≠65533)(hb:eA r=false)(w:World):Calls Tryz.prog 191 #[.string S,.int .i32 r] w fun e w'=>e=.returned (.int .i64 (-1))/\w'=w:=by
 have HV:=aa (gD r w);rw[hb]at HV;have h2:(0:Int)<=r:=by omega
 have h3:¬r<128:=by omega
 have h4:(r==65533)=false:=ak.2 h1;clear hb h h1;go_enter Tryz.func191,Tryz.ntmps191
 go_wp2_with fail
 refine HV.out.mono ?_;rintro e w1⟨rfl,hw⟩;subst hw;go_wp2;go_ret;exact⟨rfl,rfl⟩
theorem Cm(S:ByteArray)(hS:∀(j:Nat) b,S.data.toList[j]? = some b->b.toNat<128)(w:World):Calls Tryz.prog 191 #[.string S,.int .i32 65533] w fun e w'=>e=.returned (.int .i64 (-1))/\Below w.heap.size w w':=by
 have HA:=aa hS;clear hS;go_enter Tryz.func191,Tryz.ntmps191;go_wp2
 go_loopg [5,6] S.size (fun g _ _ wx => ∃i:Nat,i+g=S.size/\wx=w.iter S i)
 case atStart=>exact⟨0,by omega,rfl⟩
 case round =>
  obtain⟨i,hig,rfl⟩:=hrel;cases gk with
  |zero =>
   obtain rfl:i=S.size:=by omega
   have hnx:=run_next_end (P:=Tryz.prog) w S S.size;go_wp2;go_ret;exact⟨rfl,(ae _ _).alloc (af _) _⟩
  |succ g =>
   have hi:i<S.size:=by omega
   obtain⟨x,hx⟩ : ∃x:UInt8,S[i]'hi=x:=⟨_,rfl⟩;have hx128:x.toNat<128:=HA.out i x (by rw[<-hx];exact Lib.data_getElem? S i hi)
   have hnx:=fun ty=>run_next_ascii (P:=Tryz.prog) w S i ty hi (by rw[hx];exact hx128)
   rw[hx]at hnx;have hne:((x.toNat:Int)==65533)=false:=ak.2 (by omega)
   clear hx;go_wp2
   go_roundg g
   case measure=>omega
   case rel=>exact⟨i+1,by omega,rfl⟩
end
end Go.Proofs.YteinegfbpfhflaaGreatDoor
