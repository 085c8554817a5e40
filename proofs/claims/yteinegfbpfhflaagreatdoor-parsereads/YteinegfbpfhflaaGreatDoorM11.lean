/-
  Comments, targets, instructions, declarations and attributes: whether they are formed, by themselves. Conditions: the tables lie as they are laid, internal/bytealg.MaxLen holds some number; the texts are not too long.
  doc.declCopy and doc.attrCopy: copies of declarations and attributes. Conditions: the texts are not too long.
-/
import Derived.Test.YteinegfbpfhflaaGreatDoorM09
import Derived.Test.YteinegfbpfhflaaGreatDoorM10
import Derived.Deep.DeepCutAuto
import Derived.Deep.LoopGhost
namespace Go.Proofs.YteinegfbpfhflaaGreatDoor
open Go.RowKit
set_option linter.unusedVariables false
set_option maxRecDepth 100000
set_option maxHeartbeats 8000000
noncomputable def tR(S:ByteArray):Bool:=tx S&&(!jg S.data.toList [45,45] && !Lib.hasSuffix S.data.toList [45])
noncomputable def qz(S:ByteArray):Bool:=ic S && !Lib.equalFold S.data.toList [120,109,108]
def fb(S:ByteArray):Bool:=match S.data.toList with|c::_=>fq c | []=>false
noncomputable def zW(S:ByteArray):Bool:=tx S&&(!jg S.data.toList [63,62]&&(dZ S [] || !fb S))
theorem v8(S:ByteArray)(hlen:S.size<=2000000)(w:World)(hW:Wd w):Calls Tryz.prog 142 #[.string S] w fun e w'=>e=.returned (.bool (tR S))/\Below w.heap.size w w':=by
 have HT:=aa (ir S hlen w hW);have HC:Hid (∀w',Below w.heap.size w w'->Calls Tryz.prog 173 #[.string S,.string ⟨#[45,45]⟩] w' fun e w''=>e=.returned (.bool (jg S.data.toList [45,45]))/\w''=w'):=fun w' hb=>mD S ⟨#[45,45]⟩ w' (hW.later hb).max hlen;have HS:Hid (∀w',Calls Tryz.prog 180 #[.string S,.string ⟨#[45]⟩] w' fun e w''=>e=.returned (.bool (Lib.hasSuffix S.data.toList [45]))/\w''=w'):=fun w'=>wU S ⟨#[45]⟩ w' hlen;clear hW;unfold tR;generalize tx S=B1 at *;generalize jg S.data.toList [45,45]=B2 at *;generalize Lib.hasSuffix S.data.toList [45]=B3 at *;cases B1 with
 |false =>
  go_enter Tryz.func142,Tryz.ntmps142
  go_wp2_with fail
  refine HT.out.mono ?_;rintro e w1⟨rfl,hb1⟩;go_wp2;go_ret;exact⟨rfl,hb1⟩
 |true =>
  cases B2 with
  |true =>
   go_enter Tryz.func142,Tryz.ntmps142
   go_wp2_with fail
   refine HT.out.mono ?_;rintro e w1⟨rfl,hb1⟩
   go_wp2_with fail
   refine(HC.out w1 hb1).mono ?_;rintro e w2⟨rfl,hw2⟩;rw[hw2];go_wp2;go_ret;exact⟨rfl,hb1⟩
  |false =>
   go_enter Tryz.func142,Tryz.ntmps142
   go_wp2_with fail
   refine HT.out.mono ?_;rintro e w1⟨rfl,hb1⟩
   go_wp2_with fail
   refine(HC.out w1 hb1).mono ?_;rintro e w2⟨rfl,hw2⟩;rw[hw2];clear hw2
   go_wp2_with fail
   refine(HS.out w1).mono ?_;rintro e w2⟨rfl,hw2⟩;rw[hw2];go_wp2;go_ret;exact⟨by simp,hb1⟩
theorem wT(S:ByteArray)(hlen:S.size<=2000000)(w:World)(hW:Wd w):Calls Tryz.prog 143 #[.string S] w fun e w'=>e=.returned (.bool (qz S))/\Below w.heap.size w w':=by
 have HN:Hid (Calls Tryz.prog 170 #[.string S] w fun e w'=>e=.returned (.bool (ic S))/\Below w.heap.size w w'):=lz S hlen w hW.tabs;have HE:Hid (∀w',Below w.heap.size w w'->Calls Tryz.prog 125 #[.string S,.string ⟨#[120,109,108]⟩] w' fun e w''=>e=.returned (.bool (Lib.equalFold S.data.toList [120,109,108]))/\Below w'.heap.size w' w''):=fun w' hb=>Da S hlen w' (hW.later hb).fold;clear hW;unfold qz;generalize ic S=B1 at *;generalize Lib.equalFold S.data.toList [120,109,108]=B2 at *;cases B1 with
 |false =>
  go_enter Tryz.func143,Tryz.ntmps143
  go_wp2_with fail
  refine HN.out.mono ?_;rintro e w1⟨rfl,hb1⟩;go_wp2;go_ret;exact⟨rfl,hb1⟩
 |true =>
  go_enter Tryz.func143,Tryz.ntmps143
  go_wp2_with fail
  refine HN.out.mono ?_;rintro e w1⟨rfl,hb1⟩
  go_wp2_with fail
  refine(HE.out w1 hb1).mono ?_;rintro e w2⟨rfl,hb2⟩;go_wp2;go_ret;exact⟨by simp,hb1.trans (hb2.mono hb1.size)⟩
theorem F0{S:ByteArray}(h:dZ S []=false):∃c:UInt8,fb S=fq c/\∀w,(Instr.index 9 (.string S) (.int .i64 0)).run Tryz.prog w=.ok (.int .u8 (c.toNat:Int)) w:=by
 have hne:S.data.toList≠[]:=fun h'=>by rw[gi.2 h']at h;cases h
 have hl:0<S.data.toList.length:=bO.2 hne
 obtain⟨c,r,hs⟩ : ∃c r,S.data.toList=c::r:=by
  cases hs:S.data.toList with
  |nil=>exact absurd hs hne
  |cons c r=>exact⟨c,r,rfl⟩
 refine⟨c,by unfold fb;rw[hs],fun w => ?_⟩
 have h1:=cz S hl w;have h2:S.data.toList[0]=c:=Option.some.inj ((aw hl).symm.trans (by rw[hs];rfl))
 rw[h2]at h1;exact h1
theorem od(S:ByteArray)(hlen:S.size<=2000000)(w:World)(hW:Wd w):Calls Tryz.prog 144 #[.string S] w fun e w'=>e=.returned (.bool (zW S))/\Below w.heap.size w w':=by
 have HT:=aa (ir S hlen w hW);have HC:Hid (∀w',Below w.heap.size w w'->Calls Tryz.prog 173 #[.string S,.string ⟨#[63,62]⟩] w' fun e w''=>e=.returned (.bool (jg S.data.toList [63,62]))/\w''=w'):=fun w' hb=>mD S ⟨#[63,62]⟩ w' (hW.later hb).max hlen;clear hW;unfold zW;generalize tx S=B1 at *;generalize jg S.data.toList [63,62]=B2 at *;cases B1 with
 |false =>
  go_enter Tryz.func144,Tryz.ntmps144
  go_wp2_with fail
  refine HT.out.mono ?_;rintro e w1⟨rfl,hb1⟩;go_wp2;go_ret;exact⟨rfl,hb1⟩
 |true =>
  cases B2 with
  |true =>
   go_enter Tryz.func144,Tryz.ntmps144
   go_wp2_with fail
   refine HT.out.mono ?_;rintro e w1⟨rfl,hb1⟩
   go_wp2_with fail
   refine(HC.out w1 hb1).mono ?_;rintro e w2⟨rfl,hw2⟩;rw[hw2];go_wp2;go_ret;exact⟨rfl,hb1⟩
  |false =>
   cases h0:dZ S []with
   |true =>
    obtain⟨t1,t2⟩:=jk h0;go_enter Tryz.func144,Tryz.ntmps144
    go_wp2_with fail
    refine HT.out.mono ?_;rintro e w1⟨rfl,hb1⟩
    go_wp2_with fail
    refine(HC.out w1 hb1).mono ?_;rintro e w2⟨rfl,hw2⟩;rw[hw2];go_wp2;go_ret;exact⟨by simp,hb1⟩
   |false =>
    obtain⟨t1,t2⟩:=jk h0;obtain⟨c,hc,hix⟩:=F0 h0;rw[hc];have HB:Hid (∀w,Calls Tryz.prog 126 #[.int .u8 (c.toNat:Int)] w fun e w'=>e=.returned (.bool (fq c))/\w'=w):=fun w=>by rw[<-gj];exact gB _ w
    generalize fq c=B3 at *;clear hc h0;go_enter Tryz.func144,Tryz.ntmps144
    go_wp2_with fail
    refine HT.out.mono ?_;rintro e w1⟨rfl,hb1⟩
    go_wp2_with fail
    refine(HC.out w1 hb1).mono ?_;rintro e w2⟨rfl,hw2⟩;rw[hw2];clear hw2
    go_wp2_with fail
    refine(HB.out w1).mono ?_;rintro e w2⟨rfl,hw2⟩;rw[hw2];go_wp2;go_ret;exact⟨by simp,hb1⟩
def iA:List UInt8:=[120,109,108]
def dy:List UInt8:=[120,109,108,110,115]
def mV:List UInt8:=[104,116,116,112,58,47,47,119,119,119,46,119,51,46,111,114,103,47,88,77,76,47,49,57,57,56,47,110,97,109,101,115,112,97,99,101]
def oV:List UInt8:=[104,116,116,112,58,47,47,119,119,119,46,119,51,46,111,114,103,47,50,48,48,48,47,120,109,108,110,115,47]
noncomputable def eW(d:Dc):Bool:=fX d.p&&(!dZ d.p dy&&(tx d.u&&(!dZ d.u oV&&(!(dZ d.u [] && !dZ d.p [])&&(dZ d.p iA==dZ d.u mV)))))
noncomputable def gu(a:At):Bool:=!(dZ a.p []&&dZ a.l dy)&&(ic a.l&&(fX a.p&&tx a.v))
theorem eh{P:Program}{f:FuncId}{args:Array Value}{B:Nat}{a w':World}{R:Ending->Prop}(hB:B<=w'.heap.size)(hb:Below B a w')
 (h:Calls P f args w' fun e w''=>R e/\Below w'.heap.size w' w''):Calls P f args w' fun e w''=>R e/\Below B a w'' :=
 h.mono fun e w'' ⟨h1,h2⟩=>⟨h1,hb.trans (h2.mono hB)⟩
theorem aZ{w w1:World}{cs:Array Value}{t:TypeId}{fz:Nat×Nat}{j:Nat}{v:Value}(hb:Below (w.alloc (.cells cs t fz)).heap.size (w.alloc (.cells cs t fz)) w1)(hj:cs[j]? = some v):w1.cell? ⟨w.heap.size,j,none⟩=some v:=by
 rw[hb.cell (p:=⟨w.heap.size,j,none⟩) (by simp),ai _ w.heap.size j _ _ _ (ar w _)]
 exact hj
theorem bR{w w1:World}{o:Obj}(hb:Below (w.alloc o).heap.size (w.alloc o) w1):Below w.heap.size w w1 :=
 ((ae _ w).alloc (af _) o).trans (hb.mono (by simp))
theorem wQ(S:ByteArray)(l:List UInt8):∃b,dZ S l=b/\Hid ((S.toList==l)=b):=⟨_,rfl,rfl⟩
theorem gv(S:ByteArray):∃b,dZ S []=b/\Hid ((S.toList == [])=b/\S.toList.isEmpty=b):=⟨_,rfl,jk rfl⟩
theorem Du(d:Dc)(h1:d.p.size<=2000000)(h2:d.u.size<=2000000)(w:World)(hW:Wd w):Calls Tryz.prog 176 #[.agg #[.string d.p,.string d.u]] w fun e w'=>e=.returned (.bool (eW d))/\Below w.heap.size w w':=by
 have HP:Hid (∀w',Below w.heap.size w w'->Calls Tryz.prog 175 #[.string d.p] w' fun e w''=>e=.returned (.bool (fX d.p))/\Below w'.heap.size w' w''):=fun w' hb=>lv d.p h1 w' (hW.later hb);have HT:Hid (∀w',Below w.heap.size w w'->Calls Tryz.prog 141 #[.string d.u] w' fun e w''=>e=.returned (.bool (tx d.u))/\Below w'.heap.size w' w''):=fun w' hb=>ir d.u h2 w' (hW.later hb);clear hW;unfold eW;obtain⟨P,U⟩:=d;dsimp only at *;generalize fX P=B1 at *;generalize tx U=B3 at *;obtain⟨b1,e1,E1⟩:=wQ P dy;obtain⟨b2,e2,E2⟩:=wQ U oV;obtain⟨b3,e3,E3⟩:=gv U;obtain⟨b4,e4,E4⟩:=gv P;obtain⟨b5,e5,E5⟩:=wQ P iA;obtain⟨b6,e6,E6⟩:=wQ U mV;rw[e1,e2,e3,e4,e5,e6];clear e1 e2 e3 e4 e5 e6;unfold dy at E1;unfold oV at E2;unfold iA at E5;unfold mV at E6;go_enter Tryz.func176,Tryz.ntmps176
 go_wp2_with fail
 refine(HP.out _ ((ae _ _).alloc (af _) _)).mono ?_;rintro e w1⟨rfl,hb1⟩;have c0:=aZ (j:=0) hb1 rfl;have c1:=aZ (j:=1) hb1 rfl;have hbw:=bR hb1;cases B1 with
 |false =>
  go_wp2;go_ret;exact⟨rfl,hbw⟩
 |true =>
  have t1:=E1.out;cases b1 with
  |true =>
   go_wp2;go_ret;exact⟨rfl,hbw⟩
  |false =>
   go_wp2_with fail
   refine(eh hb1.size hb1 (HT.out _ hbw)).mono ?_;rintro e w2⟨rfl,hb2⟩;replace c0:=aZ (j:=0) hb2 rfl;replace c1:=aZ (j:=1) hb2 rfl;replace hbw:=bR hb2;clear hb1;cases B3 with
   |false =>
    go_wp2;go_ret;exact⟨rfl,hbw⟩
   |true =>
    have t2:=E2.out;cases b2 with
    |true =>
     go_wp2;go_ret;exact⟨rfl,hbw⟩
    |false =>
     obtain⟨t3,t3'⟩:=E3.out;obtain⟨t4,t4'⟩:=E4.out;have t5:=E5.out;have t6:=E6.out;cases b3 with
     |true =>
      cases b4 with
      |false =>
       go_wp2;go_ret;exact⟨rfl,hbw⟩
      |true =>
       go_wp2;go_ret;exact⟨rfl,hbw⟩
     |false =>
      go_wp2;go_ret;exact⟨rfl,hbw⟩
theorem aL{w:World}{b j:Nat}{cs:Array Value}{t:TypeId}{fz:Nat×Nat}{v:Value}(h:w.heap[b]? = some (.cells cs t fz)):(w.setCell ⟨b,j,none⟩ v).heap[b]? = some (.cells (cs.setIfInBounds j v) t fz):=by
 simp only[World.setCell,Array.getElem?_modify,if_true,h,Option.map_some]
 rfl
theorem gn{K:Act->World->Prop}{a b:Act}{w:World}(h:K a w)(e:a=b):K b w:=e ▸ h
def qH(q:Nat)(P:ByteArray)(U:ByteArray):Nat->Value
 |0 => .pointer (some ⟨q,0,none⟩)
 |1 => .string P
 |2 => .string P
 |3 => .pointer (some ⟨q,1,none⟩)
 |4 => .string U
 |5 => .string U
 |6 => .agg #[.string P,.string U]
 |_=>undef
theorem tL(P:ByteArray)(U:ByteArray)(hP:P.size<=2000000)(hU:U.size<=2000000)(w:World):Calls Tryz.prog 71 #[.agg #[.string P,.string U]] w fun e w'=>e=.returned (.agg #[.string P,.string U])/\Below w.heap.size w w':=by
 have HP:=aa (fun w'=>dE P hP w');have HU:=aa (fun w'=>dE U hU w');go_enter Tryz.func71,Tryz.ntmps71
 go_wp2_with fail
 obtain⟨W0,hW0⟩ : ∃W0,(w.alloc (Obj.cells #[.string P,.string U] 48)).alloc (Obj.cells #[.string ⟨#[]⟩,.string ⟨#[]⟩] 48)=W0:=⟨_,rfl⟩;have hWb:Below w.heap.size w W0:=by rw[<-hW0];exact((ae _ _).alloc (af _) _).alloc (by simp) _
 have hq:∀j v,(#[Value.string P,Value.string U] : Array Value)[j]? = some v->W0.cell? ⟨w.heap.size,j,none⟩=some v:=fun j v hv=>by
  rw[<-hW0];exact aZ (((ae _ _).alloc (af _) _)) hv
 have hr:W0.heap[w.heap.size+1]? = some (.cells #[.string ⟨#[]⟩,.string ⟨#[]⟩] 48):=by
  rw[<-hW0];have:=ar (w.alloc (Obj.cells #[.string P,.string U] 48)) (Obj.cells #[.string ⟨#[]⟩,.string ⟨#[]⟩] 48);simpa using this
 have hql:w.heap.size<W0.heap.size:=by rw[<-hW0];simp;omega
 have hrl:w.heap.size+1<W0.heap.size:=by rw[<-hW0];simp
 have hwr:w.heap.size<=w.heap.size+1:=by omega
 rw[hW0];clear hW0;generalize w.heap.size+1=r at *;obtain⟨q,hqE⟩ : ∃q,w.heap.size=q:=⟨_,rfl⟩;have HQE:=aa hqE;rw[hqE]at hWb hq hql hwr ⊢;clear hqE
 go_cut [] (fun wx=>wx.heap[r]? = some (.cells #[.string P,.string U] 48)/\Below q w wx)
 case first =>
  refine jB (n:=7) (by kernel_rfl) rfl (by kernel_rfl) (by kernel_rfl) (fun f => { tmps:=#[.agg #[.string P,.string U],.pointer (some ⟨q,0,none⟩),.pointer (some ⟨r,0,none⟩),f 0,f 1,f 2,f 3,f 4,f 5,f 6],defers:=[] }) (fun i v _=>v=qH q P U i) (Below W0.heap.size W0) (fun _=>undef) W0 (fun _ _ _ _ h _=>h) (ae _ _).drew ?step ?last
  case step =>
   intro i hi f x hG hF K hK;have hc:∀j v,W0.cell? ⟨q,j,none⟩=some v->x.cell? ⟨q,j,none⟩=some v:=fun j v h=>(hG.cell (p:=⟨q,j,none⟩) hql).trans h
   match i,hi with
   |0,_ =>
    refine bF rfl rfl ?_
    try dsimp only
    go_simp
    exact hK (.pointer (some ⟨q,0,none⟩)) x rfl hG (ae _ _)
   |1,_ =>
    have e0:f 0=.pointer (some ⟨q,0,none⟩):=hF 0 (by kernel_rfl)
    have c0:=hc 0 _ (hq 0 _ rfl);refine bF rfl rfl ?_
    try dsimp only
    go_simp
    refine gn (hK (.string P) x rfl hG (ae _ _)) ?_;simp[kG,e0]
   |2,_ =>
    have e0:f 1=.string P:=hF 1 (by kernel_rfl)
    refine bF rfl rfl ?_
    try dsimp only
    go_simp
    refine(HP.out x).mono ?_;rintro e x1⟨rfl,hb1⟩
    try dsimp only
    refine gn (hK (.string P) x1 rfl (hG.trans (hb1.mono hG.size)) hb1) ?_;simp[kG,e0]
   |3,_ =>
    refine bF rfl rfl ?_
    try dsimp only
    go_simp
    exact hK (.pointer (some ⟨q,1,none⟩)) x rfl hG (ae _ _)
   |4,_ =>
    have e0:f 3=.pointer (some ⟨q,1,none⟩):=hF 3 (by kernel_rfl)
    have c0:=hc 1 _ (hq 1 _ rfl);refine bF rfl rfl ?_
    try dsimp only
    go_simp
    refine gn (hK (.string U) x rfl hG (ae _ _)) ?_;simp[kG,e0]
   |5,_ =>
    have e0:f 4=.string U:=hF 4 (by kernel_rfl)
    refine bF rfl rfl ?_
    try dsimp only
    go_simp
    refine(HU.out x).mono ?_;rintro e x1⟨rfl,hb1⟩
    try dsimp only
    refine gn (hK (.string U) x1 rfl (hG.trans (hb1.mono hG.size)) hb1) ?_;simp[kG,e0]
   |6,_ =>
    have e0:f 2=.string P:=hF 2 (by kernel_rfl)
    have e1:f 5=.string U:=hF 5 (by kernel_rfl)
    refine bF rfl rfl ?_
    try dsimp only
    go_simp
    refine gn (hK (.agg #[.string P,.string U]) x rfl hG (ae _ _)) ?_;simp[kG,e0,e1]
  case last =>
   intro f x hG hF K hK;have e0:f 6=.agg #[.string P,.string U]:=hF 6 (by omega)
   have hrx:x.heap[r]? = some (.cells #[.string ⟨#[]⟩,.string ⟨#[]⟩] 48):=(hG.block r hrl).trans hr;have hrc:∀j v,(#[Value.string ⟨#[]⟩,Value.string ⟨#[]⟩] : Array Value)[j]? = some v->x.cell? ⟨r,j,none⟩=some v:=fun j v hv=>by rw[ai x r j _ _ _ hrx];exact hv
   have g0:=hrc 0 _ rfl;have g1:=hrc 1 _ rfl;have hfz:∀j,x.frozen? ⟨r,j,none⟩=false:=fun j=>by unfold World.frozen?;rw[hrx];simp
   refine bF rfl rfl ?_
   try dsimp only
   clear hrc hF
   go_simp
   refine hK _ _ ?_
   go_wp2_with fail
   go_meet
   exact⟨aL (aL (hrx)),(((hWb.trans (hG.mono (be hql))).setCell (p:=⟨r,0,none⟩) hwr _).setCell (p:=⟨r,1,none⟩) hwr _)⟩
 case rest =>
  obtain⟨hx,hb⟩:=hcut;have g0:wc.cell? ⟨r,0,none⟩=some (.string P):=by rw[ai wc r 0 _ _ _ hx];rfl
  have g1:wc.cell? ⟨r,1,none⟩=some (.string U):=by rw[ai wc r 1 _ _ _ hx];rfl
  go_wp2;refine bodyPost_ret (v:=.agg #[.string P,.string U]) (by simp[results,Tryz.results71,go_sem,g0,g1]) rfl ⟨rfl,by rw[HQE.out];exact hb⟩
def qK(q:Nat)(P:ByteArray)(L:ByteArray)(U:ByteArray)(V:ByteArray):Nat->Value
 |0 => .pointer (some ⟨q,0,none⟩)
 |1 => .string P
 |2 => .string P
 |3 => .pointer (some ⟨q,1,none⟩)
 |4 => .string L
 |5 => .string L
 |6 => .pointer (some ⟨q,2,none⟩)
 |7 => .string U
 |8 => .string U
 |9 => .pointer (some ⟨q,3,none⟩)
 |10 => .string V
 |11 => .string V
 |12 => .agg #[.string P,.string L,.string U,.string V]
 |_=>undef
theorem tV(P:ByteArray)(L:ByteArray)(U:ByteArray)(V:ByteArray)(hP:P.size<=2000000)(hL:L.size<=2000000)(hU:U.size<=2000000)(hV:V.size<=2000000)(w:World):Calls Tryz.prog 73 #[.agg #[.string P,.string L,.string U,.string V]] w fun e w'=>e=.returned (.agg #[.string P,.string L,.string U,.string V])/\Below w.heap.size w w':=by
 have HP:=aa (fun w'=>dE P hP w');have HL:=aa (fun w'=>dE L hL w');have HU:=aa (fun w'=>dE U hU w');have HV:=aa (fun w'=>dE V hV w');go_enter Tryz.func73,Tryz.ntmps73
 go_wp2_with fail
 obtain⟨W0,hW0⟩ : ∃W0,(w.alloc (Obj.cells #[.string P,.string L,.string U,.string V] 73)).alloc (Obj.cells #[.string ⟨#[]⟩,.string ⟨#[]⟩,.string ⟨#[]⟩,.string ⟨#[]⟩] 73)=W0:=⟨_,rfl⟩;have hWb:Below w.heap.size w W0:=by rw[<-hW0];exact((ae _ _).alloc (af _) _).alloc (by simp) _
 have hq:∀j v,(#[Value.string P,Value.string L,Value.string U,Value.string V] : Array Value)[j]? = some v->W0.cell? ⟨w.heap.size,j,none⟩=some v:=fun j v hv=>by
  rw[<-hW0];exact aZ (((ae _ _).alloc (af _) _)) hv
 have hr:W0.heap[w.heap.size+1]? = some (.cells #[.string ⟨#[]⟩,.string ⟨#[]⟩,.string ⟨#[]⟩,.string ⟨#[]⟩] 73):=by
  rw[<-hW0];have:=ar (w.alloc (Obj.cells #[.string P,.string L,.string U,.string V] 73)) (Obj.cells #[.string ⟨#[]⟩,.string ⟨#[]⟩,.string ⟨#[]⟩,.string ⟨#[]⟩] 73);simpa using this
 have hql:w.heap.size<W0.heap.size:=by rw[<-hW0];simp;omega
 have hrl:w.heap.size+1<W0.heap.size:=by rw[<-hW0];simp
 have hwr:w.heap.size<=w.heap.size+1:=by omega
 rw[hW0];clear hW0;generalize w.heap.size+1=r at *;obtain⟨q,hqE⟩ : ∃q,w.heap.size=q:=⟨_,rfl⟩;have HQE:=aa hqE;rw[hqE]at hWb hq hql hwr ⊢;clear hqE
 go_cut [] (fun wx=>wx.heap[r]? = some (.cells #[.string P,.string L,.string U,.string V] 73)/\Below q w wx)
 case first =>
  refine jB (n:=13) (by kernel_rfl) rfl (by kernel_rfl) (by kernel_rfl) (fun f => { tmps:=#[.agg #[.string P,.string L,.string U,.string V],.pointer (some ⟨q,0,none⟩),.pointer (some ⟨r,0,none⟩),f 0,f 1,f 2,f 3,f 4,f 5,f 6,f 7,f 8,f 9,f 10,f 11,f 12],defers:=[] }) (fun i v _=>v=qK q P L U V i) (Below W0.heap.size W0) (fun _=>undef) W0 (fun _ _ _ _ h _=>h) (ae _ _).drew ?step ?last
  case step =>
   intro i hi f x hG hF K hK;have hc:∀j v,W0.cell? ⟨q,j,none⟩=some v->x.cell? ⟨q,j,none⟩=some v:=fun j v h=>(hG.cell (p:=⟨q,j,none⟩) hql).trans h
   match i,hi with
   |0,_ =>
    refine bF rfl rfl ?_
    try dsimp only
    go_simp
    exact hK (.pointer (some ⟨q,0,none⟩)) x rfl hG (ae _ _)
   |1,_ =>
    have e0:f 0=.pointer (some ⟨q,0,none⟩):=hF 0 (by kernel_rfl)
    have c0:=hc 0 _ (hq 0 _ rfl);refine bF rfl rfl ?_
    try dsimp only
    go_simp
    refine gn (hK (.string P) x rfl hG (ae _ _)) ?_;simp[kG,e0]
   |2,_ =>
    have e0:f 1=.string P:=hF 1 (by kernel_rfl)
    refine bF rfl rfl ?_
    try dsimp only
    go_simp
    refine(HP.out x).mono ?_;rintro e x1⟨rfl,hb1⟩
    try dsimp only
    refine gn (hK (.string P) x1 rfl (hG.trans (hb1.mono hG.size)) hb1) ?_;simp[kG,e0]
   |3,_ =>
    refine bF rfl rfl ?_
    try dsimp only
    go_simp
    exact hK (.pointer (some ⟨q,1,none⟩)) x rfl hG (ae _ _)
   |4,_ =>
    have e0:f 3=.pointer (some ⟨q,1,none⟩):=hF 3 (by kernel_rfl)
    have c0:=hc 1 _ (hq 1 _ rfl);refine bF rfl rfl ?_
    try dsimp only
    go_simp
    refine gn (hK (.string L) x rfl hG (ae _ _)) ?_;simp[kG,e0]
   |5,_ =>
    have e0:f 4=.string L:=hF 4 (by kernel_rfl)
    refine bF rfl rfl ?_
    try dsimp only
    go_simp
    refine(HL.out x).mono ?_;rintro e x1⟨rfl,hb1⟩
    try dsimp only
    refine gn (hK (.string L) x1 rfl (hG.trans (hb1.mono hG.size)) hb1) ?_;simp[kG,e0]
   |6,_ =>
    refine bF rfl rfl ?_
    try dsimp only
    go_simp
    exact hK (.pointer (some ⟨q,2,none⟩)) x rfl hG (ae _ _)
   |7,_ =>
    have e0:f 6=.pointer (some ⟨q,2,none⟩):=hF 6 (by kernel_rfl)
    have c0:=hc 2 _ (hq 2 _ rfl);refine bF rfl rfl ?_
    try dsimp only
    go_simp
    refine gn (hK (.string U) x rfl hG (ae _ _)) ?_;simp[kG,e0]
   |8,_ =>
    have e0:f 7=.string U:=hF 7 (by kernel_rfl)
    refine bF rfl rfl ?_
    try dsimp only
    go_simp
    refine(HU.out x).mono ?_;rintro e x1⟨rfl,hb1⟩
    try dsimp only
    refine gn (hK (.string U) x1 rfl (hG.trans (hb1.mono hG.size)) hb1) ?_;simp[kG,e0]
   |9,_ =>
    refine bF rfl rfl ?_
    try dsimp only
    go_simp
    exact hK (.pointer (some ⟨q,3,none⟩)) x rfl hG (ae _ _)
   |10,_ =>
    have e0:f 9=.pointer (some ⟨q,3,none⟩):=hF 9 (by kernel_rfl)
    have c0:=hc 3 _ (hq 3 _ rfl);refine bF rfl rfl ?_
    try dsimp only
    go_simp
    refine gn (hK (.string V) x rfl hG (ae _ _)) ?_;simp[kG,e0]
   |11,_ =>
    have e0:f 10=.string V:=hF 10 (by kernel_rfl)
    refine bF rfl rfl ?_
    try dsimp only
    go_simp
    refine(HV.out x).mono ?_;rintro e x1⟨rfl,hb1⟩
    try dsimp only
    refine gn (hK (.string V) x1 rfl (hG.trans (hb1.mono hG.size)) hb1) ?_;simp[kG,e0]
   |12,_ =>
    have e0:f 2=.string P:=hF 2 (by kernel_rfl)
    have e1:f 5=.string L:=hF 5 (by kernel_rfl)
    have e2:f 8=.string U:=hF 8 (by kernel_rfl)
    have e3:f 11=.string V:=hF 11 (by kernel_rfl)
    refine bF rfl rfl ?_
    try dsimp only
    go_simp
    refine gn (hK (.agg #[.string P,.string L,.string U,.string V]) x rfl hG (ae _ _)) ?_;simp[kG,e0,e1,e2,e3]
  case last =>
   intro f x hG hF K hK;have e0:f 12=.agg #[.string P,.string L,.string U,.string V]:=hF 12 (by omega)
   have hrx:x.heap[r]? = some (.cells #[.string ⟨#[]⟩,.string ⟨#[]⟩,.string ⟨#[]⟩,.string ⟨#[]⟩] 73):=(hG.block r hrl).trans hr;have hrc:∀j v,(#[Value.string ⟨#[]⟩,Value.string ⟨#[]⟩,Value.string ⟨#[]⟩,Value.string ⟨#[]⟩] : Array Value)[j]? = some v->x.cell? ⟨r,j,none⟩=some v:=fun j v hv=>by rw[ai x r j _ _ _ hrx];exact hv
   have g0:=hrc 0 _ rfl;have g1:=hrc 1 _ rfl;have g2:=hrc 2 _ rfl;have g3:=hrc 3 _ rfl;have hfz:∀j,x.frozen? ⟨r,j,none⟩=false:=fun j=>by unfold World.frozen?;rw[hrx];simp
   refine bF rfl rfl ?_
   try dsimp only
   clear hrc hF
   go_simp
   refine hK _ _ ?_
   go_wp2_with fail
   go_meet
   exact⟨aL (aL (aL (aL (hrx)))),(((((hWb.trans (hG.mono (be hql))).setCell (p:=⟨r,0,none⟩) hwr _).setCell (p:=⟨r,1,none⟩) hwr _).setCell (p:=⟨r,2,none⟩) hwr _).setCell (p:=⟨r,3,none⟩) hwr _)⟩
 case rest =>
  obtain⟨hx,hb⟩:=hcut;have g0:wc.cell? ⟨r,0,none⟩=some (.string P):=by rw[ai wc r 0 _ _ _ hx];rfl
  have g1:wc.cell? ⟨r,1,none⟩=some (.string L):=by rw[ai wc r 1 _ _ _ hx];rfl
  have g2:wc.cell? ⟨r,2,none⟩=some (.string U):=by rw[ai wc r 2 _ _ _ hx];rfl
  have g3:wc.cell? ⟨r,3,none⟩=some (.string V):=by rw[ai wc r 3 _ _ _ hx];rfl
  go_wp2;refine bodyPost_ret (v:=.agg #[.string P,.string L,.string U,.string V]) (by simp[results,Tryz.results73,go_sem,g0,g1,g2,g3]) rfl ⟨rfl,by rw[HQE.out];exact hb⟩
end Go.Proofs.YteinegfbpfhflaaGreatDoor
