/-
  Comments, targets, instructions, declarations and attributes: whether they are formed, by themselves. Conditions: the tables lie as they are laid, internal/bytealg.MaxLen holds some number; the texts are not too long.
  doc.declCopy and doc.attrCopy: copies of declarations and attributes. Conditions: the texts are not too long.
-/
import Derived.Test.YtlgcigmolfhamaaGreatDoorK09
import Derived.Test.YtlgcigmolfhamaaGreatDoorK10
import Derived.Deep.DeepCutAuto
import Derived.Deep.LoopGhost
namespace Go.Proofs.YtlgcigmolfhamaaGreatDoor
open Go.RowKit
set_option linter.unusedVariables false
set_option maxRecDepth 100000
set_option maxHeartbeats 8000000
noncomputable def b2L(S:ByteArray):Bool:=tx S&&(!a0V S.data.toList [45,45] && !Lib.hasSuffix S.data.toList [45])
noncomputable def a6f(S:ByteArray):Bool:=nmS S && !Lib.equalFold S.data.toList [120,109,108]
def fb(S:ByteArray):Bool:=match S.data.toList with|c::_=>X0 c | []=>false
noncomputable def b2d(S:ByteArray):Bool:=tx S&&(!a0V S.data.toList [63,62]&&(N4 S [] || !fb S))
theorem b1l(S:ByteArray)(D0:S.size<=2000000)(w:World)(hW:Wd w):Calls Tryz.prog 170 #[.string S] w fun e w'=>e=.returned (.bool (b2L S))/\Below w.heap.size w w':=by
 have HT:=a8 (a1j S D0 w hW);have HC:Hid (∀w',Below w.heap.size w w'->Calls Tryz.prog 202 #[.string S,.string ⟨#[45,45]⟩] w' fun e w''=>e=.returned (.bool (a0V S.data.toList [45,45]))/\w''=w'):=fun w' hb=>a4x S ⟨#[45,45]⟩ w' (hW.later hb).max D0;have HS:Hid (∀w',Calls Tryz.prog 209 #[.string S,.string ⟨#[45]⟩] w' fun e w''=>e=.returned (.bool (Lib.hasSuffix S.data.toList [45]))/\w''=w'):=fun w'=>b1S S ⟨#[45]⟩ w' D0;clear hW;unfold b2L;generalize tx S=B1 at *;generalize a0V S.data.toList [45,45]=B2 at *;generalize Lib.hasSuffix S.data.toList [45]=B3 at *;cases B1 with
 |false =>
  go_enter Tryz.func170,Tryz.ntmps170
  go_wp2_with fail
  refine HT.out.mono ?_;rintro e w1⟨rfl,D1⟩;go_wp2;go_ret;exact⟨rfl,D1⟩
 |true =>
  cases B2 with
  |true =>
   go_enter Tryz.func170,Tryz.ntmps170
   go_wp2_with fail
   refine HT.out.mono ?_;rintro e w1⟨rfl,D1⟩
   go_wp2_with fail
   refine(HC.out w1 D1).mono ?_;rintro e w2⟨rfl,D2⟩;rw[D2];go_wp2;go_ret;exact⟨rfl,D1⟩
  |false =>
   go_enter Tryz.func170,Tryz.ntmps170
   go_wp2_with fail
   refine HT.out.mono ?_;rintro e w1⟨rfl,D1⟩
   go_wp2_with fail
   refine(HC.out w1 D1).mono ?_;rintro e w2⟨rfl,D2⟩;rw[D2];clear D2
   go_wp2_with fail
   refine(HS.out w1).mono ?_;rintro e w2⟨rfl,D2⟩;rw[D2];go_wp2;go_ret;exact⟨by simp,D1⟩
theorem b1R(S:ByteArray)(D0:S.size<=2000000)(w:World)(hW:Wd w):Calls Tryz.prog 171 #[.string S] w fun e w'=>e=.returned (.bool (a6f S))/\Below w.heap.size w w':=by
 have HN:Hid (Calls Tryz.prog 199 #[.string S] w fun e w'=>e=.returned (.bool (nmS S))/\Below w.heap.size w w'):=a3K S D0 w hW.tabs;have HE:Hid (∀w',Below w.heap.size w w'->Calls Tryz.prog 153 #[.string S,.string ⟨#[120,109,108]⟩] w' fun e w''=>e=.returned (.bool (Lib.equalFold S.data.toList [120,109,108]))/\Below w'.heap.size w' w''):=fun w' hb=>b6R S D0 w' (hW.later hb).fold;clear hW;unfold a6f;generalize nmS S=B1 at *;generalize Lib.equalFold S.data.toList [120,109,108]=B2 at *;cases B1 with
 |false =>
  go_enter Tryz.func171,Tryz.ntmps171
  go_wp2_with fail
  refine HN.out.mono ?_;rintro e w1⟨rfl,D1⟩;go_wp2;go_ret;exact⟨rfl,D1⟩
 |true =>
  go_enter Tryz.func171,Tryz.ntmps171
  go_wp2_with fail
  refine HN.out.mono ?_;rintro e w1⟨rfl,D1⟩
  go_wp2_with fail
  refine(HE.out w1 D1).mono ?_;rintro e w2⟨rfl,D2⟩;go_wp2;go_ret;exact⟨by simp,D1.trans (D2.mono D1.size)⟩
theorem b9t{S:ByteArray}(h:N4 S []=false):∃c:UInt8,fb S=X0 c/\∀w,(Instr.index 9 (.string S) (.int .i64 0)).run Tryz.prog w=.ok (.int .u8 (c.toNat:Int)) w:=by
 have D0:S.data.toList≠[]:=fun h'=>by rw[a0p.2 h']at h;cases h
 have hl:0<S.data.toList.length:=D7.2 D0
 obtain⟨c,r,hs⟩ : ∃c r,S.data.toList=c::r:=by
  cases hs:S.data.toList with
  |nil=>exact absurd hs D0
  |cons c r=>exact⟨c,r,rfl⟩
 refine⟨c,by unfold fb;rw[hs],fun w => ?_⟩
 have h1:=G7 S hl w;have h2:S.data.toList[0]=c:=Option.some.inj ((i5 hl).symm.trans (by rw[hs];rfl))
 rw[h2]at h1;exact h1
theorem a5y(S:ByteArray)(D2:S.size<=2000000)(w:World)(hW:Wd w):Calls Tryz.prog 172 #[.string S] w fun e w'=>e=.returned (.bool (b2d S))/\Below w.heap.size w w':=by
 have HT:=a8 (a1j S D2 w hW);have HC:Hid (∀w',Below w.heap.size w w'->Calls Tryz.prog 202 #[.string S,.string ⟨#[63,62]⟩] w' fun e w''=>e=.returned (.bool (a0V S.data.toList [63,62]))/\w''=w'):=fun w' hb=>a4x S ⟨#[63,62]⟩ w' (hW.later hb).max D2;clear hW;unfold b2d;generalize tx S=B1 at *;generalize a0V S.data.toList [63,62]=B2 at *;cases B1 with
 |false =>
  go_enter Tryz.func172,Tryz.ntmps172
  go_wp2_with fail
  refine HT.out.mono ?_;rintro e w1⟨rfl,D0⟩;go_wp2;go_ret;exact⟨rfl,D0⟩
 |true =>
  cases B2 with
  |true =>
   go_enter Tryz.func172,Tryz.ntmps172
   go_wp2_with fail
   refine HT.out.mono ?_;rintro e w1⟨rfl,D0⟩
   go_wp2_with fail
   refine(HC.out w1 D0).mono ?_;rintro e w2⟨rfl,D1⟩;rw[D1];go_wp2;go_ret;exact⟨rfl,D0⟩
  |false =>
   cases h0:N4 S []with
   |true =>
    obtain⟨t1,t2⟩:=a13 h0;go_enter Tryz.func172,Tryz.ntmps172
    go_wp2_with fail
    refine HT.out.mono ?_;rintro e w1⟨rfl,D0⟩
    go_wp2_with fail
    refine(HC.out w1 D0).mono ?_;rintro e w2⟨rfl,D1⟩;rw[D1];go_wp2;go_ret;exact⟨by simp,D0⟩
   |false =>
    obtain⟨t1,t2⟩:=a13 h0;obtain⟨c,hc,D3⟩:=b9t h0;rw[hc];have HB:Hid (∀w,Calls Tryz.prog 154 #[.int .u8 (c.toNat:Int)] w fun e w'=>e=.returned (.bool (X0 c))/\w'=w):=fun w=>by rw[<-a0r];exact a0E _ w
    generalize X0 c=B3 at *;clear hc h0;go_enter Tryz.func172,Tryz.ntmps172
    go_wp2_with fail
    refine HT.out.mono ?_;rintro e w1⟨rfl,D0⟩
    go_wp2_with fail
    refine(HC.out w1 D0).mono ?_;rintro e w2⟨rfl,D1⟩;rw[D1];clear D1
    go_wp2_with fail
    refine(HB.out w1).mono ?_;rintro e w2⟨rfl,D1⟩;rw[D1];go_wp2;go_ret;exact⟨by simp,D0⟩
def a1K:List UInt8:=[120,109,108]
def L2:List UInt8:=[120,109,108,110,115]
def a3T:List UInt8:=[104,116,116,112,58,47,47,119,119,119,46,119,51,46,111,114,103,47,88,77,76,47,49,57,57,56,47,110,97,109,101,115,112,97,99,101]
def a4K:List UInt8:=[104,116,116,112,58,47,47,119,119,119,46,119,51,46,111,114,103,47,50,48,48,48,47,120,109,108,110,115,47]
noncomputable def T6(d:Dc):Bool:=a0g d.p&&(!N4 d.p L2&&(tx d.u&&(!N4 d.u a4K&&(!(N4 d.u [] && !N4 d.p [])&&(N4 d.p a1K==N4 d.u a3T)))))
noncomputable def a0y(a:At):Bool:=!(N4 a.p []&&N4 a.l L2)&&(nmS a.l&&(a0g a.p&&tx a.v))
theorem Q5{P:Program}{f:FuncId}{args:Array Value}{B:Nat}{a w':World}{R:Ending->Prop}(hB:B<=w'.heap.size)(hb:Below B a w')
 (h:Calls P f args w' fun e w''=>R e/\Below w'.heap.size w' w''):Calls P f args w' fun e w''=>R e/\Below B a w'' :=
 h.mono fun e w'' ⟨h1,h2⟩=>⟨h1,hb.trans (h2.mono hB)⟩
theorem v8{w w1:World}{cs:Array Value}{t:TypeId}{fz:Nat×Nat}{j:Nat}{v:Value}(hb:Below (w.alloc (.cells cs t fz)).heap.size (w.alloc (.cells cs t fz)) w1)(hj:cs[j]? = some v):w1.cell? ⟨w.heap.size,j,none⟩=some v:=by
 rw[hb.cell (p:=⟨w.heap.size,j,none⟩) (by simp),d9 _ w.heap.size j _ _ _ (g9 w _)]
 exact hj
theorem E8{w w1:World}{o:Obj}(hb:Below (w.alloc o).heap.size (w.alloc o) w1):Below w.heap.size w w1 :=
 ((b8 _ w).alloc (c9 _) o).trans (hb.mono (by simp))
theorem tst(S:ByteArray)(l:List UInt8):∃b,N4 S l=b/\Hid ((S.toList==l)=b):=⟨_,rfl,rfl⟩
theorem a0z(S:ByteArray):∃b,N4 S []=b/\Hid ((S.toList == [])=b/\S.toList.isEmpty=b):=⟨_,rfl,a13 rfl⟩
theorem b7c(d:Dc)(h1:d.p.size<=2000000)(h2:d.u.size<=2000000)(w:World)(hW:Wd w):Calls Tryz.prog 205 #[.agg #[.string d.p,.string d.u]] w fun e w'=>e=.returned (.bool (T6 d))/\Below w.heap.size w w':=by
 have HP:Hid (∀w',Below w.heap.size w w'->Calls Tryz.prog 204 #[.string d.p] w' fun e w''=>e=.returned (.bool (a0g d.p))/\Below w'.heap.size w' w''):=fun w' hb=>a3H d.p h1 w' (hW.later hb);have HT:Hid (∀w',Below w.heap.size w w'->Calls Tryz.prog 169 #[.string d.u] w' fun e w''=>e=.returned (.bool (tx d.u))/\Below w'.heap.size w' w''):=fun w' hb=>a1j d.u h2 w' (hW.later hb);clear hW;unfold T6;obtain⟨P,U⟩:=d;dsimp only at *;generalize a0g P=B1 at *;generalize tx U=B3 at *;obtain⟨b1,e1,E1⟩:=tst P L2;obtain⟨b2,e2,E2⟩:=tst U a4K;obtain⟨b3,e3,E3⟩:=a0z U;obtain⟨b4,e4,E4⟩:=a0z P;obtain⟨b5,e5,E5⟩:=tst P a1K;obtain⟨b6,e6,E6⟩:=tst U a3T;rw[e1,e2,e3,e4,e5,e6];clear e1 e2 e3 e4 e5 e6;unfold L2 at E1;unfold a4K at E2;unfold a1K at E5;unfold a3T at E6;go_enter Tryz.func205,Tryz.ntmps205
 go_wp2_with fail
 refine(HP.out _ ((b8 _ _).alloc (c9 _) _)).mono ?_;rintro e w1⟨rfl,D1⟩;have c0:=v8 (j:=0) D1 rfl;have c1:=v8 (j:=1) D1 rfl;have D0:=E8 D1;cases B1 with
 |false =>
  go_wp2;go_ret;exact⟨rfl,D0⟩
 |true =>
  have t1:=E1.out;cases b1 with
  |true =>
   go_wp2;go_ret;exact⟨rfl,D0⟩
  |false =>
   go_wp2_with fail
   refine(Q5 D1.size D1 (HT.out _ D0)).mono ?_;rintro e w2⟨rfl,D2⟩;replace c0:=v8 (j:=0) D2 rfl;replace c1:=v8 (j:=1) D2 rfl;replace D0:=E8 D2;clear D1;cases B3 with
   |false =>
    go_wp2;go_ret;exact⟨rfl,D0⟩
   |true =>
    have t2:=E2.out;cases b2 with
    |true =>
     go_wp2;go_ret;exact⟨rfl,D0⟩
    |false =>
     obtain⟨t3,t3'⟩:=E3.out;obtain⟨t4,t4'⟩:=E4.out;have t5:=E5.out;have t6:=E6.out;cases b3 with
     |true =>
      cases b4 with
      |false =>
       go_wp2;go_ret;exact⟨rfl,D0⟩
      |true =>
       go_wp2;go_ret;exact⟨rfl,D0⟩
     |false =>
      go_wp2;go_ret;exact⟨rfl,D0⟩
theorem o8{w:World}{b j:Nat}{cs:Array Value}{t:TypeId}{fz:Nat×Nat}{v:Value}(h:w.heap[b]? = some (.cells cs t fz)):(w.setCell ⟨b,j,none⟩ v).heap[b]? = some (.cells (cs.setIfInBounds j v) t fz):=by
 simp only[World.setCell,Array.getElem?_modify,if_true,h,Option.map_some]
 rfl
theorem a0t{K:Act->World->Prop}{a b:Act}{w:World}(h:K a w)(e:a=b):K b w:=e ▸ h
def a7s(q:Nat)(P:ByteArray)(U:ByteArray):Nat->Value
 |0 => .pointer (some ⟨q,0,none⟩)
 |1 => .string P
 |2 => .string P
 |3 => .pointer (some ⟨q,1,none⟩)
 |4 => .string U
 |5 => .string U
 |6 => .agg #[.string P,.string U]
 |_=>undef
theorem a9y(P:ByteArray)(U:ByteArray)(hP:P.size<=2000000)(hU:U.size<=2000000)(w:World):Calls Tryz.prog 103 #[.agg #[.string P,.string U]] w fun e w'=>e=.returned (.agg #[.string P,.string U])/\Below w.heap.size w w':=by
 have HP:=a8 (fun w'=>M8 P hP w');have HU:=a8 (fun w'=>M8 U hU w');go_enter Tryz.func103,Tryz.ntmps103
 go_wp2_with fail
 obtain⟨W0,D0⟩ : ∃W0,(w.alloc (Obj.cells #[.string P,.string U] 34)).alloc (Obj.cells #[.string ⟨#[]⟩,.string ⟨#[]⟩] 34)=W0:=⟨_,rfl⟩;have E2:Below w.heap.size w W0:=by rw[<-D0];exact((b8 _ _).alloc (c9 _) _).alloc (by simp) _
 have hq:∀j v,(#[Value.string P,Value.string U] : Array Value)[j]? = some v->W0.cell? ⟨w.heap.size,j,none⟩=some v:=fun j v hv=>by
  rw[<-D0];exact v8 (((b8 _ _).alloc (c9 _) _)) hv
 have hr:W0.heap[w.heap.size+1]? = some (.cells #[.string ⟨#[]⟩,.string ⟨#[]⟩] 34):=by
  rw[<-D0];have:=g9 (w.alloc (Obj.cells #[.string P,.string U] 34)) (Obj.cells #[.string ⟨#[]⟩,.string ⟨#[]⟩] 34);simpa using this
 have D2:w.heap.size<W0.heap.size:=by rw[<-D0];simp;omega
 have E3:w.heap.size+1<W0.heap.size:=by rw[<-D0];simp
 have D3:w.heap.size<=w.heap.size+1:=by omega
 rw[D0];clear D0;generalize w.heap.size+1=r at *;obtain⟨q,D9⟩ : ∃q,w.heap.size=q:=⟨_,rfl⟩;have E4:=a8 D9;rw[D9]at E2 hq D2 D3 ⊢;clear D9
 go_cut [] (fun wx=>wx.heap[r]? = some (.cells #[.string P,.string U] 34)/\Below q w wx)
 case first =>
  refine a2f (n:=7) (by kernel_rfl) rfl (by kernel_rfl) (by kernel_rfl) (fun f => { tmps:=#[.agg #[.string P,.string U],.pointer (some ⟨q,0,none⟩),.pointer (some ⟨r,0,none⟩),f 0,f 1,f 2,f 3,f 4,f 5,f 6],defers:=[] }) (fun i v _=>v=a7s q P U i) (Below W0.heap.size W0) (fun _=>undef) W0 (fun _ _ _ _ h _=>h) (b8 _ _).drew ?step ?last
  case step =>
   intro i hi f x hG hF K hK;have hc:∀j v,W0.cell? ⟨q,j,none⟩=some v->x.cell? ⟨q,j,none⟩=some v:=fun j v h=>(hG.cell (p:=⟨q,j,none⟩) D2).trans h
   match i,hi with
   |0,_ =>
    refine C6 rfl rfl ?_
    try dsimp only
    go_simp
    exact hK (.pointer (some ⟨q,0,none⟩)) x rfl hG (b8 _ _)
   |1,_ =>
    have e0:f 0=.pointer (some ⟨q,0,none⟩):=hF 0 (by kernel_rfl)
    have c0:=hc 0 _ (hq 0 _ rfl);refine C6 rfl rfl ?_
    try dsimp only
    go_simp
    refine a0t (hK (.string P) x rfl hG (b8 _ _)) ?_;simp[upd,e0]
   |2,_ =>
    have e0:f 1=.string P:=hF 1 (by kernel_rfl)
    refine C6 rfl rfl ?_
    try dsimp only
    go_simp
    refine(HP.out x).mono ?_;rintro e x1⟨rfl,D1⟩
    try dsimp only
    refine a0t (hK (.string P) x1 rfl (hG.trans (D1.mono hG.size)) D1) ?_;simp[upd,e0]
   |3,_ =>
    refine C6 rfl rfl ?_
    try dsimp only
    go_simp
    exact hK (.pointer (some ⟨q,1,none⟩)) x rfl hG (b8 _ _)
   |4,_ =>
    have e0:f 3=.pointer (some ⟨q,1,none⟩):=hF 3 (by kernel_rfl)
    have c0:=hc 1 _ (hq 1 _ rfl);refine C6 rfl rfl ?_
    try dsimp only
    go_simp
    refine a0t (hK (.string U) x rfl hG (b8 _ _)) ?_;simp[upd,e0]
   |5,_ =>
    have e0:f 4=.string U:=hF 4 (by kernel_rfl)
    refine C6 rfl rfl ?_
    try dsimp only
    go_simp
    refine(HU.out x).mono ?_;rintro e x1⟨rfl,D1⟩
    try dsimp only
    refine a0t (hK (.string U) x1 rfl (hG.trans (D1.mono hG.size)) D1) ?_;simp[upd,e0]
   |6,_ =>
    have e0:f 2=.string P:=hF 2 (by kernel_rfl)
    have e1:f 5=.string U:=hF 5 (by kernel_rfl)
    refine C6 rfl rfl ?_
    try dsimp only
    go_simp
    refine a0t (hK (.agg #[.string P,.string U]) x rfl hG (b8 _ _)) ?_;simp[upd,e0,e1]
  case last =>
   intro f x hG hF K hK;have e0:f 6=.agg #[.string P,.string U]:=hF 6 (by omega)
   have E0:x.heap[r]? = some (.cells #[.string ⟨#[]⟩,.string ⟨#[]⟩] 34):=(hG.block r E3).trans hr;have E1:∀j v,(#[Value.string ⟨#[]⟩,Value.string ⟨#[]⟩] : Array Value)[j]? = some v->x.cell? ⟨r,j,none⟩=some v:=fun j v hv=>by rw[d9 x r j _ _ _ E0];exact hv
   have g0:=E1 0 _ rfl;have g1:=E1 1 _ rfl;have E5:∀j,x.frozen? ⟨r,j,none⟩=false:=fun j=>by unfold World.frozen?;rw[E0];simp
   refine C6 rfl rfl ?_
   try dsimp only
   clear E1 hF
   go_simp
   refine hK _ _ ?_
   go_wp2_with fail
   go_meet
   exact⟨o8 (o8 (E0)),(((E2.trans (hG.mono (A6 D2))).setCell (p:=⟨r,0,none⟩) D3 _).setCell (p:=⟨r,1,none⟩) D3 _)⟩
 case rest =>
  obtain⟨hx,hb⟩:=hcut;have g0:wc.cell? ⟨r,0,none⟩=some (.string P):=by rw[d9 wc r 0 _ _ _ hx];rfl
  have g1:wc.cell? ⟨r,1,none⟩=some (.string U):=by rw[d9 wc r 1 _ _ _ hx];rfl
  go_wp2;refine bodyPost_ret (v:=.agg #[.string P,.string U]) (by simp[results,Tryz.results103,go_sem,g0,g1]) rfl ⟨rfl,by rw[E4.out];exact hb⟩
def a7v(q:Nat)(P:ByteArray)(L:ByteArray)(U:ByteArray)(V:ByteArray):Nat->Value
 |0 => .pointer (some ⟨q,0,none⟩)
 |1 => .string P
 |2 => .string P
 |3 => .pointer (some ⟨q,1,none⟩)
 |4 => .string L
 |5 => .string L
 |6 => .pointer (some ⟨q,2,none⟩)
 |7 => .string U
 |8 => .string U
 |9 => .pointer (some ⟨q,3,none⟩)
 |10 => .string V
 |11 => .string V
 |12 => .agg #[.string P,.string L,.string U,.string V]
 |_=>undef
theorem a9G(P:ByteArray)(L:ByteArray)(U:ByteArray)(V:ByteArray)(hP:P.size<=2000000)(hL:L.size<=2000000)(hU:U.size<=2000000)(hV:V.size<=2000000)(w:World):Calls Tryz.prog 105 #[.agg #[.string P,.string L,.string U,.string V]] w fun e w'=>e=.returned (.agg #[.string P,.string L,.string U,.string V])/\Below w.heap.size w w':=by
 have HP:=a8 (fun w'=>M8 P hP w');have HL:=a8 (fun w'=>M8 L hL w');have HU:=a8 (fun w'=>M8 U hU w');have HV:=a8 (fun w'=>M8 V hV w');go_enter Tryz.func105,Tryz.ntmps105
 go_wp2_with fail
 obtain⟨W0,D1⟩ : ∃W0,(w.alloc (Obj.cells #[.string P,.string L,.string U,.string V] 103)).alloc (Obj.cells #[.string ⟨#[]⟩,.string ⟨#[]⟩,.string ⟨#[]⟩,.string ⟨#[]⟩] 103)=W0:=⟨_,rfl⟩;have E2:Below w.heap.size w W0:=by rw[<-D1];exact((b8 _ _).alloc (c9 _) _).alloc (by simp) _
 have hq:∀j v,(#[Value.string P,Value.string L,Value.string U,Value.string V] : Array Value)[j]? = some v->W0.cell? ⟨w.heap.size,j,none⟩=some v:=fun j v hv=>by
  rw[<-D1];exact v8 (((b8 _ _).alloc (c9 _) _)) hv
 have hr:W0.heap[w.heap.size+1]? = some (.cells #[.string ⟨#[]⟩,.string ⟨#[]⟩,.string ⟨#[]⟩,.string ⟨#[]⟩] 103):=by
  rw[<-D1];have:=g9 (w.alloc (Obj.cells #[.string P,.string L,.string U,.string V] 103)) (Obj.cells #[.string ⟨#[]⟩,.string ⟨#[]⟩,.string ⟨#[]⟩,.string ⟨#[]⟩] 103);simpa using this
 have D9:w.heap.size<W0.heap.size:=by rw[<-D1];simp;omega
 have E3:w.heap.size+1<W0.heap.size:=by rw[<-D1];simp
 have D2:w.heap.size<=w.heap.size+1:=by omega
 rw[D1];clear D1;generalize w.heap.size+1=r at *;obtain⟨q,E0⟩ : ∃q,w.heap.size=q:=⟨_,rfl⟩;have E4:=a8 E0;rw[E0]at E2 hq D9 D2 ⊢;clear E0
 go_cut [] (fun wx=>wx.heap[r]? = some (.cells #[.string P,.string L,.string U,.string V] 103)/\Below q w wx)
 case first =>
  refine a2f (n:=13) (by kernel_rfl) rfl (by kernel_rfl) (by kernel_rfl) (fun f => { tmps:=#[.agg #[.string P,.string L,.string U,.string V],.pointer (some ⟨q,0,none⟩),.pointer (some ⟨r,0,none⟩),f 0,f 1,f 2,f 3,f 4,f 5,f 6,f 7,f 8,f 9,f 10,f 11,f 12],defers:=[] }) (fun i v _=>v=a7v q P L U V i) (Below W0.heap.size W0) (fun _=>undef) W0 (fun _ _ _ _ h _=>h) (b8 _ _).drew ?step ?last
  case step =>
   intro i hi f x hG hF K hK;have hc:∀j v,W0.cell? ⟨q,j,none⟩=some v->x.cell? ⟨q,j,none⟩=some v:=fun j v h=>(hG.cell (p:=⟨q,j,none⟩) D9).trans h
   match i,hi with
   |0,_ =>
    refine C6 rfl rfl ?_
    try dsimp only
    go_simp
    exact hK (.pointer (some ⟨q,0,none⟩)) x rfl hG (b8 _ _)
   |1,_ =>
    have e0:f 0=.pointer (some ⟨q,0,none⟩):=hF 0 (by kernel_rfl)
    have c0:=hc 0 _ (hq 0 _ rfl);refine C6 rfl rfl ?_
    try dsimp only
    go_simp
    refine a0t (hK (.string P) x rfl hG (b8 _ _)) ?_;simp[upd,e0]
   |2,_ =>
    have e0:f 1=.string P:=hF 1 (by kernel_rfl)
    refine C6 rfl rfl ?_
    try dsimp only
    go_simp
    refine(HP.out x).mono ?_;rintro e x1⟨rfl,D0⟩
    try dsimp only
    refine a0t (hK (.string P) x1 rfl (hG.trans (D0.mono hG.size)) D0) ?_;simp[upd,e0]
   |3,_ =>
    refine C6 rfl rfl ?_
    try dsimp only
    go_simp
    exact hK (.pointer (some ⟨q,1,none⟩)) x rfl hG (b8 _ _)
   |4,_ =>
    have e0:f 3=.pointer (some ⟨q,1,none⟩):=hF 3 (by kernel_rfl)
    have c0:=hc 1 _ (hq 1 _ rfl);refine C6 rfl rfl ?_
    try dsimp only
    go_simp
    refine a0t (hK (.string L) x rfl hG (b8 _ _)) ?_;simp[upd,e0]
   |5,_ =>
    have e0:f 4=.string L:=hF 4 (by kernel_rfl)
    refine C6 rfl rfl ?_
    try dsimp only
    go_simp
    refine(HL.out x).mono ?_;rintro e x1⟨rfl,D0⟩
    try dsimp only
    refine a0t (hK (.string L) x1 rfl (hG.trans (D0.mono hG.size)) D0) ?_;simp[upd,e0]
   |6,_ =>
    refine C6 rfl rfl ?_
    try dsimp only
    go_simp
    exact hK (.pointer (some ⟨q,2,none⟩)) x rfl hG (b8 _ _)
   |7,_ =>
    have e0:f 6=.pointer (some ⟨q,2,none⟩):=hF 6 (by kernel_rfl)
    have c0:=hc 2 _ (hq 2 _ rfl);refine C6 rfl rfl ?_
    try dsimp only
    go_simp
    refine a0t (hK (.string U) x rfl hG (b8 _ _)) ?_;simp[upd,e0]
   |8,_ =>
    have e0:f 7=.string U:=hF 7 (by kernel_rfl)
    refine C6 rfl rfl ?_
    try dsimp only
    go_simp
    refine(HU.out x).mono ?_;rintro e x1⟨rfl,D0⟩
    try dsimp only
    refine a0t (hK (.string U) x1 rfl (hG.trans (D0.mono hG.size)) D0) ?_;simp[upd,e0]
   |9,_ =>
    refine C6 rfl rfl ?_
    try dsimp only
    go_simp
    exact hK (.pointer (some ⟨q,3,none⟩)) x rfl hG (b8 _ _)
   |10,_ =>
    have e0:f 9=.pointer (some ⟨q,3,none⟩):=hF 9 (by kernel_rfl)
    have c0:=hc 3 _ (hq 3 _ rfl);refine C6 rfl rfl ?_
    try dsimp only
    go_simp
    refine a0t (hK (.string V) x rfl hG (b8 _ _)) ?_;simp[upd,e0]
   |11,_ =>
    have e0:f 10=.string V:=hF 10 (by kernel_rfl)
    refine C6 rfl rfl ?_
    try dsimp only
    go_simp
    refine(HV.out x).mono ?_;rintro e x1⟨rfl,D0⟩
    try dsimp only
    refine a0t (hK (.string V) x1 rfl (hG.trans (D0.mono hG.size)) D0) ?_;simp[upd,e0]
   |12,_ =>
    have e0:f 2=.string P:=hF 2 (by kernel_rfl)
    have e1:f 5=.string L:=hF 5 (by kernel_rfl)
    have e2:f 8=.string U:=hF 8 (by kernel_rfl)
    have e3:f 11=.string V:=hF 11 (by kernel_rfl)
    refine C6 rfl rfl ?_
    try dsimp only
    go_simp
    refine a0t (hK (.agg #[.string P,.string L,.string U,.string V]) x rfl hG (b8 _ _)) ?_;simp[upd,e0,e1,e2,e3]
  case last =>
   intro f x hG hF K hK;have e0:f 12=.agg #[.string P,.string L,.string U,.string V]:=hF 12 (by omega)
   have E1:x.heap[r]? = some (.cells #[.string ⟨#[]⟩,.string ⟨#[]⟩,.string ⟨#[]⟩,.string ⟨#[]⟩] 103):=(hG.block r E3).trans hr;have D3:∀j v,(#[Value.string ⟨#[]⟩,Value.string ⟨#[]⟩,Value.string ⟨#[]⟩,Value.string ⟨#[]⟩] : Array Value)[j]? = some v->x.cell? ⟨r,j,none⟩=some v:=fun j v hv=>by rw[d9 x r j _ _ _ E1];exact hv
   have g0:=D3 0 _ rfl;have g1:=D3 1 _ rfl;have g2:=D3 2 _ rfl;have g3:=D3 3 _ rfl;have E5:∀j,x.frozen? ⟨r,j,none⟩=false:=fun j=>by unfold World.frozen?;rw[E1];simp
   refine C6 rfl rfl ?_
   try dsimp only
   clear D3 hF
   go_simp
   refine hK _ _ ?_
   go_wp2_with fail
   go_meet
   exact⟨o8 (o8 (o8 (o8 (E1)))),(((((E2.trans (hG.mono (A6 D9))).setCell (p:=⟨r,0,none⟩) D2 _).setCell (p:=⟨r,1,none⟩) D2 _).setCell (p:=⟨r,2,none⟩) D2 _).setCell (p:=⟨r,3,none⟩) D2 _)⟩
 case rest =>
  obtain⟨hx,hb⟩:=hcut;have g0:wc.cell? ⟨r,0,none⟩=some (.string P):=by rw[d9 wc r 0 _ _ _ hx];rfl
  have g1:wc.cell? ⟨r,1,none⟩=some (.string L):=by rw[d9 wc r 1 _ _ _ hx];rfl
  have g2:wc.cell? ⟨r,2,none⟩=some (.string U):=by rw[d9 wc r 2 _ _ _ hx];rfl
  have g3:wc.cell? ⟨r,3,none⟩=some (.string V):=by rw[d9 wc r 3 _ _ _ hx];rfl
  go_wp2;refine bodyPost_ret (v:=.agg #[.string P,.string L,.string U,.string V]) (by simp[results,Tryz.results105,go_sem,g0,g1,g2,g3]) rfl ⟨rfl,by rw[E4.out];exact hb⟩
end Go.Proofs.YtlgcigmolfhamaaGreatDoor
