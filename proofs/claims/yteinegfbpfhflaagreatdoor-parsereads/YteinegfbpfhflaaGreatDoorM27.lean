/-
  chars.blanked: a text with a blank in the place of each 9, A and D. Conditions: the text is not too long.
  Whether the three bytes that end a part are somewhere in a text: strings.Contains. Conditions: internal/bytealg.MaxLen holds some number; the text is not too long.
  What stands between tags, and in an attribute: the program's and the document's. Conditions: the tables lie as they are laid, internal/bytealg.MaxLen holds some number; the text is not too long.
  What upTo is to answer; parse.reader: plain. Conditions: the reader lies as it is; nothing is too long; the tables lie as they are laid; upTo answers so.
-/
import Derived.Test.YteinegfbpfhflaaGreatDoorM10
import Derived.Test.YteinegfbpfhflaaGreatDoorM24
import Derived.Test.YteinegfbpfhflaaGreatDoorM09
import Derived.Shelf.Strings.Search2
import Derived.Test.YteinegfbpfhflaaGreatDoorM26
import Derived.Test.YteinegfbpfhflaaGreatDoorM21
import Derived.Test.YteinegfbpfhflaaGreatDoorM23
namespace Go.Proofs.YteinegfbpfhflaaGreatDoor
set_option linter.unusedVariables false
set_option maxRecDepth 100000
set_option maxHeartbeats 8000000
section
open Go.RowKit
def mY(s:List UInt8)(k j:Nat):UInt8:=if j<k then bl (s.getD j 0)else s.getD j 0
def zx(w:World)(g:Nat)(s:List UInt8)(i:Value)(wr:World):Prop :=
 ∃k:Nat,k<=s.length/\i=.int .i64 (k:Int)/\(∀j,j<s.length->wr.cell? ⟨g,j,none⟩=some (.int .u8 ((mY s k j).toNat:Int))/\wr.frozen? ⟨g,j,none⟩=false)/\Below w.heap.size w wr
theorem zD(s:List UInt8)(k:Nat):mY s k k=s.getD k 0:=by unfold mY;rw[am (by omega)]
theorem qO(s:List UInt8)(k j:Nat)(h:j≠k):mY s (k+1) j=mY s k j:=by
 unfold mY;by_cases h1:j<k
 ·rw[av h1,av (by omega)]
 ·rw[am h1,am (by omega)]
theorem zC(s:List UInt8)(k:Nat)(h:bl (s.getD k 0)=s.getD k 0)(j:Nat):mY s (k+1) j=mY s k j:=by
 by_cases hj:j=k
 ·subst hj
  unfold mY;rw[av (by omega),am (by omega),h]
 ·exact qO s k j hj
theorem zE(s:List UInt8)(k:Nat):mY s (k+1) k=bl (s.getD k 0):=by unfold mY;rw[av (by omega)]
theorem wl(S:ByteArray)(hlen:S.size<=100000)(w:World):Calls Tryz.prog 198 #[.string S] w fun e w'=>e=.returned (.string ⟨(S.data.toList.map bl).toArray⟩)/\Below w.heap.size w w':=by
 obtain⟨c,W,hcv,hcell,hsz,hbW,hc1,hc2,hown⟩:=jm S (by omega) w
 obtain⟨N,hN⟩ : ∃N,S.size=N:=⟨_,rfl⟩;have hNl:S.data.toList.length=N:=by rw[<-aF];exact hN
 have hfz:∀j,j<N->W.frozen? ⟨w.heap.size,j,none⟩=false:=fun j hj=>by
  rcases hown with⟨h,_⟩|⟨g,cap,e,_,_,h3,_,h5,_⟩
  ·cases h
  ·injection e with e1 e2 e3
   injection e1 with e1
   injection e1 with e1
   subst e1;exact(h5 j (by omega)).2
 rw[hN]at hcv hc1 hlen;obtain⟨R,hR⟩ : ∃R:ByteArray,⟨(S.data.toList.map bl).toArray⟩=R:=⟨_,rfl⟩;rw[hR];have HR:=aa hR;have HNL:=aa hNl
 have HST:Hid (zx w w.heap.size S.data.toList (.int .i64 0) W):=⟨0,aM _,rfl,fun j hj=>⟨by
  have:=hcell j hj;rw[ci]at this;rw[this];unfold mY;rw[am (by omega),List.getD_eq_getElem?_getD,aw hj];rfl,hfz j (by rw[<-hNl];exact hj)⟩,hbW⟩
 clear hNl hR hcell hsz hbW hown hfz;obtain⟨g,hg⟩ : ∃g,w.heap.size=g:=⟨_,rfl⟩;rw[hg]at HST hcv;have HG:=aa hg;clear hg;go_enter Tryz.func198,Tryz.ntmps198;go_wp2;clear hcv
 go_loopw [10] (zx w g S.data.toList) (fun i _=>N-(intOf i).toNat)
 case atStart=>exact HST.out
 case round =>
  obtain⟨k,hk,rfl,hcl,hb⟩:=hrel;rw[HNL.out]at hk;have HCL:=aa hcl;have HB:=aa hb;have hbs:=hb.size;clear hcl hb HST;by_cases hlt:k<N
  ·obtain⟨hck,hfk⟩:=HCL.out k (by rw[HNL.out];exact hlt)
   rw[zD]at hck;have hkz:(k:Int)<(N:Int):=by omega
   by_cases hq:bl (S.data.toList.getD k 0)=S.data.toList.getD k 0
   ·have HNX:Hid (zx w g S.data.toList (.int .i64 ((k+1:Nat):Int)) wr):=⟨k+1,by rw[HNL.out];exact hlt,rfl,fun j hj=>by rw[zC _ _ hq];exact HCL.out j hj,HB.out⟩
    have hne:S.data.toList.getD k 0≠9/\S.data.toList.getD k 0≠10/\S.data.toList.getD k 0≠13:=by
     unfold bl at hq;refine⟨fun h => ?_,fun h => ?_,fun h => ?_⟩<;>(rw[h]at hq;revert hq;decide)
    have n9:¬((S.data.toList.getD k 0).toNat:Int)=9:=fun e=>hne.1 (cK.1 (show _=9 by omega))
    have n10:¬((S.data.toList.getD k 0).toNat:Int)=10:=fun e=>hne.2.1 (cK.1 (show _=10 by omega))
    have n13:¬((S.data.toList.getD k 0).toNat:Int)=13:=fun e=>hne.2.2 (cK.1 (show _=13 by omega))
    clear hq hne HCL;generalize (S.data.toList.getD k 0).toNat=x at *;have b9:((x:Int)==9)=false:=by simpa using n9
    have b10:((x:Int)==10)=false:=by simpa using n10
    have b13:((x:Int)==13)=false:=by simpa using n13
    go_wp2
    go_roundw
    case rel=>exact(show Value.int .i64 ((k+1:Nat):Int)=_ by go_num) ▸ HNX.out
    case measure=>simp[intOf];omega
   ·have hor:S.data.toList.getD k 0=9∨S.data.toList.getD k 0=10∨S.data.toList.getD k 0=13:=by
     unfold bl at hq;by_cases h:S.data.toList.getD k 0=9∨S.data.toList.getD k 0=10∨S.data.toList.getD k 0=13
     ·exact h
     ·rw[am h]at hq;exact absurd rfl hq
    have HNX:Hid (zx w g S.data.toList (.int .i64 ((k+1:Nat):Int)) (wr.setCell ⟨g,k,none⟩ (.int .u8 32))):=⟨k+1,by rw[HNL.out];exact hlt,rfl,fun j hj=>by
     by_cases hj2:j=k
     ·subst hj2
      refine⟨?_,by rw[World.frozen?_setCell];exact hfk⟩
      rw[World.cell?_setCell_same _ _ _ hck,zE];unfold bl;rw[av hor]
      rfl
     ·rw[World.cell?_setCell_other _ _ _ _ (by simp only[ne_eq,Addr.mk.injEq,not_and];omega),World.frozen?_setCell,qO _ _ _ hj2]
      exact HCL.out j hj,HB.out.setCell (p:=⟨g,k,none⟩) (by rw[HG.out];exact af _) _⟩
    clear HCL hq;rcases hor with h|h|h
    all_goals
     rw[h]at hck;clear h;have hck9:((9:UInt8).toNat:Int)=9:=rfl;have hck10:((10:UInt8).toNat:Int)=10:=rfl;have hck13:((13:UInt8).toNat:Int)=13:=rfl
     first
      |rw[hck9]at hck
      |rw[hck10]at hck
      |rw[hck13]at hck
     clear hck9 hck10 hck13;go_wp2
     go_roundw
     case rel=>exact(show Value.int .i64 ((k+1:Nat):Int)=_ by go_num) ▸ HNX.out
     case measure=>simp[intOf];omega
  ·have hkz:¬(k:Int)<(N:Int):=by omega
   have hkz1:=ap hkz
   have hli:en wr wr.heap.size (some ⟨g,0,none⟩) (ec (S.data.toList.map bl)):=fun hne=>by
    have hN0:0<N:=by
     rcases bw N with h|h
     ·have:S.data.toList=[]:=aD (by rw[HNL.out];exact h)
      rw[this]at hne;exact absurd rfl hne
     ·exact h
    have hgl:g<wr.heap.size:=by
     have:=(HCL.out 0 (by rw[HNL.out];exact hN0)).1
     unfold World.cell? at this;rcases Nat.lt_or_ge g wr.heap.size with h|h
     ·exact h
     ·rw[bL h]at this;simp at this
    refine⟨g,0,rfl,hgl,fun j hj => ?_⟩;rw[b8,bN]at hj;rw[ci,(HCL.out j hj).1];unfold mY;rw[av (by rw[HNL.out]at hj;omega)]
    simp[ec,List.getD_eq_getElem?_getD,aw hj]
   have hcv:=cF c hli;rw[bN,HNL.out,HR.out]at hcv;clear hli HCL;go_wp2;go_ret;exact⟨rfl,HB.out⟩
end
section
open Go.RowKit Go.Shelf
def IZ:Ren:={
 f:=fun x=>match x with|219 => 204 | 217 => 212 | 225 => 208 | 224 => 207 | 267 => 213 | 266 => 216 | 314 => 217 | n=>n
 t:=fun x=>match x with|9 => 9 | 3 => 3 | 4 => 4 | 5 => 5 | 46 => 112 | 146 => 216 | 51 => 134 | n=>n
 g:=fun x=>match x with|1 => 2 | n=>n }
theorem Ic:Lays.n219 Tryz.prog IZ:={ mixed:=rfl,f217:=Tryz.func212.trans (congrArg some rfl),f219:=Tryz.func204.trans (congrArg some rfl),f224:=Tryz.func207.trans (congrArg some rfl),f225:=Tryz.func208.trans (congrArg some rfl),f266:=Tryz.func216.trans (congrArg some rfl),f267:=Tryz.func213.trans (congrArg some rfl),f314:=Tryz.func217.trans (congrArg some rfl),t3:=Tryz.underlying3,a3:=Tryz.isAgg3,z3:=Tryz.sizeOf3,v3:=Tryz.zeroValue3,t4:=Tryz.underlying4,a4:=Tryz.isAgg4,z4:=Tryz.sizeOf4,v4:=Tryz.zeroValue4,t5:=Tryz.underlying5,a5:=Tryz.isAgg5,z5:=Tryz.sizeOf5,v5:=Tryz.zeroValue5,t9:=Tryz.underlying9,a9:=Tryz.isAgg9,z9:=Tryz.sizeOf9,v9:=Tryz.zeroValue9,t46:=Tryz.underlying112,a46:=Tryz.isAgg112,z46:=Tryz.sizeOf112,v46:=Tryz.zeroValue112,t51:=Tryz.underlying134,a51:=Tryz.isAgg134,z51:=Tryz.sizeOf134,v51:=Tryz.zeroValue134,t146:=Tryz.underlying216,a146:=Tryz.isAgg216,z146:=Tryz.sizeOf216,v146:=Tryz.zeroValue216,g1:=by kernel_rfl }
theorem xH(S:ByteArray)(w:World)(hm:cD w)(hs:S.size<=1000000):Calls Tryz.prog 204 #[.string S,.string ⟨#[93,93,62]⟩] w fun e w'=>e=.returned (.int .i64 (Lib.index S.data.toList [93,93,62]))/\w'=w:=by
 obtain⟨m,hm⟩:=hm;exact Any.stringslite_Index Ic S ⟨#[93,93,62]⟩ m w (by omega) hm
open Classical in
noncomputable def rP(s:List UInt8):Bool:=decide (jR s)
theorem AZ(c:UInt8)(l:List UInt8):jR (c::l)↔[93,93,62].isPrefixOf (c::l)=true∨jR l:=by
 constructor
 ·rintro⟨a,b,e⟩
  cases a with
  |nil =>
   rw[aE]at e;rw[e];left;simp
  |cons x a =>
   injection e with _ e
   exact .inr ⟨a,b,e⟩
 ·rintro(h |⟨a,b,e⟩)
  ·rw[bV]at h
   obtain⟨t,h⟩:=h;exact⟨[],t,h.symm⟩
  ·exact⟨c::a,b,by rw[e];rfl⟩
theorem vJ:¬jR []:=by
 rintro⟨a,b,e⟩;cases a<;>cases e
theorem ki:∀(s:List UInt8),0<=Lib.index s [93,93,62]↔jR s
 | []=>by
  constructor
  ·intro h;exact absurd h (by decide)
  ·intro h;exact absurd h vJ
 |c::l=>by
  rw[AZ,Lib.index];have ih:=ki l;have hge:=Lib.index_ge l [93,93,62]
  split
  ·next h=>exact⟨fun _ => .inl h,fun _=>Int.le_refl _⟩
  ·next h =>
   split
   ·next h2 =>
    rw[bc]at h2
    constructor
    ·intro h3;omega
    ·rintro(h3|h3)
     ·exact absurd h3 h
     ·have:=ih.2 h3;omega
   ·next h2 =>
    rw[bc]at h2;exact⟨fun _ => .inr (ih.1 (by omega)),fun _=>by omega⟩
theorem vK(s:List UInt8):decide (0<=Lib.index s [93,93,62])=rP s:=by
 unfold rP;exact decide_eq_decide.2 (ki s)
theorem uE(S:ByteArray)(w:World)(hm:cD w)(hs:S.size<=1000000):Calls Tryz.prog 199 #[.string S,.string ⟨#[93,93,62]⟩] w fun e w'=>e=.returned (.int .i64 (Lib.index S.data.toList [93,93,62]))/\w'=w:=by
 have HI:=aa (xH S w hm hs);generalize Lib.index S.data.toList [93,93,62]=z at *;clear hm;go_enter Tryz.func199,Tryz.ntmps199
 go_wp2_with fail
 refine HI.out.mono ?_;rintro e w'⟨rfl,hw⟩;rw[hw];go_wp2;go_ret;exact⟨rfl,rfl⟩
theorem C8(S:ByteArray)(w:World)(hm:cD w)(hs:S.size<=1000000):Calls Tryz.prog 173 #[.string S,.string ⟨#[93,93,62]⟩] w fun e w'=>e=.returned (.bool (rP S.data.toList))/\w'=w:=by
 have HI:=aa (uE S w hm hs);rw[<-vK];generalize Lib.index S.data.toList [93,93,62]=z at *;clear hm;go_enter Tryz.func173,Tryz.ntmps173
 go_wp2_with fail
 refine HI.out.mono ?_;rintro e w'⟨rfl,hw⟩;rw[hw];go_wp2;go_ret;exact⟨rfl,rfl⟩
end
section
open Go.RowKit
theorem GQ(s:List UInt8):(if iZ s=true then dI false s else none)=lQ s:=by
 unfold lQ;by_cases h:mZ s
 ·rw[av (eS.2 h),av h]
 ·rw[am (fun h'=>h (eS.1 h')),am h]
theorem GP(s:List UInt8):(if iZ s=true then dI true s else none)=fA s:=by
 unfold fA;by_cases h:mZ s
 ·rw[av (eS.2 h),av h]
 ·rw[am (fun h'=>h (eS.1 h')),am h]
theorem rO{s:List UInt8}:rP s=true↔jR s:=by simp[rP]
theorem nY(S:ByteArray)(hlen:S.size<=100000)(w:World)(hW:Wd w):Calls Tryz.prog 136 #[.string S] w fun e w'=>FQ (cT S.data.toList) e/\Below w.heap.size w w':=by
 have HE:=aa (C8 S w hW.max (by omega))
 have HR:=aa (lP S hlen w hW.tabs.u);clear hW;cases he:rP S.data.toList with
 |true =>
  rw[he]at HE;rw[rV (rO.1 he)];clear he HR;go_enter Tryz.func136,Tryz.ntmps136
  go_wp2_with fail
  refine HE.out.mono ?_;rintro e w1⟨rfl,hw⟩;rw[hw];go_wp2
  go_ret2
  exact⟨.inr ⟨rfl,rfl⟩,ae _ _⟩
 |false =>
  rw[he]at HE;rw[vZ (fun h=>by rw[rO.2 h]at he;cases he)]
  generalize lQ S.data.toList=Z at *;clear he;go_enter Tryz.func136,Tryz.ntmps136
  go_wp2_with fail
  refine HE.out.mono ?_;rintro e w1⟨rfl,hw⟩;rw[hw];clear hw
  go_wp2_with fail
  refine HR.out.mono ?_;rintro e w2⟨⟨Y,rfl,rfl⟩|⟨rfl,rfl⟩,hb⟩
  ·go_wp2
   go_ret2
   exact⟨.inl ⟨Y,rfl,rfl⟩,hb⟩
  ·go_wp2
   go_ret2
   exact⟨.inr ⟨rfl,rfl⟩,hb⟩
theorem qN(S:ByteArray)(hlen:S.size<=100000)(w:World)(hW:Wd w):Calls Tryz.prog 172 #[.string S] w fun e w'=>FQ (fA S.data.toList) e/\Below w.heap.size w w':=by
 have HBL:=aa (wl S hlen w);have HW:=aa hW;rw[Ej];obtain⟨R,hR⟩ : ∃R:ByteArray,⟨(S.data.toList.map bl).toArray⟩=R:=⟨_,rfl⟩;have hRl:S.data.toList.map bl=R.data.toList:=by rw[<-hR]
 have hRs:R.size<=100000:=by rw[aF,<-hRl,bN,<-aF];exact hlen
 rw[hR]at HBL;rw[hRl];obtain⟨Z,hZ⟩ : ∃Z,lQ R.data.toList=Z:=⟨_,rfl⟩;rw[hZ];have HZ:=aa hZ;clear hR hRl hW hZ;go_enter Tryz.func172,Tryz.ntmps172
 go_wp2_with fail
 refine HBL.out.mono ?_;rintro e w1⟨rfl,hb1⟩;have HR:=aa (lP R hRs w1 (HW.out.later hb1).tabs.u);rw[HZ.out]at HR
 go_wp2_with fail
 refine HR.out.mono ?_;rintro e w2⟨⟨Y,rfl,rfl⟩|⟨rfl,rfl⟩,hb⟩
 ·go_wp2
  go_ret2
  exact⟨.inl ⟨Y,rfl,rfl⟩,hb1.trans (hb.mono hb1.size)⟩
 ·go_wp2
  go_ret2
  exact⟨.inr ⟨rfl,rfl⟩,hb1.trans (hb.mono hb1.size)⟩
theorem sF(S:ByteArray)(hlen:S.size<=100000)(w:World):Calls Tryz.prog 103 #[.string S] w fun e w'=>FQ (fA S.data.toList) e/\Below w.heap.size w w':=by
 have HR:=aa (qa S true hlen w);rw[GP]at HR;generalize fA S.data.toList=Z at *;go_enter Tryz.func103,Tryz.ntmps103
 go_wp2_with fail
 refine HR.out.mono ?_;rintro e w2⟨⟨Y,rfl,rfl⟩|⟨rfl,rfl⟩,hb⟩
 ·go_wp2
  go_ret2
  exact⟨.inl ⟨Y,rfl,rfl⟩,hb⟩
 ·go_wp2
  go_ret2
  exact⟨.inr ⟨rfl,rfl⟩,hb⟩
def Ea(w:World)(s:List UInt8)(i:Value)(wr:World):Prop:=∃k:Nat,k<=s.length/\i=.int .i64 (k:Int)/\¬jR (s.take k)/\wr=w
theorem AX{l m:List UInt8}(h:jR l):jR (l++m):=by
 obtain⟨a,b,rfl⟩:=h;exact⟨a,b++m,by simp⟩
theorem AW{l:List UInt8}{c:UInt8}(h:jR (l++[c])):jR l∨∃a,l=a++[93,93]/\c=62:=by
 obtain⟨a,b,e⟩:=h;rcases List.eq_nil_or_concat b with rfl|⟨b',x,rfl⟩
 ·right
  have e':l++[c]=(a++[93,93])++[62]:=by rw[e];simp
  obtain⟨h1,h2⟩:=List.append_inj' e' rfl
  injection h2 with h2
  exact⟨a,h1,h2⟩
 ·left
  have e':l++[c]=(a++93::93::62::b')++[x]:=by rw[e];simp
  obtain⟨h1,_⟩:=List.append_inj' e' rfl;exact⟨a,b',h1⟩
theorem AY{s:List UInt8}{k:Nat}(h2:2<=k)(h:k<s.length)(he:(s.take (k+1)).drop (k-2)=[93,93,62]):jR s:=by
 have h3:s.take (k+1)=(s.take (k+1)).take (k-2)++[93,93,62]:=by rw[<-he,cG]
 have h4:jR (s.take (k+1)):=⟨(s.take (k+1)).take (k-2),[],by rw[<-h3]⟩
 have h5:=AX (m:=s.drop (k+1)) h4
 rwa [cG]at h5
theorem rN{s:List UInt8}{k:Nat}(h:k<s.length)(hn:¬jR (s.take k))(hno:2<=k->(s.take (k+1)).drop (k-2)≠[93,93,62]):¬jR (s.take (k+1)):=by
 intro he;rw[aN h]at he;rcases AW he with h1|⟨a,h1,h2⟩
 ·exact hn h1
 ·have hl:=congrArg List.length h1
  rw[aY,aj]at hl;have hk:k=a.length+2:=by simp at hl;omega
  refine hno (by omega) ?_
  rw[aN h,h1,h2,hk];simp
theorem uC(S:ByteArray){k:Nat}(h2:2<=k)(h:k<S.size)(w:World):(Instr.slice 9 (.string S) (some (.int .i64 ((k:Int)-2))) (some (.int .i64 ((k:Int)+1))) none).run Tryz.prog w=.ok (.string (S.extract (k-2) (k+1))) w:=by
 obtain⟨j,rfl⟩ : ∃j,k=j+2:=⟨k-2,by omega⟩
 have e1:(((j+2:Nat)):Int)-2=(j:Int):=by omega
 have e2:(((j+2:Nat)):Int)+1=((j+3:Nat):Int):=by omega
 rw[e1,e2];have h3:(0:Int)<=(j:Int)+3/\(j:Int)+3<=(S.size:Int):=by omega
 have h4:((j:Int)+3).toNat=j+3:=by omega
 simp[Instr.slice,run_underlying Tryz.underlying9,Instr.sliceBounds,Instr.sliceBound,asIntOf,h3,h4]
theorem pw(S:ByteArray)(hlen:S.size<=100000)(w:World):Calls Tryz.prog 104 #[.string S] w fun e w'=>FQ (cT S.data.toList) e/\Below w.heap.size w w':=by
 have HR:=aa (qa S false hlen w);rw[GQ]at HR;obtain⟨Z,hZ⟩ : ∃Z,cT S.data.toList=Z:=⟨_,rfl⟩;rw[hZ];have HZ:=aa hZ;obtain⟨N,hN⟩ : ∃N,S.size=N:=⟨_,rfl⟩;have hNl:S.data.toList.length=N:=by rw[<-aF];exact hN
 have HNL:=aa hNl;have HNS:=aa hN;rw[hN]at hlen;clear hNl hZ;go_enter Tryz.func104,Tryz.ntmps104;go_wp2
 go_loopw [7] (Ea w S.data.toList) (fun i _=>N-(intOf i).toNat)
 case atStart=>exact⟨0,aM _,rfl,by rw[List.take_zero];exact vJ,rfl⟩
 case round =>
  obtain⟨k,hk,rfl,hno,rfl⟩:=hrel;rw[HNL.out]at hk;have HNO:=aa hno;clear hno;by_cases hlt:k<N
  ·have hkl:k<S.data.toList.length:=by rw[HNL.out];exact hlt
   have hkz:(k:Int)<(N:Int):=by omega
   by_cases h2:2<=k
   ·have hsl:=uC S h2 (by rw[HNS.out];exact hlt)
    have hk1:(1:Int)<(k:Int):=by omega
    obtain⟨X,hX⟩ : ∃X,S.extract (k-2) (k+1)=X:=⟨_,rfl⟩;have hXl:X.data.toList=(S.data.toList.take (k+1)).drop (k-2):=by rw[<-hX,cS]
    rw[hX]at hsl;clear hX;by_cases hx:X.data.toList=[93,93,62]
    ·have hxb:(X.toList == [93,93,62])=true:=by rw[iC,bc];exact hx
     have hN0:none=Z:=by
      rw[<-HZ.out];exact(rV (AY h2 hkl (hXl.symm.trans hx))).symm
     subst hN0;clear hx hXl HZ HNO HR;go_wp2
     go_ret2
     exact⟨.inr ⟨rfl,rfl⟩,ae _ _⟩
    ·have hxb:(X.toList == [93,93,62])=false:=by rw[iC,ak];exact hx
     have HNX:Hid (Ea wr S.data.toList (.int .i64 ((k+1:Nat):Int)) wr):=⟨k+1,by rw[HNL.out];exact hlt,rfl,rN hkl HNO.out (fun _=>by rw[<-hXl];exact hx),rfl⟩
     clear hx hXl HNO hkl;go_wp2
     go_roundw
     case rel=>exact(show Value.int .i64 ((k+1:Nat):Int)=_ by go_num) ▸ HNX.out
     case measure=>simp[intOf];omega
   ·have hk1:¬(1:Int)<(k:Int):=by omega
    have hk2:=ap hk1;have HNX:Hid (Ea wr S.data.toList (.int .i64 ((k+1:Nat):Int)) wr):=⟨k+1,by rw[HNL.out];exact hlt,rfl,rN hkl HNO.out (fun h=>absurd h h2),rfl⟩
    clear HNO hkl;go_wp2
    go_roundw
    case rel=>exact(show Value.int .i64 ((k+1:Nat):Int)=_ by go_num) ▸ HNX.out
    case measure=>simp[intOf];omega
  ·have hkz:¬(k:Int)<(N:Int):=by omega
   have hkz1:=ap hkz;have hne:=HNO.out;rw[bC (by rw[HNL.out];omega)]at hne
   have hZR:=HZ.out;rw[vZ hne]at hZR;rw[hZR]at HR;clear hne hZR HZ HNO
   go_wp2_with fail
   refine HR.out.mono ?_;rintro e w2⟨⟨Y,rfl,rfl⟩|⟨rfl,rfl⟩,hb⟩
   ·go_wp2
    go_ret2
    exact⟨.inl ⟨Y,rfl,rfl⟩,hb⟩
   ·go_wp2
    go_ret2
    exact⟨.inr ⟨rfl,rfl⟩,hb⟩
end
section
open Go.RowKit
def cE(e s:List UInt8):List UInt8:=s.takeWhile (fun c => !e.contains c)
def c9(e s:List UInt8):List UInt8:=s.dropWhile (fun c => !e.contains c)
def gm:Prop:=∀(s e:List UInt8) (b:Nat) (w:World),aG w b (ba s)->s.length<=100000->e=[60]∨e=[32,9,10]∨e=[32,9,10,61,47,62]->Calls Tryz.prog 129 #[.pointer (some ⟨b,0,none⟩),.string (ba e)] w fun r w'=>r=.returned (.string (ba (cE e s)))/\dK b (ba (c9 e s)) w w'
theorem gN(e s:List UInt8):(cE e s).length<=s.length:=(List.takeWhile_sublist _).length_le
theorem gM(e s:List UInt8):(c9 e s).length<=s.length:=(List.dropWhile_sublist _).length_le
theorem mr{b:Bool}:∀(s:List UInt8) (p:Option (List UInt8)) (y:List UInt8),gr b p s=some y->y.length<=4*s.length
 | [],none,y,h=>by
  rw[gr]at h
  injection h with h
  subst h;exact aM _
 | [],some _,y,h=>by rw[gr]at h;cases h
 |c::r,none,y,h=>by
  rw[gr]at h
  split at h
  ·cases h
  ·split at h
   ·have:=mr r _ _ h
    rw[az];omega
   ·obtain⟨z,hz,rfl⟩:=Option.map_eq_some_iff.1 h
    have:=mr r _ _ hz;rw[az,az];omega
 |c::r,some p,y,h=>by
  rw[gr]at h
  split at h
  ·cases hr:fw p with
   |none=>rw[hr]at h;cases h
   |some z =>
    rw[hr]at h;obtain⟨z2,hz,rfl⟩:=Option.map_eq_some_iff.1 h;have:=mr r _ _ hz;have:=(sE hr).2;rw[aj,az];omega
  ·have:=mr r _ _ h
   rw[az];omega
theorem Dg{b:Bool}{s y:List UInt8}(h:dI b s=some y):y.length<=4*s.length:=mr s none y h
theorem mE{s y:List UInt8}(h:cT s=some y):y.length<=4*s.length:=by
 unfold cT at h
 split at h
 ·exact Dg h
 ·cases h
theorem BV{s y:List UInt8}(h:fA s=some y):y.length<=4*s.length:=by
 unfold fA at h
 split at h
 ·exact Dg h
 ·cases h
theorem zV(hU:gm)(w:World)(B rb:Nat)(st:Rd)(hf:iV st)(h:dS w B rb st)(h1:st.op.length=1) :
 Calls Tryz.prog 93 #[.pointer (some ⟨rb,0,none⟩)] w fun e w'=>e=.returned (.bool (decide (jz (cE [60] st.rest)=[])))/\dS w' B rb { st with rest:=c9 [60] st.rest }/\Below B w w':=by
 obtain⟨vn,vo,vd,vt,ys,h⟩:=h;have hBs:B<=w.heap.size:=ag h.lo (be (au h.box));have HUP:=aa (hU st.rest [60] rb w h.curAt hf.rest (.inl rfl));have hal:=gN [60] st.rest;have hrl:=hf.rest;have H:=aa h
 have HO:Hid (∀w',eH w' B rb { st with rest:=c9 [60] st.rest } vn vo vd vt ys->Calls Tryz.prog 52 #[.pointer (some ⟨rb,0,none⟩)] w' fun e w''=>e=.returned (.bool true)/\w''=w'):=fun w' h'=>by
  have:=eM w' B rb { st with rest:=c9 [60] st.rest } ⟨_,_,_,_,_,h'⟩;rw[show({ st with rest:=c9 [60] st.rest }:Rd).op.length=1 from h1]at this;exact this
 have HT:Hid (∀w',Calls Tryz.prog 135 #[.string (ba (cE [60] st.rest))] w' fun e w''=>e=.returned (.string (jV (ba (cE [60] st.rest))))/\Below w'.heap.size w' w''):=fun w'=>B8 _ (by rw[cV];omega) w'
 have he:(jV (ba (cE [60] st.rest))).toList.isEmpty=decide (jz (cE [60] st.rest)=[]):=by
  rw[aq,jy,bp];cases jz (cE [60] st.rest)<;>rfl
 clear h hf h1;generalize hz:decide (jz (cE [60] st.rest)=[])=Z at *;clear hz;generalize jV (ba (cE [60] st.rest))=T at *;go_enter Tryz.func93,Tryz.ntmps93
 go_wp2_with fail
 refine HUP.out.mono ?_;rintro e w1⟨rfl,hc1⟩;have H1:=aa (H.out.cur hc1);have HB1:=aa (hc1.below H.out.lo hBs);clear hc1
 go_wp2_with fail
 refine(HO.out w1 H1.out).mono ?_;rintro e w2⟨rfl,hw⟩;rw[hw];clear hw
 go_wp2_with fail
 refine(HT.out w1).mono ?_;rintro e w3⟨rfl,hb3⟩;have HB3:=aa hb3;clear hb3;go_wp2;go_ret;exact⟨rfl,⟨_,_,_,_,_,H1.out.below HB3.out⟩,HB1.out.trans (HB3.out.mono (ag hBs HB1.out.size))⟩
theorem xj(hU:gm)(w:World)(B rb:Nat)(st:Rd)(hf:iV st)(h:dS w B rb st)(h1:st.op.length≠1)(hB : 8<=B)(hW:Wd w)(y:List UInt8)(hc:cT (cE [60] st.rest)=some y) :
 Calls Tryz.prog 93 #[.pointer (some ⟨rb,0,none⟩)] w fun e w'=>e=.returned (.bool true)/\dS w' B rb { st with rest:=c9 [60] st.rest,tx:=st.tx++y }/\Below B w w':=by
 obtain⟨vn,vo,vd,vt,ys,h⟩:=h;have hBs:B<=w.heap.size:=ag h.lo (be (au h.box));have HUP:=aa (hU st.rest [60] rb w h.curAt hf.rest (.inl rfl));have hal:=gN [60] st.rest;have hrl:=hf.rest;have htl:=hf.tx;have hyl:=mE hc;have H:=aa h;have HW:=aa hW
 have HO:Hid (∀w',eH w' B rb { st with rest:=c9 [60] st.rest } vn vo vd vt ys->Calls Tryz.prog 52 #[.pointer (some ⟨rb,0,none⟩)] w' fun e w''=>e=.returned (.bool false)/\w''=w'):=fun w' h'=>by
  have:=eM w' B rb { st with rest:=c9 [60] st.rest } ⟨_,_,_,_,_,h'⟩;rw[show decide (({ st with rest:=c9 [60] st.rest }:Rd).op.length=1)=false from ap h1]at this;exact this
 have HCN:Hid (∀w',Wd w'->Calls Tryz.prog 136 #[.string (ba (cE [60] st.rest))] w' fun e w''=>e=.returned (.tuple #[.string (ba y),.bool true])/\Below w'.heap.size w' w''):=fun w' hw'=>(nY _ (by rw[cV];omega) w' hw').mono fun e w'' ⟨ha,hb⟩=>by
  rw[bp,hc]at ha;rcases ha with⟨Y,h1,rfl⟩|⟨h1,_⟩
  ·simp only[al]at h1
   exact⟨by rw[h1,kZ],hb⟩
  ·cases h1
 obtain⟨At,ct,rfl,_,_⟩:=aP h.rt;have hps:(ba y).size=y.length:=cV y;clear h hf h1 hc hW;go_enter Tryz.func93,Tryz.ntmps93
 go_wp2_with fail
 refine HUP.out.mono ?_;rintro e w0⟨rfl,hc1⟩;have H0:=aa (H.out.cur hc1);have HB0:=aa (hc1.below H.out.lo hBs);clear hc1
 go_wp2_with fail
 refine(HO.out w0 H0.out).mono ?_;rintro e w2⟨rfl,hw⟩;rw[hw];clear hw
 go_wp2_with fail
 refine(HCN.out w0 (HW.out.low hB HB0.out)).mono ?_;rintro e w1⟨rfl,hb1⟩;have H1:=aa (H0.out.below hb1);have HB1:=aa (HB0.out.trans (hb1.mono (ag hBs HB0.out.size)));have hBs1:B<=w1.heap.size:=ag hBs HB1.out.size;have k4:=H1.out.cell.2.2.2.2;have kf:=H1.out.frozen;have HRT:=aa H1.out.rt;clear hb1
 go_wp2_with (first
  |(at_builtin;refine oQ rfl (.tmp 24) (.tmp 25) rfl B st.tx (.slice At st.tx.length ct) rfl HRT.out hBs1 (ba y) rfl (by omega) ?_;intro v1 wa hown hgrow;have hka:=(H1.out.grown4 hgrow).trans H1.out.box;have kc:wa.cell? ⟨rb,4,none⟩=some (.slice At st.tx.length ct):=(by rw[ai wa rb 4 _ _ _ hka];rfl);have kfa:wa.frozen? ⟨rb,4,none⟩=false:=(by unfold World.frozen?;rw[hka];simp);have HOWN:=aa hown;have HGR:=aa hgrow;obtain⟨A1,c1,rfl,_,_⟩:=aP hown;clear hown hgrow hka)
  |fail)
 have hown':wa.ownsRow B 5 1 (.slice A1 (st.tx.length+(ba y).size) c1) (st.tx++y).length (ec (st.tx++y)):=by
  have:=HOWN.out;rw[bp]at this;rw[aj,<-hps];exact this
 have hbg:Below B w1 wa:=(ae B w1).grown HGR.out hBs1 (fun k hk=>(HRT.out.lt k hk).1);have HR:=aa (H1.out.texted (fun b hb hne=>HGR.out.block b hb (fun e=>hne e.symm)) hown');have HB2:=aa ((HB1.out.trans hbg).setCell (p:=⟨rb,4,none⟩) H.out.lo (.slice A1 (st.tx.length+(ba y).size) c1));clear hown' hbg k4 kf kc kfa;go_ret;exact⟨rfl,⟨_,_,_,_,_,HR.out⟩,HB2.out⟩
theorem xl(hU:gm)(w:World)(B rb:Nat)(st:Rd)(hf:iV st)(h:dS w B rb st)(h1:st.op.length≠1)(hB : 8<=B)(hW:Wd w)(hc:cT (cE [60] st.rest)=none) :
 Calls Tryz.prog 93 #[.pointer (some ⟨rb,0,none⟩)] w fun e w'=>e=.returned (.bool false)/\Below B w w':=by
 obtain⟨vn,vo,vd,vt,ys,h⟩:=h;have hBs:B<=w.heap.size:=ag h.lo (be (au h.box));have HUP:=aa (hU st.rest [60] rb w h.curAt hf.rest (.inl rfl));have hal:=gN [60] st.rest;have hrl:=hf.rest;have htl:=hf.tx;have H:=aa h;have HW:=aa hW
 have HO:Hid (∀w',eH w' B rb { st with rest:=c9 [60] st.rest } vn vo vd vt ys->Calls Tryz.prog 52 #[.pointer (some ⟨rb,0,none⟩)] w' fun e w''=>e=.returned (.bool false)/\w''=w'):=fun w' h'=>by
  have:=eM w' B rb { st with rest:=c9 [60] st.rest } ⟨_,_,_,_,_,h'⟩;rw[show decide (({ st with rest:=c9 [60] st.rest }:Rd).op.length=1)=false from ap h1]at this;exact this
 have HCN:Hid (∀w',Wd w'->Calls Tryz.prog 136 #[.string (ba (cE [60] st.rest))] w' fun e w''=>e=.returned (.tuple #[.string ⟨#[]⟩,.bool false])/\Below w'.heap.size w' w''):=fun w' hw'=>(nY _ (by rw[cV];omega) w' hw').mono fun e w'' ⟨ha,hb⟩=>by
  rw[bp,hc]at ha;rcases ha with⟨Y,h1,rfl⟩|⟨h1,rfl⟩
  ·cases h1
  ·exact⟨rfl,hb⟩
 obtain⟨At,ct,rfl,_,_⟩:=aP h.rt;clear h hf h1 hc hW;go_enter Tryz.func93,Tryz.ntmps93
 go_wp2_with fail
 refine HUP.out.mono ?_;rintro e w0⟨rfl,hc1⟩;have H0:=aa (H.out.cur hc1);have HB0:=aa (hc1.below H.out.lo hBs);clear hc1
 go_wp2_with fail
 refine(HO.out w0 H0.out).mono ?_;rintro e w2⟨rfl,hw⟩;rw[hw];clear hw
 go_wp2_with fail
 refine(HCN.out w0 (HW.out.low hB HB0.out)).mono ?_;rintro e w1⟨rfl,hb1⟩;have H1:=aa (H0.out.below hb1);have HB1:=aa (HB0.out.trans (hb1.mono (ag hBs HB0.out.size)));have hBs1:B<=w1.heap.size:=ag hBs HB1.out.size;have k4:=H1.out.cell.2.2.2.2;have kf:=H1.out.frozen;have HRT:=aa H1.out.rt;clear hb1
 go_wp2_with (first
  |(at_builtin;refine oQ rfl (.tmp 24) (.tmp 25) rfl B st.tx (.slice At st.tx.length ct) rfl HRT.out hBs1 ⟨#[]⟩ rfl (by show _+0<=_;omega) ?_;intro v1 wa hown hgrow;have hka:=(H1.out.grown4 hgrow).trans H1.out.box;have kc:wa.cell? ⟨rb,4,none⟩=some (.slice At st.tx.length ct):=(by rw[ai wa rb 4 _ _ _ hka];rfl);have kfa:wa.frozen? ⟨rb,4,none⟩=false:=(by unfold World.frozen?;rw[hka];simp);have HOWN:=aa hown;have HGR:=aa hgrow;obtain⟨A1,c1,rfl,_,_⟩:=aP hown;clear hown hgrow hka)
  |fail)
 have hbg:Below B w1 wa:=(ae B w1).grown HGR.out hBs1 (fun k hk=>(HRT.out.lt k hk).1);have HB2:Hid (∀v,Below B w (wa.setCell ⟨rb,4,none⟩ v)):=fun v=>(HB1.out.trans hbg).setCell (p:=⟨rb,4,none⟩) H.out.lo v;clear hbg k4 kf kc kfa;go_ret;exact⟨rfl,HB2.out _⟩
end
end Go.Proofs.YteinegfbpfhflaaGreatDoor
