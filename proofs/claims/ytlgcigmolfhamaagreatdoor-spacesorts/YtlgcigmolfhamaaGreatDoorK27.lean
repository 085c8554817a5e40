/-
  chars.blanked: a text with a blank in the place of each 9, A and D. Conditions: the text is not too long.
  Whether the three bytes that end a part are somewhere in a text: strings.Contains. Conditions: internal/bytealg.MaxLen holds some number; the text is not too long.
  What stands between tags, and in an attribute: the program's and the document's. Conditions: the tables lie as they are laid, internal/bytealg.MaxLen holds some number; the text is not too long.
  What upTo is to answer; parse.reader: plain. Conditions: the reader lies as it is; nothing is too long; the tables lie as they are laid; upTo answers so.
-/
import Derived.Test.YtlgcigmolfhamaaGreatDoorK10
import Derived.Test.YtlgcigmolfhamaaGreatDoorK24
import Derived.Test.YtlgcigmolfhamaaGreatDoorK09
import Derived.Shelf.Strings.Search2
import Derived.Test.YtlgcigmolfhamaaGreatDoorK26
import Derived.Test.YtlgcigmolfhamaaGreatDoorK21
import Derived.Test.YtlgcigmolfhamaaGreatDoorK23
namespace Go.Proofs.YtlgcigmolfhamaaGreatDoor
set_option linter.unusedVariables false
set_option maxRecDepth 100000
set_option maxHeartbeats 8000000
section
open Go.RowKit
def a4N(s:List UInt8)(k j:Nat):UInt8:=if j<k then bl (s.getD j 0)else s.getD j 0
def b30(w:World)(g:Nat)(s:List UInt8)(i:Value)(wr:World):Prop :=
 ∃k:Nat,k<=s.length/\i=.int .i64 (k:Int)/\(∀j,j<s.length->wr.cell? ⟨g,j,none⟩=some (.int .u8 ((a4N s k j).toNat:Int))/\wr.frozen? ⟨g,j,none⟩=false)/\Below w.heap.size w wr
theorem b36(s:List UInt8)(k:Nat):a4N s k k=s.getD k 0:=by unfold a4N;rw[f6 (by omega)]
theorem a7z(s:List UInt8)(k j:Nat)(h:j≠k):a4N s (k+1) j=a4N s k j:=by
 unfold a4N;by_cases h1:j<k
 ·rw[g8 h1,g8 (by omega)]
 ·rw[f6 h1,f6 (by omega)]
theorem b35(s:List UInt8)(k:Nat)(h:bl (s.getD k 0)=s.getD k 0)(j:Nat):a4N s (k+1) j=a4N s k j:=by
 by_cases hj:j=k
 ·subst hj
  unfold a4N;rw[g8 (by omega),f6 (by omega),h]
 ·exact a7z s k j hj
theorem b37(s:List UInt8)(k:Nat):a4N s (k+1) k=bl (s.getD k 0):=by unfold a4N;rw[g8 (by omega)]
theorem b1q(S:ByteArray)(E5:S.size<=100000)(w:World):Calls Tryz.prog 227 #[.string S] w fun e w'=>e=.returned (.string ⟨(S.data.toList.map bl).toArray⟩)/\Below w.heap.size w w':=by
 obtain⟨c,W,E2,D0,J1,G1,J2,J7,E3⟩:=a0M S (by omega) w
 obtain⟨N,hN⟩ : ∃N,S.size=N:=⟨_,rfl⟩;have E6:S.data.toList.length=N:=by rw[<-j9];exact hN
 have G4:∀j,j<N->W.frozen? ⟨w.heap.size,j,none⟩=false:=fun j hj=>by
  rcases E3 with⟨h,_⟩|⟨g,cap,e,_,_,h3,_,h5,_⟩
  ·cases h
  ·injection e with e1 e2 e3
   injection e1 with e1
   injection e1 with e1
   subst e1;exact(h5 j (by omega)).2
 rw[hN]at E2 J2 E5;obtain⟨R,hR⟩ : ∃R:ByteArray,⟨(S.data.toList.map bl).toArray⟩=R:=⟨_,rfl⟩;rw[hR];have HR:=a8 hR;have D1:=a8 E6
 have E7:Hid (b30 w w.heap.size S.data.toList (.int .i64 0) W):=⟨0,o4 _,rfl,fun j hj=>⟨by
  have:=D0 j hj;rw[F5]at this;rw[this];unfold a4N;rw[f6 (by omega),List.getD_eq_getElem?_getD,i5 hj];rfl,G4 j (by rw[<-E6];exact hj)⟩,G1⟩
 clear E6 hR D0 J1 G1 E3 G4;obtain⟨g,hg⟩ : ∃g,w.heap.size=g:=⟨_,rfl⟩;rw[hg]at E7 E2;have HG:=a8 hg;clear hg;go_enter Tryz.func227,Tryz.ntmps227;go_wp2;clear E2
 go_loopw [10] (b30 w g S.data.toList) (fun i _=>N-(intOf i).toNat)
 case atStart=>exact E7.out
 case round =>
  obtain⟨k,hk,rfl,G5,hb⟩:=hrel;rw[D1.out]at hk;have D2:=a8 G5;have HB:=a8 hb;have J8:=hb.size;clear G5 hb E7;by_cases E8:k<N
  ·obtain⟨E1,J3⟩:=D2.out k (by rw[D1.out];exact E8)
   rw[b36]at E1;have G6:(k:Int)<(N:Int):=by omega
   by_cases hq:bl (S.data.toList.getD k 0)=S.data.toList.getD k 0
   ·have G0:Hid (b30 w g S.data.toList (.int .i64 ((k+1:Nat):Int)) wr):=⟨k+1,by rw[D1.out];exact E8,rfl,fun j hj=>by rw[b35 _ _ hq];exact D2.out j hj,HB.out⟩
    have E0:S.data.toList.getD k 0≠9/\S.data.toList.getD k 0≠10/\S.data.toList.getD k 0≠13:=by
     unfold bl at hq;refine⟨fun h => ?_,fun h => ?_,fun h => ?_⟩<;>(rw[h]at hq;revert hq;decide)
    have n9:¬((S.data.toList.getD k 0).toNat:Int)=9:=fun e=>E0.1 (F1.1 (show _=9 by omega))
    have n10:¬((S.data.toList.getD k 0).toNat:Int)=10:=fun e=>E0.2.1 (F1.1 (show _=10 by omega))
    have n13:¬((S.data.toList.getD k 0).toNat:Int)=13:=fun e=>E0.2.2 (F1.1 (show _=13 by omega))
    clear hq E0 D2;generalize (S.data.toList.getD k 0).toNat=x at *;have b9:((x:Int)==9)=false:=by simpa using n9
    have b10:((x:Int)==10)=false:=by simpa using n10
    have b13:((x:Int)==13)=false:=by simpa using n13
    go_wp2
    go_roundw
    case rel=>exact(show Value.int .i64 ((k+1:Nat):Int)=_ by go_num) ▸ G0.out
    case measure=>simp[intOf];omega
   ·have G7:S.data.toList.getD k 0=9∨S.data.toList.getD k 0=10∨S.data.toList.getD k 0=13:=by
     unfold bl at hq;by_cases h:S.data.toList.getD k 0=9∨S.data.toList.getD k 0=10∨S.data.toList.getD k 0=13
     ·exact h
     ·rw[f6 h]at hq;exact absurd rfl hq
    have G0:Hid (b30 w g S.data.toList (.int .i64 ((k+1:Nat):Int)) (wr.setCell ⟨g,k,none⟩ (.int .u8 32))):=⟨k+1,by rw[D1.out];exact E8,rfl,fun j hj=>by
     by_cases G8:j=k
     ·subst G8
      refine⟨?_,by rw[World.frozen?_setCell];exact J3⟩
      rw[World.cell?_setCell_same _ _ _ E1,b37];unfold bl;rw[g8 G7]
      rfl
     ·rw[World.cell?_setCell_other _ _ _ _ (by simp only[ne_eq,Addr.mk.injEq,not_and];omega),World.frozen?_setCell,a7z _ _ _ G8]
      exact D2.out j hj,HB.out.setCell (p:=⟨g,k,none⟩) (by rw[HG.out];exact c9 _) _⟩
    clear D2 hq;rcases G7 with h|h|h
    all_goals
     rw[h]at E1;clear h;have E4:((9:UInt8).toNat:Int)=9:=rfl;have D3:((10:UInt8).toNat:Int)=10:=rfl;have D9:((13:UInt8).toNat:Int)=13:=rfl
     first
      |rw[E4]at E1
      |rw[D3]at E1
      |rw[D9]at E1
     clear E4 D3 D9;go_wp2
     go_roundw
     case rel=>exact(show Value.int .i64 ((k+1:Nat):Int)=_ by go_num) ▸ G0.out
     case measure=>simp[intOf];omega
  ·have G6:¬(k:Int)<(N:Int):=by omega
   have J4:=f8 G6
   have G9:Q3 wr wr.heap.size (some ⟨g,0,none⟩) (P6 (S.data.toList.map bl)):=fun E0=>by
    have J5:0<N:=by
     rcases B9 N with h|h
     ·have:S.data.toList=[]:=j8 (by rw[D1.out];exact h)
      rw[this]at E0;exact absurd rfl E0
     ·exact h
    have J6:g<wr.heap.size:=by
     have:=(D2.out 0 (by rw[D1.out];exact J5)).1
     unfold World.cell? at this;rcases Nat.lt_or_ge g wr.heap.size with h|h
     ·exact h
     ·rw[D4 h]at this;simp at this
    refine⟨g,0,rfl,J6,fun j hj => ?_⟩;rw[F7,C9]at hj;rw[F5,(D2.out j hj).1];unfold a4N;rw[g8 (by rw[D1.out]at hj;omega)]
    simp[P6,List.getD_eq_getElem?_getD,i5 hj]
   have E2:=I4 c G9;rw[C9,D1.out,HR.out]at E2;clear G9 D2;go_wp2;go_ret;exact⟨rfl,HB.out⟩
end
section
open Go.RowKit Go.Shelf
def c1t:Ren:={
 f:=fun x=>match x with|219 => 233 | 217 => 241 | 225 => 237 | 224 => 236 | 267 => 242 | 266 => 245 | 314 => 246 | n=>n
 t:=fun x=>match x with|9 => 9 | 3 => 3 | 4 => 4 | 5 => 5 | 46 => 137 | 146 => 251 | 51 => 168 | n=>n
 g:=fun x=>match x with|1 => 2 | n=>n }
theorem c0Z:Lays.n219 Tryz.prog c1t:={ mixed:=rfl,f217:=Tryz.func241.trans (congrArg some rfl),f219:=Tryz.func233.trans (congrArg some rfl),f224:=Tryz.func236.trans (congrArg some rfl),f225:=Tryz.func237.trans (congrArg some rfl),f266:=Tryz.func245.trans (congrArg some rfl),f267:=Tryz.func242.trans (congrArg some rfl),f314:=Tryz.func246.trans (congrArg some rfl),t3:=Tryz.underlying3,a3:=Tryz.isAgg3,z3:=Tryz.sizeOf3,v3:=Tryz.zeroValue3,t4:=Tryz.underlying4,a4:=Tryz.isAgg4,z4:=Tryz.sizeOf4,v4:=Tryz.zeroValue4,t5:=Tryz.underlying5,a5:=Tryz.isAgg5,z5:=Tryz.sizeOf5,v5:=Tryz.zeroValue5,t9:=Tryz.underlying9,a9:=Tryz.isAgg9,z9:=Tryz.sizeOf9,v9:=Tryz.zeroValue9,t46:=Tryz.underlying137,a46:=Tryz.isAgg137,z46:=Tryz.sizeOf137,v46:=Tryz.zeroValue137,t51:=Tryz.underlying168,a51:=Tryz.isAgg168,z51:=Tryz.sizeOf168,v51:=Tryz.zeroValue168,t146:=Tryz.underlying251,a146:=Tryz.isAgg251,z146:=Tryz.sizeOf251,v146:=Tryz.zeroValue251,g1:=by kernel_rfl }
theorem b2v(S:ByteArray)(w:World)(hm:I3 w)(hs:S.size<=1000000):Calls Tryz.prog 233 #[.string S,.string ⟨#[93,93,62]⟩] w fun e w'=>e=.returned (.int .i64 (Lib.index S.data.toList [93,93,62]))/\w'=w:=by
 obtain⟨m,hm⟩:=hm;exact Any.stringslite_Index c0Z S ⟨#[93,93,62]⟩ m w (by omega) hm
open Classical in
noncomputable def a8f(s:List UInt8):Bool:=decide (a2w s)
theorem b47(c:UInt8)(l:List UInt8):a2w (c::l)↔[93,93,62].isPrefixOf (c::l)=true∨a2w l:=by
 constructor
 ·rintro⟨a,b,e⟩
  cases a with
  |nil =>
   rw[l7]at e;rw[e];left;simp
  |cons x a =>
   injection e with _ e
   exact .inr ⟨a,b,e⟩
 ·rintro(h |⟨a,b,e⟩)
  ·rw[F0]at h
   obtain⟨t,h⟩:=h;exact⟨[],t,h.symm⟩
  ·exact⟨c::a,b,by rw[e];rfl⟩
theorem b06:¬a2w []:=by
 rintro⟨a,b,e⟩;cases a<;>cases e
theorem a2K:∀(s:List UInt8),0<=Lib.index s [93,93,62]↔a2w s
 | []=>by
  constructor
  ·intro h;exact absurd h (by decide)
  ·intro h;exact absurd h b06
 |c::l=>by
  rw[b47,Lib.index];have ih:=a2K l;have D0:=Lib.index_ge l [93,93,62]
  split
  ·next h=>exact⟨fun _ => .inl h,fun _=>Int.le_refl _⟩
  ·next h =>
   split
   ·next h2 =>
    rw[x8]at h2
    constructor
    ·intro h3;omega
    ·rintro(h3|h3)
     ·exact absurd h3 h
     ·have:=ih.2 h3;omega
   ·next h2 =>
    rw[x8]at h2;exact⟨fun _ => .inr (ih.1 (by omega)),fun _=>by omega⟩
theorem b07(s:List UInt8):decide (0<=Lib.index s [93,93,62])=a8f s:=by
 unfold a8f;exact decide_eq_decide.2 (a2K s)
theorem b0h(S:ByteArray)(w:World)(hm:I3 w)(hs:S.size<=1000000):Calls Tryz.prog 228 #[.string S,.string ⟨#[93,93,62]⟩] w fun e w'=>e=.returned (.int .i64 (Lib.index S.data.toList [93,93,62]))/\w'=w:=by
 have HI:=a8 (b2v S w hm hs);generalize Lib.index S.data.toList [93,93,62]=z at *;clear hm;go_enter Tryz.func228,Tryz.ntmps228
 go_wp2_with fail
 refine HI.out.mono ?_;rintro e w'⟨rfl,hw⟩;rw[hw];go_wp2;go_ret;exact⟨rfl,rfl⟩
theorem b6O(S:ByteArray)(w:World)(hm:I3 w)(hs:S.size<=1000000):Calls Tryz.prog 202 #[.string S,.string ⟨#[93,93,62]⟩] w fun e w'=>e=.returned (.bool (a8f S.data.toList))/\w'=w:=by
 have HI:=a8 (b0h S w hm hs);rw[<-b07];generalize Lib.index S.data.toList [93,93,62]=z at *;clear hm;go_enter Tryz.func202,Tryz.ntmps202
 go_wp2_with fail
 refine HI.out.mono ?_;rintro e w'⟨rfl,hw⟩;rw[hw];go_wp2;go_ret;exact⟨rfl,rfl⟩
end
section
open Go.RowKit
theorem c0k(s:List UInt8):(if a1q s=true then M9 false s else none)=a30 s:=by
 unfold a30;by_cases h:txt s
 ·rw[g8 (U6.2 h),g8 h]
 ·rw[f6 (fun h'=>h (U6.1 h')),f6 h]
theorem c0j(s:List UInt8):(if a1q s=true then M9 true s else none)=X5 s:=by
 unfold X5;by_cases h:txt s
 ·rw[g8 (U6.2 h),g8 h]
 ·rw[f6 (fun h'=>h (U6.1 h')),f6 h]
theorem a8e{s:List UInt8}:a8f s=true↔a2w s:=by simp[a8f]
theorem a5u(S:ByteArray)(D0:S.size<=100000)(w:World)(hW:Wd w):Calls Tryz.prog 164 #[.string S] w fun e w'=>Ans (J7 S.data.toList) e/\Below w.heap.size w w':=by
 have HE:=a8 (b6O S w hW.max (by omega))
 have HR:=a8 (a3Z S D0 w hW.tabs.u);clear hW;cases he:a8f S.data.toList with
 |true =>
  rw[he]at HE;rw[a8l (a8e.1 he)];clear he HR;go_enter Tryz.func164,Tryz.ntmps164
  go_wp2_with fail
  refine HE.out.mono ?_;rintro e w1⟨rfl,hw⟩;rw[hw];go_wp2
  go_ret2
  exact⟨.inr ⟨rfl,rfl⟩,b8 _ _⟩
 |false =>
  rw[he]at HE;rw[b1k (fun h=>by rw[a8e.2 h]at he;cases he)]
  generalize a30 S.data.toList=Z at *;clear he;go_enter Tryz.func164,Tryz.ntmps164
  go_wp2_with fail
  refine HE.out.mono ?_;rintro e w1⟨rfl,hw⟩;rw[hw];clear hw
  go_wp2_with fail
  refine HR.out.mono ?_;rintro e w2⟨⟨Y,rfl,rfl⟩|⟨rfl,rfl⟩,hb⟩
  ·go_wp2
   go_ret2
   exact⟨.inl ⟨Y,rfl,rfl⟩,hb⟩
  ·go_wp2
   go_ret2
   exact⟨.inr ⟨rfl,rfl⟩,hb⟩
theorem a7y(S:ByteArray)(D0:S.size<=100000)(w:World)(hW:Wd w):Calls Tryz.prog 201 #[.string S] w fun e w'=>Ans (X5 S.data.toList) e/\Below w.heap.size w w':=by
 have D3:=a8 (b1q S D0 w);have HW:=a8 hW;rw[b7W];obtain⟨R,hR⟩ : ∃R:ByteArray,⟨(S.data.toList.map bl).toArray⟩=R:=⟨_,rfl⟩;have D2:S.data.toList.map bl=R.data.toList:=by rw[<-hR]
 have D9:R.size<=100000:=by rw[j9,<-D2,C9,<-j9];exact D0
 rw[hR]at D3;rw[D2];obtain⟨Z,hZ⟩ : ∃Z,a30 R.data.toList=Z:=⟨_,rfl⟩;rw[hZ];have HZ:=a8 hZ;clear hR D2 hW hZ;go_enter Tryz.func201,Tryz.ntmps201
 go_wp2_with fail
 refine D3.out.mono ?_;rintro e w1⟨rfl,D1⟩;have HR:=a8 (a3Z R D9 w1 (HW.out.later D1).tabs.u);rw[HZ.out]at HR
 go_wp2_with fail
 refine HR.out.mono ?_;rintro e w2⟨⟨Y,rfl,rfl⟩|⟨rfl,rfl⟩,hb⟩
 ·go_wp2
  go_ret2
  exact⟨.inl ⟨Y,rfl,rfl⟩,D1.trans (hb.mono D1.size)⟩
 ·go_wp2
  go_ret2
  exact⟨.inr ⟨rfl,rfl⟩,D1.trans (hb.mono D1.size)⟩
theorem a8L(S:ByteArray)(D0:S.size<=100000)(w:World):Calls Tryz.prog 131 #[.string S] w fun e w'=>Ans (X5 S.data.toList) e/\Below w.heap.size w w':=by
 have HR:=a8 (a6Z S true D0 w);rw[c0j]at HR;generalize X5 S.data.toList=Z at *;go_enter Tryz.func131,Tryz.ntmps131
 go_wp2_with fail
 refine HR.out.mono ?_;rintro e w2⟨⟨Y,rfl,rfl⟩|⟨rfl,rfl⟩,hb⟩
 ·go_wp2
  go_ret2
  exact⟨.inl ⟨Y,rfl,rfl⟩,hb⟩
 ·go_wp2
  go_ret2
  exact⟨.inr ⟨rfl,rfl⟩,hb⟩
def b7P(w:World)(s:List UInt8)(i:Value)(wr:World):Prop:=∃k:Nat,k<=s.length/\i=.int .i64 (k:Int)/\¬a2w (s.take k)/\wr=w
theorem b45{l m:List UInt8}(h:a2w l):a2w (l++m):=by
 obtain⟨a,b,rfl⟩:=h;exact⟨a,b++m,by simp⟩
theorem b44{l:List UInt8}{c:UInt8}(h:a2w (l++[c])):a2w l∨∃a,l=a++[93,93]/\c=62:=by
 obtain⟨a,b,e⟩:=h;rcases List.eq_nil_or_concat b with rfl|⟨b',x,rfl⟩
 ·right
  have e':l++[c]=(a++[93,93])++[62]:=by rw[e];simp
  obtain⟨h1,h2⟩:=List.append_inj' e' rfl
  injection h2 with h2
  exact⟨a,h1,h2⟩
 ·left
  have e':l++[c]=(a++93::93::62::b')++[x]:=by rw[e];simp
  obtain⟨h1,_⟩:=List.append_inj' e' rfl;exact⟨a,b',h1⟩
theorem b46{s:List UInt8}{k:Nat}(h2:2<=k)(h:k<s.length)(he:(s.take (k+1)).drop (k-2)=[93,93,62]):a2w s:=by
 have h3:s.take (k+1)=(s.take (k+1)).take (k-2)++[93,93,62]:=by rw[<-he,I5]
 have h4:a2w (s.take (k+1)):=⟨(s.take (k+1)).take (k-2),[],by rw[<-h3]⟩
 have h5:=b45 (m:=s.drop (k+1)) h4
 rwa [I5]at h5
theorem a8d{s:List UInt8}{k:Nat}(h:k<s.length)(hn:¬a2w (s.take k))(D0:2<=k->(s.take (k+1)).drop (k-2)≠[93,93,62]):¬a2w (s.take (k+1)):=by
 intro he;rw[l8 h]at he;rcases b44 he with h1|⟨a,h1,h2⟩
 ·exact hn h1
 ·have hl:=congrArg List.length h1
  rw[u0,e8]at hl;have hk:k=a.length+2:=by simp at hl;omega
  refine D0 (by omega) ?_
  rw[l8 h,h1,h2,hk];simp
theorem b0f(S:ByteArray){k:Nat}(h2:2<=k)(h:k<S.size)(w:World):(Instr.slice 9 (.string S) (some (.int .i64 ((k:Int)-2))) (some (.int .i64 ((k:Int)+1))) none).run Tryz.prog w=.ok (.string (S.extract (k-2) (k+1))) w:=by
 obtain⟨j,rfl⟩ : ∃j,k=j+2:=⟨k-2,by omega⟩
 have e1:(((j+2:Nat)):Int)-2=(j:Int):=by omega
 have e2:(((j+2:Nat)):Int)+1=((j+3:Nat):Int):=by omega
 rw[e1,e2];have h3:(0:Int)<=(j:Int)+3/\(j:Int)+3<=(S.size:Int):=by omega
 have h4:((j:Int)+3).toNat=j+3:=by omega
 simp[Instr.slice,run_underlying Tryz.underlying9,Instr.sliceBounds,Instr.sliceBound,asIntOf,h3,h4]
theorem a6p(S:ByteArray)(D1:S.size<=100000)(w:World):Calls Tryz.prog 132 #[.string S] w fun e w'=>Ans (J7 S.data.toList) e/\Below w.heap.size w w':=by
 have HR:=a8 (a6Z S false D1 w);rw[c0k]at HR;obtain⟨Z,hZ⟩ : ∃Z,J7 S.data.toList=Z:=⟨_,rfl⟩;rw[hZ];have HZ:=a8 hZ;obtain⟨N,hN⟩ : ∃N,S.size=N:=⟨_,rfl⟩;have E4:S.data.toList.length=N:=by rw[<-j9];exact hN
 have D2:=a8 E4;have E8:=a8 hN;rw[hN]at D1;clear E4 hZ;go_enter Tryz.func132,Tryz.ntmps132;go_wp2
 go_loopw [7] (b7P w S.data.toList) (fun i _=>N-(intOf i).toNat)
 case atStart=>exact⟨0,o4 _,rfl,by rw[List.take_zero];exact b06,rfl⟩
 case round =>
  obtain⟨k,hk,rfl,E5,rfl⟩:=hrel;rw[D2.out]at hk;have D0:=a8 E5;clear E5;by_cases D9:k<N
  ·have D3:k<S.data.toList.length:=by rw[D2.out];exact D9
   have E6:(k:Int)<(N:Int):=by omega
   by_cases h2:2<=k
   ·have G0:=b0f S h2 (by rw[E8.out];exact D9)
    have E7:(1:Int)<(k:Int):=by omega
    obtain⟨X,hX⟩ : ∃X,S.extract (k-2) (k+1)=X:=⟨_,rfl⟩;have E0:X.data.toList=(S.data.toList.take (k+1)).drop (k-2):=by rw[<-hX,J5]
    rw[hX]at G0;clear hX;by_cases hx:X.data.toList=[93,93,62]
    ·have G1:(X.toList == [93,93,62])=true:=by rw[a1u,x8];exact hx
     have G4:none=Z:=by
      rw[<-HZ.out];exact(a8l (b46 h2 D3 (E0.symm.trans hx))).symm
     subst G4;clear hx E0 HZ D0 HR;go_wp2
     go_ret2
     exact⟨.inr ⟨rfl,rfl⟩,b8 _ _⟩
    ·have G1:(X.toList == [93,93,62])=false:=by rw[a1u,e9];exact hx
     have E1:Hid (b7P wr S.data.toList (.int .i64 ((k+1:Nat):Int)) wr):=⟨k+1,by rw[D2.out];exact D9,rfl,a8d D3 D0.out (fun _=>by rw[<-E0];exact hx),rfl⟩
     clear hx E0 D0 D3;go_wp2
     go_roundw
     case rel=>exact(show Value.int .i64 ((k+1:Nat):Int)=_ by go_num) ▸ E1.out
     case measure=>simp[intOf];omega
   ·have E7:¬(1:Int)<(k:Int):=by omega
    have G6:=f8 E7;have E1:Hid (b7P wr S.data.toList (.int .i64 ((k+1:Nat):Int)) wr):=⟨k+1,by rw[D2.out];exact D9,rfl,a8d D3 D0.out (fun h=>absurd h h2),rfl⟩
    clear D0 D3;go_wp2
    go_roundw
    case rel=>exact(show Value.int .i64 ((k+1:Nat):Int)=_ by go_num) ▸ E1.out
    case measure=>simp[intOf];omega
  ·have E6:¬(k:Int)<(N:Int):=by omega
   have G5:=f8 E6;have E2:=D0.out;rw[C0 (by rw[D2.out];omega)]at E2
   have E3:=HZ.out;rw[b1k E2]at E3;rw[E3]at HR;clear E2 E3 HZ D0
   go_wp2_with fail
   refine HR.out.mono ?_;rintro e w2⟨⟨Y,rfl,rfl⟩|⟨rfl,rfl⟩,hb⟩
   ·go_wp2
    go_ret2
    exact⟨.inl ⟨Y,rfl,rfl⟩,hb⟩
   ·go_wp2
    go_ret2
    exact⟨.inr ⟨rfl,rfl⟩,hb⟩
end
section
open Go.RowKit
def G9(e s:List UInt8):List UInt8:=s.takeWhile (fun c => !e.contains c)
def J9(e s:List UInt8):List UInt8:=s.dropWhile (fun c => !e.contains c)
def a0s:Prop:=∀(s e:List UInt8) (b:Nat) (w:World),n0 w b (ba s)->s.length<=100000->e=[60]∨e=[32,9,10]∨e=[32,9,10,61,47,62]->Calls Tryz.prog 157 #[.pointer (some ⟨b,0,none⟩),.string (ba e)] w fun r w'=>r=.returned (.string (ba (G9 e s)))/\N7 b (ba (J9 e s)) w w'
theorem a0S(e s:List UInt8):(G9 e s).length<=s.length:=(List.takeWhile_sublist _).length_le
theorem a0R(e s:List UInt8):(J9 e s).length<=s.length:=(List.dropWhile_sublist _).length_le
theorem a4n{b:Bool}:∀(s:List UInt8) (p:Option (List UInt8)) (y:List UInt8),a0w b p s=some y->y.length<=4*s.length
 | [],none,y,h=>by
  rw[a0w]at h
  injection h with h
  subst h;exact o4 _
 | [],some _,y,h=>by rw[a0w]at h;cases h
 |c::r,none,y,h=>by
  rw[a0w]at h
  split at h
  ·cases h
  ·split at h
   ·have:=a4n r _ _ h
    rw[i8];omega
   ·obtain⟨z,hz,rfl⟩:=Option.map_eq_some_iff.1 h
    have:=a4n r _ _ hz;rw[i8,i8];omega
 |c::r,some p,y,h=>by
  rw[a0w]at h
  split at h
  ·cases hr:X1 p with
   |none=>rw[hr]at h;cases h
   |some z =>
    rw[hr]at h;obtain⟨z2,hz,rfl⟩:=Option.map_eq_some_iff.1 h;have:=a4n r _ _ hz;have:=(a8K hr).2;rw[e8,i8];omega
  ·have:=a4n r _ _ h
   rw[i8];omega
theorem b6W{b:Bool}{s y:List UInt8}(h:M9 b s=some y):y.length<=4*s.length:=a4n s none y h
theorem a4y{s y:List UInt8}(h:J7 s=some y):y.length<=4*s.length:=by
 unfold J7 at h
 split at h
 ·exact b6W h
 ·cases h
theorem b5C{s y:List UInt8}(h:X5 s=some y):y.length<=4*s.length:=by
 unfold X5 at h
 split at h
 ·exact b6W h
 ·cases h
theorem b4r(hU:a0s)(w:World)(B rb:Nat)(st:Rd)(hf:a1J st)(h:O8 w B rb st)(h1:st.op.length=1) :
 Calls Tryz.prog 121 #[.pointer (some ⟨rb,0,none⟩)] w fun e w'=>e=.returned (.bool (decide (a1O (G9 [60] st.rest)=[])))/\O8 w' B rb { st with rest:=J9 [60] st.rest }/\Below B w w':=by
 obtain⟨vn,vo,vd,vt,ys,h⟩:=h;have D1:B<=w.heap.size:=d8 h.lo (A6 (i3 h.box));have E0:=a8 (hU st.rest [60] rb w h.curAt hf.rest (.inl rfl));have E1:=a0S [60] st.rest;have E2:=hf.rest;have H:=a8 h
 have HO:Hid (∀w',S7 w' B rb { st with rest:=J9 [60] st.rest } vn vo vd vt ys->Calls Tryz.prog 77 #[.pointer (some ⟨rb,0,none⟩)] w' fun e w''=>e=.returned (.bool true)/\w''=w'):=fun w' h'=>by
  have:=U1 w' B rb { st with rest:=J9 [60] st.rest } ⟨_,_,_,_,_,h'⟩;rw[show({ st with rest:=J9 [60] st.rest }:Rd).op.length=1 from h1]at this;exact this
 have HT:Hid (∀w',Calls Tryz.prog 163 #[.string (ba (G9 [60] st.rest))] w' fun e w''=>e=.returned (.string (a2z (ba (G9 [60] st.rest))))/\Below w'.heap.size w' w''):=fun w'=>b5K _ (by rw[I9];omega) w'
 have he:(a2z (ba (G9 [60] st.rest))).toList.isEmpty=decide (a1O (G9 [60] st.rest)=[]):=by
  rw[f9,a2d,B5];cases a1O (G9 [60] st.rest)<;>rfl
 clear h hf h1;generalize hz:decide (a1O (G9 [60] st.rest)=[])=Z at *;clear hz;generalize a2z (ba (G9 [60] st.rest))=T at *;go_enter Tryz.func121,Tryz.ntmps121
 go_wp2_with fail
 refine E0.out.mono ?_;rintro e w1⟨rfl,D0⟩;have H1:=a8 (H.out.cur D0);have D2:=a8 (D0.below H.out.lo D1);clear D0
 go_wp2_with fail
 refine(HO.out w1 H1.out).mono ?_;rintro e w2⟨rfl,hw⟩;rw[hw];clear hw
 go_wp2_with fail
 refine(HT.out w1).mono ?_;rintro e w3⟨rfl,D3⟩;have D9:=a8 D3;clear D3;go_wp2;go_ret;exact⟨rfl,⟨_,_,_,_,_,H1.out.below D9.out⟩,D2.out.trans (D9.out.mono (d8 D1 D2.out.size))⟩
theorem b19(hU:a0s)(w:World)(B rb:Nat)(st:Rd)(hf:a1J st)(h:O8 w B rb st)(h1:st.op.length≠1)(hB : 8<=B)(hW:Wd w)(y:List UInt8)(hc:J7 (G9 [60] st.rest)=some y) :
 Calls Tryz.prog 121 #[.pointer (some ⟨rb,0,none⟩)] w fun e w'=>e=.returned (.bool true)/\O8 w' B rb { st with rest:=J9 [60] st.rest,tx:=st.tx++y }/\Below B w w':=by
 obtain⟨vn,vo,vd,vt,ys,h⟩:=h;have D9:B<=w.heap.size:=d8 h.lo (A6 (i3 h.box));have G0:=a8 (hU st.rest [60] rb w h.curAt hf.rest (.inl rfl));have G7:=a0S [60] st.rest;have G8:=hf.rest;have J1:=hf.tx;have J2:=a4y hc;have H:=a8 h;have HW:=a8 hW
 have HO:Hid (∀w',S7 w' B rb { st with rest:=J9 [60] st.rest } vn vo vd vt ys->Calls Tryz.prog 77 #[.pointer (some ⟨rb,0,none⟩)] w' fun e w''=>e=.returned (.bool false)/\w''=w'):=fun w' h'=>by
  have:=U1 w' B rb { st with rest:=J9 [60] st.rest } ⟨_,_,_,_,_,h'⟩;rw[show decide (({ st with rest:=J9 [60] st.rest }:Rd).op.length=1)=false from f8 h1]at this;exact this
 have G1:Hid (∀w',Wd w'->Calls Tryz.prog 164 #[.string (ba (G9 [60] st.rest))] w' fun e w''=>e=.returned (.tuple #[.string (ba y),.bool true])/\Below w'.heap.size w' w''):=fun w' hw'=>(a5u _ (by rw[I9];omega) w' hw').mono fun e w'' ⟨ha,hb⟩=>by
  rw[B5,hc]at ha;rcases ha with⟨Y,h1,rfl⟩|⟨h1,_⟩
  ·simp only[f5]at h1
   exact⟨by rw[h1,a3q],hb⟩
  ·cases h1
 obtain⟨At,ct,rfl,_,_⟩:=q9 h.rt;have G4:(ba y).size=y.length:=I9 y;clear h hf h1 hc hW;go_enter Tryz.func121,Tryz.ntmps121
 go_wp2_with fail
 refine G0.out.mono ?_;rintro e w0⟨rfl,E0⟩;have H0:=a8 (H.out.cur E0);have E1:=a8 (E0.below H.out.lo D9);clear E0
 go_wp2_with fail
 refine(HO.out w0 H0.out).mono ?_;rintro e w2⟨rfl,hw⟩;rw[hw];clear hw
 go_wp2_with fail
 refine(G1.out w0 (HW.out.low hB E1.out)).mono ?_;rintro e w1⟨rfl,E2⟩;have H1:=a8 (H0.out.below E2);have E5:=a8 (E1.out.trans (E2.mono (d8 D9 E1.out.size)));have D3:B<=w1.heap.size:=d8 D9 E5.out.size;have k4:=H1.out.cell.2.2.2.2;have kf:=H1.out.frozen;have E6:=a8 H1.out.rt;clear E2
 go_wp2_with (first
  |(at_builtin;refine a52 rfl (.tmp 24) (.tmp 25) rfl B st.tx (.slice At st.tx.length ct) rfl E6.out D3 (ba y) rfl (by omega) ?_;intro v1 wa D2 D0;have E3:=(H1.out.grown4 D0).trans H1.out.box;have kc:wa.cell? ⟨rb,4,none⟩=some (.slice At st.tx.length ct):=(by rw[d9 wa rb 4 _ _ _ E3];rfl);have kfa:wa.frozen? ⟨rb,4,none⟩=false:=(by unfold World.frozen?;rw[E3];simp);have E4:=a8 D2;have E7:=a8 D0;obtain⟨A1,c1,rfl,_,_⟩:=q9 D2;clear D2 D0 E3)
  |fail)
 have D1:wa.ownsRow B 5 1 (.slice A1 (st.tx.length+(ba y).size) c1) (st.tx++y).length (P6 (st.tx++y)):=by
  have:=E4.out;rw[B5]at this;rw[e8,<-G4];exact this
 have E8:Below B w1 wa:=(b8 B w1).grown E7.out D3 (fun k hk=>(E6.out.lt k hk).1);have HR:=a8 (H1.out.texted (fun b hb G5=>E7.out.block b hb (fun e=>G5 e.symm)) D1);have G6:=a8 ((E5.out.trans E8).setCell (p:=⟨rb,4,none⟩) H.out.lo (.slice A1 (st.tx.length+(ba y).size) c1));clear D1 E8 k4 kf kc kfa;go_ret;exact⟨rfl,⟨_,_,_,_,_,HR.out⟩,G6.out⟩
theorem b2a(hU:a0s)(w:World)(B rb:Nat)(st:Rd)(hf:a1J st)(h:O8 w B rb st)(h1:st.op.length≠1)(hB : 8<=B)(hW:Wd w)(hc:J7 (G9 [60] st.rest)=none) :
 Calls Tryz.prog 121 #[.pointer (some ⟨rb,0,none⟩)] w fun e w'=>e=.returned (.bool false)/\Below B w w':=by
 obtain⟨vn,vo,vd,vt,ys,h⟩:=h;have D3:B<=w.heap.size:=d8 h.lo (A6 (i3 h.box));have E6:=a8 (hU st.rest [60] rb w h.curAt hf.rest (.inl rfl));have G4:=a0S [60] st.rest;have G5:=hf.rest;have G6:=hf.tx;have H:=a8 h;have HW:=a8 hW
 have HO:Hid (∀w',S7 w' B rb { st with rest:=J9 [60] st.rest } vn vo vd vt ys->Calls Tryz.prog 77 #[.pointer (some ⟨rb,0,none⟩)] w' fun e w''=>e=.returned (.bool false)/\w''=w'):=fun w' h'=>by
  have:=U1 w' B rb { st with rest:=J9 [60] st.rest } ⟨_,_,_,_,_,h'⟩;rw[show decide (({ st with rest:=J9 [60] st.rest }:Rd).op.length=1)=false from f8 h1]at this;exact this
 have E7:Hid (∀w',Wd w'->Calls Tryz.prog 164 #[.string (ba (G9 [60] st.rest))] w' fun e w''=>e=.returned (.tuple #[.string ⟨#[]⟩,.bool false])/\Below w'.heap.size w' w''):=fun w' hw'=>(a5u _ (by rw[I9];omega) w' hw').mono fun e w'' ⟨ha,hb⟩=>by
  rw[B5,hc]at ha;rcases ha with⟨Y,h1,rfl⟩|⟨h1,rfl⟩
  ·cases h1
  ·exact⟨rfl,hb⟩
 obtain⟨At,ct,rfl,_,_⟩:=q9 h.rt;clear h hf h1 hc hW;go_enter Tryz.func121,Tryz.ntmps121
 go_wp2_with fail
 refine E6.out.mono ?_;rintro e w0⟨rfl,D9⟩;have H0:=a8 (H.out.cur D9);have E0:=a8 (D9.below H.out.lo D3);clear D9
 go_wp2_with fail
 refine(HO.out w0 H0.out).mono ?_;rintro e w2⟨rfl,hw⟩;rw[hw];clear hw
 go_wp2_with fail
 refine(E7.out w0 (HW.out.low hB E0.out)).mono ?_;rintro e w1⟨rfl,E1⟩;have H1:=a8 (H0.out.below E1);have E3:=a8 (E0.out.trans (E1.mono (d8 D3 E0.out.size)));have D2:B<=w1.heap.size:=d8 D3 E3.out.size;have k4:=H1.out.cell.2.2.2.2;have kf:=H1.out.frozen;have E4:=a8 H1.out.rt;clear E1
 go_wp2_with (first
  |(at_builtin;refine a52 rfl (.tmp 24) (.tmp 25) rfl B st.tx (.slice At st.tx.length ct) rfl E4.out D2 ⟨#[]⟩ rfl (by show _+0<=_;omega) ?_;intro v1 wa D1 D0;have E2:=(H1.out.grown4 D0).trans H1.out.box;have kc:wa.cell? ⟨rb,4,none⟩=some (.slice At st.tx.length ct):=(by rw[d9 wa rb 4 _ _ _ E2];rfl);have kfa:wa.frozen? ⟨rb,4,none⟩=false:=(by unfold World.frozen?;rw[E2];simp);have E8:=a8 D1;have G0:=a8 D0;obtain⟨A1,c1,rfl,_,_⟩:=q9 D1;clear D1 D0 E2)
  |fail)
 have E5:Below B w1 wa:=(b8 B w1).grown G0.out D2 (fun k hk=>(E4.out.lt k hk).1);have G1:Hid (∀v,Below B w (wa.setCell ⟨rb,4,none⟩ v)):=fun v=>(E3.out.trans E5).setCell (p:=⟨rb,4,none⟩) H.out.lo v;clear E5 k4 kf kc kfa;go_ret;exact⟨rfl,G1.out _⟩
end
end Go.Proofs.YtlgcigmolfhamaaGreatDoor
