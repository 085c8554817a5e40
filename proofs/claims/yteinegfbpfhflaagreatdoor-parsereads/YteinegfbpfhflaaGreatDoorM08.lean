/-
  name.Begins and name.Stands, over the program's own tables. Conditions: the tables lie as they are laid.
  Texts: as bytes, at an index, in pieces; where a byte first stands; cut at a colon; copied. Conditions: none.
  name.Is: whether a text is a name. Conditions: the tables lie as they are laid; the text is not too long.
  The document's own answers on names: how long a text is one, whether it is one, a full name's parts. Conditions: the text is not too long.
-/
import Derived.Test.YteinegfbpfhflaaGreatDoorM07
import Derived.Laws.Rows
import Derived.Deep.MidRow
import Derived.Laws.Externs
import Derived.Laws.MakeOwn
import Derived.Laws.IdiomStrings
import Derived.Laws.AppendOwn
import Derived.Lib.Bytealg
import Derived.Lib.BufferWrite
import Derived.Lib.UnsafeStr
import Derived.Deep.Draws
import Derived.Deep.QuietTactic
import Derived.BigQuiet
import Derived.Deep.WholeRow
namespace Go.Proofs.YteinegfbpfhflaaGreatDoor
open Go.RowKit
set_option linter.unusedVariables false
set_option maxHeartbeats 4000000
def oe:List (Int×Int):=[(65,90),(95,95),(97,122),(192,214),(216,246),(248,767),(880,893),(895,8191),(8204,8205),(8304,8591),(11264,12271),(12289,55295),(63744,64975),(65008,65533),(65536,983039)]
def ml:List (Int×Int):=[(45,46),(48,57),(183,183),(768,879),(8255,8256)]
def mo(t:List (Int×Int)):List Value:=t.flatMap fun p => [.int .i32 p.1,.int .i32 p.2]
def FK:Array Value:=(mo oe).toArray
def Fk:Array Value:=(mo ml).toArray
def rB(r:Int)(p:Int×Int):Bool:=decide (p.1<=r/\r<=p.2)
theorem wn(r:Int):g8 r=oe.any (rB r):=by
 rw[bm];simp only[g8,oe,rB,List.any_cons,List.any_nil,bj,Bool.or_eq_true,Bool.or_false];omega
theorem uw(r:Int):fK r=(ml.any (rB r)||g8 r):=by
 rw[bm,ss];simp only[ml,rB,List.any_cons,List.any_nil,bj,Bool.or_eq_true,Bool.or_false];cases g8 r<;>simp<;>omega
theorem DR{t:List (Int×Int)}{r:Int}{k:Nat}(hk:k<t.length)(h:rB r (t.getD k (0,0))=true):t.any (rB r)=true:=by
 rw[List.getD_eq_getElem?_getD,aw hk,Option.getD_some]at h;exact List.any_eq_true.2 ⟨_,aJ hk,h⟩
theorem wB{t:List (Int×Int)}{r:Int}(h:∀j,j<t.length->rB r (t.getD j (0,0))=false):t.any (rB r)=false:=by
 rw[List.any_eq_false];intro x hx;obtain⟨j,hj,rfl⟩:=List.getElem_of_mem hx;have:=h j hj;rw[List.getD_eq_getElem?_getD,aw hj,Option.getD_some]at this;simp[this]
theorem FI{r:Int}{k:Nat}(hk:k<15)(h:rB r (oe.getD k (0,0))=true):g8 r=true:=by rw[wn];exact DR hk h
theorem Fj{r:Int}{k:Nat}(hk:k<5)(h:rB r (ml.getD k (0,0))=true):fK r=true:=by rw[uw,DR (t:=ml) hk h];rfl
theorem G7{r:Int}(h:∀j,j<15->rB r (oe.getD j (0,0))=false):g8 r=false:=by rw[wn];exact wB h
theorem GU{r:Int}(h:∀j,j<5->rB r (ml.getD j (0,0))=false):fK r=g8 r:=by rw[uw,wB (t:=ml) h];rfl
theorem kU{p:Nat->Prop}{k:Nat}(h:∀j,j<k->p j)(hk:p k):∀j,j<k+1->p j:=fun j hj=>by
 rcases bU (cC hj)with h1|h1
 ·exact h j h1
 ·rw[h1];exact hk
structure kz(w:World):Prop where
 u:qw w
 beg:∀j v,FK[j]? = some v->w.cell? ⟨6,j,none⟩=some v
 fol:∀j v,Fk[j]? = some v->w.cell? ⟨7,j,none⟩=some v
theorem kz.five{w:World}(h:kz w):8<=w.heap.size:=by
 have h1:=h.u.two
 have h2 : 7 < w.heap.size:=by
  have hc:=h.fol 0 _ rfl;rcases Nat.lt_or_ge 7 w.heap.size with hlt|hge
  ·exact hlt
  ·rw[World.cell?,bL hge]at hc;cases hc
 omega
theorem kz.below{w w':World}{B:Nat}(h:kz w)(hB:8<=B)(hb:Below B w w'):kz w' :=
 ⟨h.u.below ⟨by omega,by omega⟩ hb,fun j v hv=>(hb.cell (p:=⟨6,j,none⟩) (by show 6 < B;omega)).trans (h.beg j v hv),fun j v hv=>(hb.cell (p:=⟨7,j,none⟩) (by show 7 < B;omega)).trans (h.fol j v hv)⟩
theorem Fc:∀k,k<15->∀w,(Instr.index 208 (.agg FK) (.int .i64 ((k:Nat):Int))).run Tryz.prog w=.ok (.agg #[.int .i32 (oe.getD k (0,0)).1,.int .i32 (oe.getD k (0,0)).2]) w
 |0,_,_=>by kernel_rfl
 |1,_,_=>by kernel_rfl
 |2,_,_=>by kernel_rfl
 |3,_,_=>by kernel_rfl
 |4,_,_=>by kernel_rfl
 |5,_,_=>by kernel_rfl
 |6,_,_=>by kernel_rfl
 |7,_,_=>by kernel_rfl
 |8,_,_=>by kernel_rfl
 |9,_,_=>by kernel_rfl
 |10,_,_=>by kernel_rfl
 |11,_,_=>by kernel_rfl
 |12,_,_=>by kernel_rfl
 |13,_,_=>by kernel_rfl
 |14,_,_=>by kernel_rfl
 |k+15,h,_=>by omega
theorem Fb:∀k,k<5->∀w,(Instr.index 209 (.agg Fk) (.int .i64 ((k:Nat):Int))).run Tryz.prog w=.ok (.agg #[.int .i32 (ml.getD k (0,0)).1,.int .i32 (ml.getD k (0,0)).2]) w
 |0,_,_=>by kernel_rfl
 |1,_,_=>by kernel_rfl
 |2,_,_=>by kernel_rfl
 |3,_,_=>by kernel_rfl
 |4,_,_=>by kernel_rfl
 |k+5,h,_=>by omega
def G9(w:World)(r:Int)(i:Value)(wr:World):Prop:=∃k:Nat,k<=15/\i=.int .i64 k/\(∀j,j<k->rB r (oe.getD j (0,0))=false)/\Below w.heap.size w wr
theorem qo(r:Int)(w:World)(hT:kz w):Calls Tryz.prog 196 #[.int .i32 r] w fun e w'=>e=.returned (.bool (g8 r))/\Below w.heap.size w w':=by
 obtain⟨C,hC⟩ : ∃C,mo oe=C:=⟨_,rfl⟩;have hRB:w.rangeAt 6 0 C:=fun j v hv=>by rw[ci];exact hT.beg j v (by rw[FK,hC];simpa using hv)
 have hI:(Tryz.prog.info? 208).map (·.size)=some C.length:=by rw[<-hC];kernel_rfl
 have HRB:=aa hRB;have HI:=aa hI;have hix:=Fc;have h5:=hT.five;have HT:=aa hT;clear hT;rw[FK,hC]at hix;have HIX:=aa hix;obtain⟨B,hB⟩ : ∃B,g8 r=B:=⟨_,rfl⟩;rw[hB];have HBB:=aa hB;clear hix hC hRB hI hB;go_enter Tryz.func196,Tryz.ntmps196
 go_wp2_with (refine wpList_load_mid rfl 208 _ rfl 6 0 rfl C _ HRB.out Tryz.underlying208 rfl HI.out ?_)
 clear HRB HI;generalize C.toArray=C at *
 go_loopw [6] (G9 w r) (fun i _=>15-(intOf i).toNat)
 case atStart=>exact⟨0,by omega,rfl,fun j hj=>by omega,ae _ _⟩
 case round =>
  obtain⟨k,hk,rfl,hno,hb⟩:=hrel;by_cases hlt:k<15
  ·have hx:=HIX.out k hlt
   obtain⟨lo,hi,hp⟩ : ∃lo hi,oe.getD k (0,0)=(lo,hi):=⟨_,_,rfl⟩;rw[hp]at hx;dsimp only at hx;have HP:=aa hp;have HNO:=aa hno;clear hp hno;have hkz:(k:Int)<15:=by omega
   by_cases h1:lo<=r
   ·by_cases h2:r<=hi
    ·go_wp2
     go_ret;exact⟨dH ((FI hlt (by rw[HP.out];simp[rB,h1,h2])).symm.trans HBB.out),hb.alloc hb.size _⟩
    ·go_wp2
     go_roundw
     case rel=>exact⟨k+1,hlt,by go_num,kU HNO.out (by rw[HP.out];simp[rB,h2]),hb.alloc hb.size _⟩
     case measure=>simp[intOf];omega
   ·go_wp2
    go_roundw
    case rel=>exact⟨k+1,hlt,by go_num,kU HNO.out (by rw[HP.out];simp[rB,h1]),hb.alloc hb.size _⟩
    case measure=>simp[intOf];omega
  ·obtain rfl:k=15:=by omega
   go_wp2;go_ret;exact⟨dH ((G7 hno).symm.trans HBB.out),hb⟩
def GW(w:World)(r:Int)(i:Value)(wr:World):Prop:=∃k:Nat,k<=5/\i=.int .i64 k/\(∀j,j<k->rB r (ml.getD j (0,0))=false)/\Below w.heap.size w wr
theorem wX(r:Int)(w:World)(hT:kz w):Calls Tryz.prog 197 #[.int .i32 r] w fun e w'=>e=.returned (.bool (fK r))/\Below w.heap.size w w':=by
 obtain⟨C,hC⟩ : ∃C,mo ml=C:=⟨_,rfl⟩;have hRB:w.rangeAt 7 0 C:=fun j v hv=>by rw[ci];exact hT.fol j v (by rw[Fk,hC];simpa using hv)
 have hI:(Tryz.prog.info? 209).map (·.size)=some C.length:=by rw[<-hC];kernel_rfl
 have HRB:=aa hRB;have HI:=aa hI;have hix:=Fb;have h5:=hT.five;have HT:=aa hT;clear hT;rw[Fk,hC]at hix;have HIX:=aa hix;obtain⟨B,hB⟩ : ∃B,fK r=B:=⟨_,rfl⟩;rw[hB];have HBB:=aa hB;clear hix hC hRB hI hB;go_enter Tryz.func197,Tryz.ntmps197
 go_wp2_with (refine wpList_load_mid rfl 209 _ rfl 7 0 rfl C _ HRB.out Tryz.underlying209 rfl HI.out ?_)
 clear HRB HI;generalize C.toArray=C at *
 go_loopw [6] (GW w r) (fun i _=>5-(intOf i).toNat)
 case atStart=>exact⟨0,by omega,rfl,fun j hj=>by omega,ae _ _⟩
 case round =>
  obtain⟨k,hk,rfl,hno,hb⟩:=hrel;by_cases hlt:k<5
  ·have hx:=HIX.out k hlt
   obtain⟨lo,hi,hp⟩ : ∃lo hi,ml.getD k (0,0)=(lo,hi):=⟨_,_,rfl⟩;rw[hp]at hx;dsimp only at hx;have HP:=aa hp;have HNO:=aa hno;clear hp hno;have hkz:(k:Int)<5:=by omega
   by_cases h1:lo<=r
   ·by_cases h2:r<=hi
    ·go_wp2
     go_ret;exact⟨dH ((Fj hlt (by rw[HP.out];simp[rB,h1,h2])).symm.trans HBB.out),hb.alloc hb.size _⟩
    ·go_wp2
     go_roundw
     case rel=>exact⟨k+1,hlt,by go_num,kU HNO.out (by rw[HP.out];simp[rB,h2]),hb.alloc hb.size _⟩
     case measure=>simp[intOf];omega
   ·go_wp2
    go_roundw
    case rel=>exact⟨k+1,hlt,by go_num,kU HNO.out (by rw[HP.out];simp[rB,h1]),hb.alloc hb.size _⟩
    case measure=>simp[intOf];omega
  ·obtain rfl:k=5:=by omega
   have HB:=aa (qo r wr (HT.out.below h5 hb));have e:=(GU hno).symm.trans HBB.out;have HE:=aa e;clear hno e
   go_wp2_with (go_at_call 196;refine HB.out.mono ?_;rintro e w' ⟨rfl,hb1⟩)
   go_ret;exact⟨dH HE.out,hb.trans (hb1.mono hb.size)⟩
theorem ws(S:ByteArray):(⟨S.data.toList.toArray⟩ : ByteArray)=S:=by simp
theorem cp{S R:ByteArray}(h:S.data.toList=R.data.toList):S=R:=by rw[<-ws S,<-ws R,h]
theorem cS(S:ByteArray)(a b:Nat):(S.extract a b).data.toList=(S.data.toList.take b).drop a:=by
 simp only[ByteArray.data_extract,Array.toList_extract,List.take_drop];by_cases h:a<=b
 ·rw[Nat.add_sub_cancel' h]
 ·rw[show b-a=0 by omega,Nat.add_zero,cj (by rw[aY];omega),cj (by rw[aY];omega)]
theorem aF(S:ByteArray):S.size=S.data.toList.length:=Lib.size_eq S
theorem kY(S:ByteArray)(hS:S.size<=2000000)(w:World):∃(cap:Nat) (W:World),(convert 9 22 (.string S)).run Tryz.prog w=.ok (.slice (some ⟨w.heap.size,0,none⟩) S.size cap) W /\
 (∀j (hj:j<S.data.toList.length),W.cell? ⟨w.heap.size,0+j,none⟩=some (.int .u8 (S.data.toList[j].toNat:Int)))/\w.heap.size<W.heap.size/\Below w.heap.size w W/\S.size<=cap/\cap<=9223372036854775807:=by
 refine⟨_,_,run_bytes_of_string w 9 22 5 S Tryz.underlying9 Tryz.underlying22 Tryz.underlying5,?_,by simp,?_,grownCap_ge _ _ _ _,?_⟩
 ·intro j hj
  rw[ci];have hh:=ar w.drew (.cells (bytesRow S (grownCap w S.size 0 5)) 5 ((bytesRow S (grownCap w S.size 0 5)).size,(bytesRow S (grownCap w S.size 0 5)).size+1));rw[ai _ w.heap.size j _ _ _ hh,bytesRow_at _ _ j (by simpa using hj)]
  simp
 ·exact((ae w.heap.size w).drew).alloc (af _) _
 ·have:=grownCap_le_maxLen w S.size 0 5 (by unfold maxLen;omega)
  unfold maxLen at this;exact this
theorem cz(S:ByteArray){i:Nat}(h:i<S.data.toList.length)(w:World):(Instr.index 9 (.string S) (.int .i64 (i:Int))).run Tryz.prog w=.ok (.int .u8 ((S.data.toList[i].toNat:Nat):Int)) w:=by
 have hs:i<S.size:=by rw[aF];exact h
 have e:S[i]? = some S.data.toList[i]:=by
  rw[getElem?_pos S i hs];rfl
 simp[Instr.index,asIntOf,run_underlying Tryz.underlying9,e]
theorem Bu:(Tryz.prog.info? 5).map (fun i=>(i.zero,i.size,i.bytes))=some (some (.int .u8 0),1,1):=by kernel_rfl
theorem qD(S:ByteArray)(hlen:S.size<=2000000)(w:World):Calls Tryz.prog 80 #[.string S] w fun e w'=>e=.returned (.string S)/\Below w.heap.size w w':=by
 by_cases h0:S.size=0
 ·obtain rfl:S=⟨#[]⟩:=cp (aD (by rw[<-aF];exact h0))
  go_enter Tryz.func80,Tryz.ntmps80;go_wp2;go_ret;exact⟨rfl,ae _ _⟩
 ·obtain⟨i0,hi,hz0,hz1,hz2⟩:=info_parts Bu
  have hone:(Tryz.prog.info? 5).map (·.size)=some 1:=by rw[hi];simp[hz1]
  have hce:Tryz.prog.cellsOf 5 = 1:=by kernel_rfl
  obtain⟨M,hM⟩ : ∃M,M=madeCells (Value.int .u8 0).cells (((S.size:Nat):Int).toNat*i0.size):=⟨_,rfl⟩;have hMs:M.size=S.size:=by rw[hM,size_madeCells,hz1];simp
  have hmk:∀W:World,(Instr.makeSlice 22 (.int .i64 (S.size:Int)) (.int .i64 (S.size:Int))).run Tryz.prog W=.ok (.slice (some ⟨W.heap.size,0,none⟩) S.size S.size) (W.alloc (.cells M 5)):=fun W=>by
   have h:=run_make (P:=Tryz.prog) W 22 5 i0 (.int .u8 0) Tryz.underlying22 hi hz0 .i64 .i64 (S.size:Int) (S.size:Int) (by omega) (by omega) (by rw[hz2];omega) (by omega)
   rw[<-hM]at h;simpa using h
  clear hM;have hcp:=Lib.run_copy_row_string (P:=Tryz.prog) (w.alloc (.cells M 5)) 22 9 3 5 w.heap.size 0 S.size S.size S M 5 Tryz.underlying22 hone (ar w _) (af _) (by omega)
  have hrow:(M.toList.take 0++Lib.byteCells S.data.toList++M.toList.drop (0+S.size)).toArray=(Lib.byteCells S.data.toList).toArray:=by
   rw[List.take_zero,aE,cj (by rw[Array.length_toList];omega),bo]
  rw[hrow,World.setRow_alloc_new]at hcp;obtain⟨Y,hY⟩ : ∃Y,(Lib.byteCells S.data.toList).toArray=Y:=⟨_,rfl⟩;rw[hY]at hcp;have hYl:Y.toList=Lib.byteCells S.data.toList:=by rw[<-hY]
  have hYs:Y.size=S.size:=by rw[<-Array.length_toList,hYl,Lib.byteCells_length,<-Lib.size_eq]
  have hne:S.data.toList≠[]:=fun e=>h0 (by rw[Lib.size_eq,e];rfl)
  have hus:=Lib.run_unsafeString_row (P:=Tryz.prog) (w.alloc (.cells Y 5)) 137 3 9 5 Tryz.underlying137 hce w.heap.size Y.size (by unfold World.shape?;rw[ar]) S.data.toList hne (by rw[<-Lib.size_eq];omega) (by rw[<-Lib.size_eq];omega)
   (fun j x hx=>Lib.cells_of_row (ar w _) Y.size j _ (by rw[bC (by rw[Array.length_toList];exact af _),hYl];simp[Lib.byteCells,hx]))
  rw[<-Lib.size_eq]at hus;have hSS:(⟨S.data.toList.toArray⟩ : ByteArray)=S:=ws S;rw[hSS]at hus;clear hY hrow hSS hne hYl hYs hMs hone hce;have hz:((S.size:Int)==0)=false:=by rw[ak];omega
  go_enter Tryz.func80,Tryz.ntmps80;go_wp2;go_ret;exact⟨rfl,Lib.below_freeze ((ae _ w).alloc (af _) _) (p:=⟨w.heap.size,0,none⟩) (af _) _⟩
theorem dE(S:ByteArray)(hlen:S.size<=2000000)(w:World):Calls Tryz.prog 46 #[.string S] w fun e w'=>e=.returned (.string S)/\Below w.heap.size w w':=by
 have HC:=aa (qD S hlen w);go_enter Tryz.func46,Tryz.ntmps46
 go_wp2_with fail
 refine HC.out.mono ?_;rintro e w'⟨rfl,hb⟩;go_wp2;go_ret;exact⟨rfl,hb⟩
open Classical in
noncomputable def xu(s:List UInt8):Bool:=decide (nm s)
theorem lY{s:List UInt8}:xu s=true↔nm s:=by simp[xu]
theorem pK{s:List UInt8}(h:¬nm s):xu s=false:=by simp[xu,h]
theorem kL{s:List UInt8}(h:nm s):xu s=true:=lY.2 h
theorem CI{s:List UInt8}(h:nm s):Lib.validD s=true:=by
 obtain⟨l,_,hn,e⟩:=h;exact(iX s).2 ⟨l,tf hn,e⟩
theorem yC{l:List Int}(hl:l.all eA=true):nm (bg l)↔l≠[]/\oq l=true:=by
 constructor
 ·rintro⟨k,hk,hn,e⟩
  obtain rfl:=nv hl (tf hn) e;exact⟨hk,hn⟩
 ·rintro⟨h1,h2⟩
  exact⟨l,h1,h2,rfl⟩
theorem CL{l:List Int}(hl:l.all eA=true)(r:Int)(t:List Int)(e:l=r::t):xu (bg l)=(g8 r&&t.all fK):=by
 rw[bm,lY,yC hl,e];simp[oq]
theorem zO{w:World}{B:Nat}{A:Option Addr}{r:Int}{t:List Int}{cap:Nat}(hl:en w B A (fo (r::t)))(hc:(r::t).length<=cap) :
 ∃A',(∀W,(Instr.slice 92 (.slice A (t.length+1) cap) (some (.int .i64 1)) none none).run Tryz.prog W=.ok (.slice A' t.length (cap-1)) W)/\en w B A' (fo t):=by
 have hs:∀w,(sizeOf 21).run Tryz.prog w=.ok 1 w:=fun w=>by kernel_rfl
 refine⟨if cap=1 then A else A.map (·.add 1),fun W => ?_,fun hne => ?_⟩
 ·have h1:(1:Int)<=(t.length:Int)+1:=by omega
  simp[Instr.slice,run_underlying Tryz.underlying92,Instr.sliceBounds,Instr.sliceBound,asIntOf,hs,h1]
 ·obtain⟨b,o,rfl,hb,hcell⟩:=hl (by simp[fo])
  have ht:0<t.length:=by
   rcases bw t.length with h|h
   ·rw[aD h]at hne;exact absurd rfl hne
   ·exact h
  rw[az]at hc;refine⟨b,o+1,by rw[am (by omega)];simp[Addr.add],hb,fun j hj => ?_⟩
  have hj':j<t.length:=by simpa [fo]using hj
  have:=hcell (j+1) (by simp[fo];omega)
  rw[Nat.add_assoc,Nat.add_comm 1 j];simpa [fo]using this
def Ix(w:World)(t:List Int)(i:Value)(wr:World):Prop:=∃k:Nat,k<=t.length/\i=.int .i64 k/\(t.take k).all fK=true/\Below w.heap.size w wr
theorem Hh{t:List Int}{k:Nat}(h:k<t.length)(hz:fK t[k]=false):t.all fK=false:=by
 rw[List.all_eq_false];exact⟨t[k],aJ _,by simp[hz]⟩
theorem DS{t:List Int}{k:Nat}(h:k<t.length)(ha:(t.take k).all fK=true)(hz:fK t[k]=true):(t.take (k+1)).all fK=true:=by
 rw[aN h,List.all_append,ha];simp[hz]
theorem lz(S:ByteArray)(hlen:S.size<=2000000)(w:World)(hT:kz w):Calls Tryz.prog 170 #[.string S] w fun e w'=>e=.returned (.bool (xu S.data.toList))/\Below w.heap.size w w':=by
 have h5:=hT.five;have HT:=aa hT;obtain⟨c,W,hcv,hcell,hsz,hbW,hc1,hc2⟩:=kY S (by omega) w
 have hlies:en W W.heap.size (some ⟨w.heap.size,0,none⟩) (ec S.data.toList):=fI hsz hcell
 have HCH:Hid (Calls Tryz.prog 195 #[.slice (some ⟨w.heap.size,0,none⟩) S.size c] W fun e w'=>sc S.data.toList e w'/\Below W.heap.size W w'):=by
  have h:=Bp (some ⟨w.heap.size,0,none⟩) c S.data.toList W (hT.below h5 hbW).u hlies (by rw[<-aF];exact hc1) hc2 (by rw[<-aF];exact hlen)
  rwa [<-aF]at h
 obtain⟨B,hB⟩ : ∃B,xu S.data.toList=B:=⟨_,rfl⟩;rw[hB];have HB:=aa hB;clear hB hcell hlies hc1 hc2 hT;go_enter Tryz.func170,Tryz.ntmps170
 go_wp2_with fail
 refine HCH.out.mono ?_;rintro e w1⟨⟨l,A,cap,hall,hbs,rfl,hli,hlc⟩|⟨hv,rfl⟩,hb1⟩
 ·have hbw:Below w.heap.size w w1:=hbW.trans (hb1.mono hbW.size)
  have hbws:=hbw.size;have hll:l.length<=2000000:=by have:=jJ l;rw[<-hbs,<-aF]at this;omega
  rw[hbs]at HB;clear hb1 hbW HCH hcv hbs;cases l with
  |nil =>
   have hF:false=B:=by rw[<-HB.out];exact(pK (fun h=>((yC hall).1 h).1 rfl)).symm
   subst hF;clear HB hall hli;go_wp2;go_ret;exact⟨rfl,hbw⟩
  |cons r t =>
   have hBB:=HB.out;rw[CL hall r t rfl]at hBB;have HBB:=aa hBB;obtain⟨A',hsl,hli'⟩:=zO hli hlc;obtain⟨b,o,rfl,hbb,hcc⟩:=hli (by simp[fo])
   have c0:w1.cell? ⟨b,o,none⟩=some (.int .i32 r):=by
    have:=hcc 0 (by simp[fo])
    simpa [fo]using this
   have HLI:=aa hli';have HBG:=aa (qo r w1 (HT.out.below h5 hbw));have hlen':(r::t).length=t.length+1:=rfl;have htl:t.length<=2000000:=by rw[hlen']at hll;omega
   rw[hlen'];have htz:((t.length:Int)+1==0)=false:=by rw[ak];omega
   have htp:(0:Int)<(t.length:Int)+1:=by omega
   clear HB hBB hcc hli hli' hall hlc hlen' hll;cases hbg:g8 r with
   |false =>
    rw[hbg]at HBG HBB;have hF:false=B:=HBB.out;subst hF;clear HBB
    go_wp2_with fail
    refine HBG.out.mono ?_;rintro e w2⟨rfl,hb2⟩;go_wp2;go_ret;exact⟨rfl,hbw.trans (hb2.mono hbws)⟩
   |true =>
    rw[hbg]at HBG HBB;have HBC:Hid (t.all fK=B):=HBB.out;clear HBB
    go_wp2_with fail
    refine HBG.out.mono ?_;rintro e w2⟨rfl,hb2⟩;have hbw2:=hbw.trans (hb2.mono hbws);have hbws2:=hbw2.size;have HLI2:=aa ((HLI.out.below hb2).mono hb2.size);clear HBG HLI c0 hb2;go_wp2;clear hsl
    go_loopw [30] (Ix w2 t) (fun i _=>t.length-(intOf i).toNat)
    case atStart=>exact⟨0,aM _,rfl,rfl,ae _ _⟩
    case round =>
     obtain⟨k,hk,rfl,hal,hbr⟩:=hrel;have hbt:=hbw2.trans (hbr.mono hbws2);have HAL:=aa hal;clear hal;by_cases hlt:k<t.length
     ·obtain⟨b',o',rfl,hbb',hcc⟩:=HLI2.out (by intro h;simp[fo]at h;subst h;simp at hlt)
      have hck:wr.cell? ⟨b',o'+k,none⟩=some (.int .i32 t[k]):=by
       have:=(hbr.cell (p:=⟨b',o'+k,none⟩) hbb').trans (hcc k (by simpa [fo]using hlt))
       simpa [fo]using this
      clear hcc;have HST:=aa (wX t[k] wr (HT.out.below h5 hbt));obtain⟨z,hz⟩ : ∃z,t[k]=z:=⟨_,rfl⟩;rw[hz]at hck HST;have HZ:=aa hz;clear hz;have hkz:(k:Int)<(t.length:Int):=by omega
      cases hst:fK z with
      |false =>
       rw[hst]at HST;have hF:false=B:=by rw[<-HBC.out];exact(Hh hlt (by rw[HZ.out];exact hst)).symm
       subst hF;clear HBC
       go_wp2_with fail
       refine HST.out.mono ?_;rintro e w3⟨rfl,hb3⟩;go_wp2;go_ret;exact⟨rfl,hbt.trans (hb3.mono hbt.size)⟩
      |true =>
       rw[hst]at HST
       go_wp2_with fail
       refine HST.out.mono ?_;rintro e w3⟨rfl,hb3⟩;go_wp2
       go_roundw
       case rel=>exact⟨k+1,hlt,by go_num,DS hlt HAL.out (by rw[HZ.out];exact hst),hbr.trans (hb3.mono hbr.size)⟩
       case measure=>simp[intOf];omega
     ·have hT:true=B:=by
       rw[<-HBC.out];have:=HAL.out;rw[bC (by omega)]at this
       exact this.symm
      subst hT;have hkz:¬(k:Int)<(t.length:Int):=by omega
      go_wp2;go_ret;exact⟨rfl,hbt⟩
 ·have hbw:Below w.heap.size w w1:=hbW.trans (hb1.mono hbW.size)
  have hF:false=B:=by
   rw[<-HB.out];exact(pK (fun h=>by rw[CI h]at hv;cases hv)).symm
  subst hF;clear hv HB HCH hcv;go_wp2;go_ret;exact⟨rfl,hbw⟩
def zt(S:ByteArray)(e:Ending):Prop:=∃l rest,mR S.data.toList l rest/\e=.returned (.int .i64 ((bg l).length:Nat))
def Iw(w:World)(S:ByteArray)(i:Value)(wr:World):Prop:=∃(k:Nat) (l:List Int) (rest:List UInt8),i=.int .i64 k/\(bg l).length=k/\oq l=true/\S.data.toList=bg l++rest/\Below w.heap.size w wr
theorem Cr{s rest x:List UInt8}{l:List Int}{r:Int}(e:s=bg l++rest)(hl:oq l=true)(hr:eA r=true)(hx:rest=bD r++x)(hg:lB l r=false):mR s l rest :=
 ⟨e,hl,fun r' x' hr' e'=>by
  obtain⟨rfl,_⟩:=mx hr hr' (hx.symm.trans e');exact hg⟩
theorem uG{s rest:List UInt8}{l:List Int}(e:s=bg l++rest)(hl:oq l=true)(hb:¬uc rest):mR s l rest :=
 ⟨e,hl,fun r x hr hx=>absurd ⟨r,x,hr,hx⟩ hb⟩
theorem x9:¬uc []:=by
 rintro⟨r,x,_,e⟩;have:=congrArg List.length e;have hp:=dY r;rw[aj]at this;simp at this;omega
theorem AK{l:List Int}(h:l≠[])(r:Int):lB l r=fK r:=by
 cases l with
 |nil=>exact absurd rfl h
 |cons _ _=>rfl
theorem nK(S:ByteArray)(hlen:S.size<=2000000)(w:World):Calls Tryz.prog 150 #[.string S] w fun e w'=>zt S e/\Below w.heap.size w w':=by
 obtain⟨N,hN⟩ : ∃N,S.size=N:=⟨_,rfl⟩;rw[hN]at hlen;go_enter Tryz.func150,Tryz.ntmps150;go_wp2
 go_loopw [3] (Iw w S) (fun i _=>N-(intOf i).toNat)
 case atStart=>exact⟨0,[],S.data.toList,rfl,rfl,rfl,rfl,ae _ _⟩
 case round =>
  obtain⟨k,l,rest,rfl,hkl,hnl,hs,hb⟩:=hrel;have hbs:=hb.size;have hlenN:k+rest.length=N:=by rw[<-hN,aF,hs,aj,hkl]
  have HS:=aa hs;have HKL:=aa hkl;have HNL:=aa hnl;by_cases hlt:k<N
  ·have hkz:(k:Int)<(N:Int):=by omega
   have hkz2:(k:Int)<=(N:Int):=by omega
   obtain⟨R,hR⟩ : ∃R,S.extract k N=R:=⟨_,rfl⟩;have hRl:R.data.toList=rest:=by rw[<-hR,cS,<-hN,aF,cL,hs,<-hkl,List.drop_left]
   have hRs:R.size=rest.length:=by rw[aF,hRl]
   obtain⟨n,hn⟩ : ∃n,rest.length=n:=⟨_,rfl⟩;rw[hn]at hRs;obtain⟨c,W,hcv,hcell,hsz,hbW,hc1,hc2⟩:=kY R (by omega) wr
   have hFI:Calls Tryz.prog 98 #[.slice (some ⟨wr.heap.size,0,none⟩) n c] W fun e w'=>wH rest e/\Below W.heap.size W w':=by
    refine rI wr.heap.size 0 n c rest W hn (by omega) (by omega) hc2 hsz (fun j hj => ?_)
    have:=hcell j (by rw[hRl];exact hj)
    simpa [hRl]using this
   have HFI:=aa hFI;rw[hRs]at hcv;have HN:=aa hn;have hbw:Below w.heap.size w W:=hb.trans (hbW.mono hbs);clear hs hkl hnl hRl hcell hc1 hc2 hFI hn hRs hbW
   go_wp2_with fail
   refine HFI.out.mono ?_;rintro e w1⟨⟨r,x,hr,hx,rfl⟩|⟨hnb,rfl⟩,hb1⟩
   ·have hbw1:Below w.heap.size w w1:=hbw.trans (hb1.mono hbw.size)
    obtain⟨K,hK⟩ : ∃K,(bD r).length=K:=⟨_,rfl⟩;have hK1:1<=K:=by rw[<-hK];exact dY r
    have hK2:K<=rest.length:=by rw[hx,aj,hK];omega
    rw[hK];have HK:=aa hK;have HX:=aa hx;have HR:=aa hr;have hK0:((K:Int)==0)=false:=by rw[ak];omega
    have HBG:=aa (lj r);have HST:=aa (qA r);have hKN:k+K<=N:=by omega
    have HNX:Hid (lB l r=true->Iw w S (.int .i64 ((k+K:Nat):Int)) w1):=fun hg =>
     ⟨k+K,l++[r],x,rfl,by rw[de,aj,HKL.out];simp[bg,HK.out],by rw[pJ,HNL.out,hg];rfl,by rw[HS.out,HX.out,de];simp[bg],hbw1⟩
    have HOUT:Hid (lB l r=false->zt S (.returned (.int .i64 (k:Nat)))):=fun hg =>
     ⟨l,rest,Cr HS.out HNL.out HR.out HX.out hg,by rw[HKL.out]⟩
    clear hK hx hr hb1 HFI hcv hR hK2;by_cases hl0:l=[]
    ·have hk0:((k:Int)==0)=true:=by rw[bc,<-HKL.out,hl0];rfl
     have hg0:lB l r=g8 r:=by rw[hl0];rfl
     rw[hg0]at HNX HOUT;clear hl0 hg0;cases hbg:g8 r with
     |false =>
      rw[hbg]at HNX HOUT HBG
      go_wp2_with fail
      refine(HBG.out _).mono ?_;rintro e w'⟨rfl,hw⟩;rw[hw];go_wp2;go_ret;exact⟨HOUT.out (by simp),hbw1⟩
     |true =>
      have hst:=pg hbg;rw[hbg]at HNX HOUT HBG;rw[hst]at HST
      go_wp2_with fail
      refine(HBG.out _).mono ?_;rintro e w'⟨rfl,hw⟩;rw[hw]
      go_wp2_with fail
      refine(HST.out _).mono ?_;rintro e w''⟨rfl,hw'⟩;rw[hw'];clear hw hw';go_wp2
      go_roundw
      case rel=>exact(show Value.int .i64 ((k+K:Nat):Int)=_ by go_num) ▸ HNX.out (by simp)
      case measure=>simp[intOf];omega
    ·have hk0:((k:Int)==0)=false:=by
      rw[ak];intro h;have:(bg l).length=0:=by rw[HKL.out];omega
      exact hl0 (nu (aD this))
     have hg0:lB l r=fK r:=AK hl0 r;rw[hg0]at HNX HOUT;clear hl0 hg0;cases hst:fK r with
     |false =>
      rw[hst]at HNX HOUT HST
      go_wp2_with fail
      refine(HST.out _).mono ?_;rintro e w'⟨rfl,hw⟩;rw[hw];go_wp2;go_ret;exact⟨HOUT.out (by simp),hbw1⟩
     |true =>
      rw[hst]at HNX HOUT HST
      go_wp2_with fail
      refine(HST.out _).mono ?_;rintro e w'⟨rfl,hw⟩;rw[hw];clear hw;go_wp2
      go_roundw
      case rel=>exact(show Value.int .i64 ((k+K:Nat):Int)=_ by go_num) ▸ HNX.out (by simp)
      case measure=>simp[intOf];omega
   ·have hbw1:Below w.heap.size w w1:=hbw.trans (hb1.mono hbw.size)
    have HNB:=aa hnb;clear hnb HFI hcv hR hb1;go_wp2;go_ret;exact⟨⟨l,rest,uG HS.out HNL.out HNB.out,by rw[HKL.out];rfl⟩,hbw1⟩
  ·have hkz:¬(k:Int)<(N:Int):=by omega
   have hr0:rest=[]:=aD (by omega)
   have HR0:=aa hr0;clear hs hkl hnl hr0;go_wp2;go_ret;exact⟨⟨l,rest,uG HS.out HNL.out (by rw[HR0.out];exact x9),by rw[HKL.out];rfl⟩,hb⟩
theorem pH{S:ByteArray}(h:S.data.toList≠[]):(S.toList == [])=false/\S.toList.isEmpty=false:=by
 rw[aq];refine⟨by simpa using h,by simpa using h⟩
theorem ia(S:ByteArray)(hlen:S.size<=2000000)(w:World):Calls Tryz.prog 153 #[.string S] w fun e w'=>e=.returned (.bool (xu S.data.toList))/\Below w.heap.size w w':=by
 by_cases hS:S.data.toList=[]
 ·obtain rfl:S=⟨#[]⟩:=cp hS
  have hno:xu (⟨#[]⟩ : ByteArray).data.toList=false:=pK (fun h=>CJ h rfl);rw[hno];clear hno hS hlen;go_enter Tryz.func153,Tryz.ntmps153;go_wp2;go_ret;exact⟨rfl,ae _ _⟩
 ·obtain⟨t1,t2⟩:=pH hS
  obtain⟨B,hB⟩ : ∃B,xu S.data.toList=B:=⟨_,rfl⟩;rw[hB];have HB:=aa hB;have HS:=aa hS;have HL:=aa (nK S hlen w);clear hB hS;go_enter Tryz.func153,Tryz.ntmps153
  go_wp2_with fail
  refine HL.out.mono ?_;rintro e w1⟨⟨l,rest,hrun,rfl⟩,hb1⟩;have hsum:(bg l).length+rest.length=S.size:=by rw[aF,hrun.eq,aj]
  have his:=hrun.is;have heq:=hrun.eq;obtain⟨K,hK⟩ : ∃K,(bg l).length=K:=⟨_,rfl⟩;rw[hK]at hsum ⊢;by_cases hq:rest=[]
  ·have hT:true=B:=by
    rw[<-HB.out];refine(kL (his.2 ⟨fun h => ?_,hq⟩)).symm;rw[h,hq]at heq;exact HS.out heq
   subst hT;have hKs:((K:Int)==(S.size:Int))=true:=by rw[bc,<-hsum,hq];simp
   clear his heq hrun hK hsum hq HB HL;go_wp2;go_ret;exact⟨rfl,hb1⟩
  ·have hF:false=B:=by
    rw[<-HB.out];exact(pK (fun h=>hq (his.1 h).2)).symm
   subst hF
   have hKs:((K:Int)==(S.size:Int))=false:=by
    rw[ak];intro h;exact hq (aD (by omega))
   clear his heq hrun hK hsum hq HB HL;go_wp2;go_ret;exact⟨rfl,hb1⟩
end Go.Proofs.YteinegfbpfhflaaGreatDoor
