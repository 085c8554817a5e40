/-
  name.Begins and name.Stands, over the program's own tables. Conditions: the tables lie as they are laid.
  Texts: as bytes, at an index, in pieces; where a byte first stands; cut at a colon; copied. Conditions: none.
  name.Is: whether a text is a name. Conditions: the tables lie as they are laid; the text is not too long.
  The document's own answers on names: how long a text is one, whether it is one, a full name's parts. Conditions: the text is not too long.
-/
import Derived.Test.YtlgcigmolfhamaaGreatDoorK07
import Derived.Laws.Rows
import Derived.Deep.MidRow
import Derived.Laws.Externs
import Derived.Laws.MakeOwn
import Derived.Laws.IdiomStrings
import Derived.Laws.AppendOwn
import Derived.Lib.Bytealg
import Derived.Lib.BufferWrite
import Derived.Lib.UnsafeStr
import Derived.Deep.Draws
import Derived.Deep.QuietTactic
import Derived.BigQuiet
import Derived.Deep.WholeRow
namespace Go.Proofs.YtlgcigmolfhamaaGreatDoor
open Go.RowKit
set_option linter.unusedVariables false
set_option maxHeartbeats 4000000
def a5A:List (Int×Int):=[(65,90),(95,95),(97,122),(192,214),(216,246),(248,767),(880,893),(895,8191),(8204,8205),(8304,8591),(11264,12271),(12289,55295),(63744,64975),(65008,65533),(65536,983039)]
def a4i:List (Int×Int):=[(45,46),(48,57),(183,183),(768,879),(8255,8256)]
def a4l(t:List (Int×Int)):List Value:=t.flatMap fun p => [.int .i32 p.1,.int .i32 p.2]
def b9i:Array Value:=(a4l a5A).toArray
def b8S:Array Value:=(a4l a4i).toArray
def inB(r:Int)(p:Int×Int):Bool:=decide (p.1<=r/\r<=p.2)
theorem b1s(r:Int):a1n r=a5A.any (inB r):=by
 rw[A8];simp only[a1n,a5A,inB,List.any_cons,List.any_nil,t8,Bool.or_eq_true,Bool.or_false];omega
theorem a99(r:Int):Z9 r=(a4i.any (inB r)||a1n r):=by
 rw[A8,a8D];simp only[a4i,inB,List.any_cons,List.any_nil,t8,Bool.or_eq_true,Bool.or_false];cases a1n r<;>simp<;>omega
theorem b7z{t:List (Int×Int)}{r:Int}{k:Nat}(hk:k<t.length)(h:inB r (t.getD k (0,0))=true):t.any (inB r)=true:=by
 rw[List.getD_eq_getElem?_getD,i5 hk,Option.getD_some]at h;exact List.any_eq_true.2 ⟨_,o0 hk,h⟩
theorem b1z{t:List (Int×Int)}{r:Int}(h:∀j,j<t.length->inB r (t.getD j (0,0))=false):t.any (inB r)=false:=by
 rw[List.any_eq_false];intro x hx;obtain⟨j,hj,rfl⟩:=List.getElem_of_mem hx;have:=h j hj;rw[List.getD_eq_getElem?_getD,i5 hj,Option.getD_some]at this;simp[this]
theorem b9h{r:Int}{k:Nat}(hk:k<15)(h:inB r (a5A.getD k (0,0))=true):a1n r=true:=by rw[b1s];exact b7z hk h
theorem b8R{r:Int}{k:Nat}(hk:k<5)(h:inB r (a4i.getD k (0,0))=true):Z9 r=true:=by rw[a99,b7z (t:=a4i) hk h];rfl
theorem c0G{r:Int}(h:∀j,j<15->inB r (a5A.getD j (0,0))=false):a1n r=false:=by rw[b1s];exact b1z h
theorem c0p{r:Int}(h:∀j,j<5->inB r (a4i.getD j (0,0))=false):Z9 r=a1n r:=by rw[a99,b1z (t:=a4i) h];rfl
theorem a3i{p:Nat->Prop}{k:Nat}(h:∀j,j<k->p j)(hk:p k):∀j,j<k+1->p j:=fun j hj=>by
 rcases E9 (I2 hj)with h1|h1
 ·exact h j h1
 ·rw[h1];exact hk
structure a2Z(w:World):Prop where
 u:a7k w
 beg:∀j v,b9i[j]? = some v->w.cell? ⟨6,j,none⟩=some v
 fol:∀j v,b8S[j]? = some v->w.cell? ⟨7,j,none⟩=some v
theorem a2Z.five{w:World}(h:a2Z w):8<=w.heap.size:=by
 have h1:=h.u.two
 have h2 : 7 < w.heap.size:=by
  have hc:=h.fol 0 _ rfl;rcases Nat.lt_or_ge 7 w.heap.size with hlt|hge
  ·exact hlt
  ·rw[World.cell?,D4 hge]at hc;cases hc
 omega
theorem a2Z.below{w w':World}{B:Nat}(h:a2Z w)(hB:8<=B)(hb:Below B w w'):a2Z w' :=
 ⟨h.u.below ⟨by omega,by omega⟩ hb,fun j v hv=>(hb.cell (p:=⟨6,j,none⟩) (by show 6 < B;omega)).trans (h.beg j v hv),fun j v hv=>(hb.cell (p:=⟨7,j,none⟩) (by show 7 < B;omega)).trans (h.fol j v hv)⟩
theorem b8K:∀k,k<15->∀w,(Instr.index 243 (.agg b9i) (.int .i64 ((k:Nat):Int))).run Tryz.prog w=.ok (.agg #[.int .i32 (a5A.getD k (0,0)).1,.int .i32 (a5A.getD k (0,0)).2]) w
 |0,_,_=>by kernel_rfl
 |1,_,_=>by kernel_rfl
 |2,_,_=>by kernel_rfl
 |3,_,_=>by kernel_rfl
 |4,_,_=>by kernel_rfl
 |5,_,_=>by kernel_rfl
 |6,_,_=>by kernel_rfl
 |7,_,_=>by kernel_rfl
 |8,_,_=>by kernel_rfl
 |9,_,_=>by kernel_rfl
 |10,_,_=>by kernel_rfl
 |11,_,_=>by kernel_rfl
 |12,_,_=>by kernel_rfl
 |13,_,_=>by kernel_rfl
 |14,_,_=>by kernel_rfl
 |k+15,h,_=>by omega
theorem b8J:∀k,k<5->∀w,(Instr.index 244 (.agg b8S) (.int .i64 ((k:Nat):Int))).run Tryz.prog w=.ok (.agg #[.int .i32 (a4i.getD k (0,0)).1,.int .i32 (a4i.getD k (0,0)).2]) w
 |0,_,_=>by kernel_rfl
 |1,_,_=>by kernel_rfl
 |2,_,_=>by kernel_rfl
 |3,_,_=>by kernel_rfl
 |4,_,_=>by kernel_rfl
 |k+5,h,_=>by omega
def c0I(w:World)(r:Int)(i:Value)(wr:World):Prop:=∃k:Nat,k<=15/\i=.int .i64 k/\(∀j,j<k->inB r (a5A.getD j (0,0))=false)/\Below w.heap.size w wr
theorem a7e(r:Int)(w:World)(hT:a2Z w):Calls Tryz.prog 225 #[.int .i32 r] w fun e w'=>e=.returned (.bool (a1n r))/\Below w.heap.size w w':=by
 obtain⟨C,hC⟩ : ∃C,a4l a5A=C:=⟨_,rfl⟩;have D3:w.rangeAt 6 0 C:=fun j v hv=>by rw[F5];exact hT.beg j v (by rw[b9i,hC];simpa using hv)
 have hI:(Tryz.prog.info? 243).map (·.size)=some C.length:=by rw[<-hC];kernel_rfl
 have D9:=a8 D3;have HI:=a8 hI;have D1:=b8K;have h5:=hT.five;have HT:=a8 hT;clear hT;rw[b9i,hC]at D1;have E2:=a8 D1;obtain⟨B,hB⟩ : ∃B,a1n r=B:=⟨_,rfl⟩;rw[hB];have E0:=a8 hB;clear D1 hC D3 hI hB;go_enter Tryz.func225,Tryz.ntmps225
 go_wp2_with (refine wpList_load_mid rfl 243 _ rfl 6 0 rfl C _ D9.out Tryz.underlying243 rfl HI.out ?_)
 clear D9 HI;generalize C.toArray=C at *
 go_loopw [6] (c0I w r) (fun i _=>15-(intOf i).toNat)
 case atStart=>exact⟨0,by omega,rfl,fun j hj=>by omega,b8 _ _⟩
 case round =>
  obtain⟨k,hk,rfl,D2,hb⟩:=hrel;by_cases D0:k<15
  ·have hx:=E2.out k D0
   obtain⟨lo,hi,hp⟩ : ∃lo hi,a5A.getD k (0,0)=(lo,hi):=⟨_,_,rfl⟩;rw[hp]at hx;dsimp only at hx;have HP:=a8 hp;have E1:=a8 D2;clear hp D2;have E3:(k:Int)<15:=by omega
   by_cases h1:lo<=r
   ·by_cases h2:r<=hi
    ·go_wp2
     go_ret;exact⟨N5 ((b9h D0 (by rw[HP.out];simp[inB,h1,h2])).symm.trans E0.out),hb.alloc hb.size _⟩
    ·go_wp2
     go_roundw
     case rel=>exact⟨k+1,D0,by go_num,a3i E1.out (by rw[HP.out];simp[inB,h2]),hb.alloc hb.size _⟩
     case measure=>simp[intOf];omega
   ·go_wp2
    go_roundw
    case rel=>exact⟨k+1,D0,by go_num,a3i E1.out (by rw[HP.out];simp[inB,h1]),hb.alloc hb.size _⟩
    case measure=>simp[intOf];omega
  ·obtain rfl:k=15:=by omega
   go_wp2;go_ret;exact⟨N5 ((c0G D2).symm.trans E0.out),hb⟩
def c0r(w:World)(r:Int)(i:Value)(wr:World):Prop:=∃k:Nat,k<=5/\i=.int .i64 k/\(∀j,j<k->inB r (a4i.getD j (0,0))=false)/\Below w.heap.size w wr
theorem b1V(r:Int)(w:World)(hT:a2Z w):Calls Tryz.prog 226 #[.int .i32 r] w fun e w'=>e=.returned (.bool (Z9 r))/\Below w.heap.size w w':=by
 obtain⟨C,hC⟩ : ∃C,a4l a4i=C:=⟨_,rfl⟩;have D3:w.rangeAt 7 0 C:=fun j v hv=>by rw[F5];exact hT.fol j v (by rw[b8S,hC];simpa using hv)
 have hI:(Tryz.prog.info? 244).map (·.size)=some C.length:=by rw[<-hC];kernel_rfl
 have D9:=a8 D3;have HI:=a8 hI;have D2:=b8J;have h5:=hT.five;have HT:=a8 hT;clear hT;rw[b8S,hC]at D2;have E2:=a8 D2;obtain⟨B,hB⟩ : ∃B,Z9 r=B:=⟨_,rfl⟩;rw[hB];have E0:=a8 hB;clear D2 hC D3 hI hB;go_enter Tryz.func226,Tryz.ntmps226
 go_wp2_with (refine wpList_load_mid rfl 244 _ rfl 7 0 rfl C _ D9.out Tryz.underlying244 rfl HI.out ?_)
 clear D9 HI;generalize C.toArray=C at *
 go_loopw [6] (c0r w r) (fun i _=>5-(intOf i).toNat)
 case atStart=>exact⟨0,by omega,rfl,fun j hj=>by omega,b8 _ _⟩
 case round =>
  obtain⟨k,hk,rfl,D0,hb⟩:=hrel;by_cases D1:k<5
  ·have hx:=E2.out k D1
   obtain⟨lo,hi,hp⟩ : ∃lo hi,a4i.getD k (0,0)=(lo,hi):=⟨_,_,rfl⟩;rw[hp]at hx;dsimp only at hx;have HP:=a8 hp;have E1:=a8 D0;clear hp D0;have E4:(k:Int)<5:=by omega
   by_cases h1:lo<=r
   ·by_cases h2:r<=hi
    ·go_wp2
     go_ret;exact⟨N5 ((b8R D1 (by rw[HP.out];simp[inB,h1,h2])).symm.trans E0.out),hb.alloc hb.size _⟩
    ·go_wp2
     go_roundw
     case rel=>exact⟨k+1,D1,by go_num,a3i E1.out (by rw[HP.out];simp[inB,h2]),hb.alloc hb.size _⟩
     case measure=>simp[intOf];omega
   ·go_wp2
    go_roundw
    case rel=>exact⟨k+1,D1,by go_num,a3i E1.out (by rw[HP.out];simp[inB,h1]),hb.alloc hb.size _⟩
    case measure=>simp[intOf];omega
  ·obtain rfl:k=5:=by omega
   have HB:=a8 (a7e r wr (HT.out.below h5 hb));have e:=(c0p D0).symm.trans E0.out;have HE:=a8 e;clear D0 e
   go_wp2_with (go_at_call 225;refine HB.out.mono ?_;rintro e w' ⟨rfl,E3⟩)
   go_ret;exact⟨N5 HE.out,hb.trans (E3.mono hb.size)⟩
theorem b1u(S:ByteArray):(⟨S.data.toList.toArray⟩ : ByteArray)=S:=by simp
theorem G0{S R:ByteArray}(h:S.data.toList=R.data.toList):S=R:=by rw[<-b1u S,<-b1u R,h]
theorem J5(S:ByteArray)(a b:Nat):(S.extract a b).data.toList=(S.data.toList.take b).drop a:=by
 simp only[ByteArray.data_extract,Array.toList_extract,List.take_drop];by_cases h:a<=b
 ·rw[Nat.add_sub_cancel' h]
 ·rw[show b-a=0 by omega,Nat.add_zero,F9 (by rw[u0];omega),F9 (by rw[u0];omega)]
theorem j9(S:ByteArray):S.size=S.data.toList.length:=Lib.size_eq S
theorem a3p(S:ByteArray)(hS:S.size<=2000000)(w:World):∃(cap:Nat) (W:World),(convert 9 22 (.string S)).run Tryz.prog w=.ok (.slice (some ⟨w.heap.size,0,none⟩) S.size cap) W /\
 (∀j (hj:j<S.data.toList.length),W.cell? ⟨w.heap.size,0+j,none⟩=some (.int .u8 (S.data.toList[j].toNat:Int)))/\w.heap.size<W.heap.size/\Below w.heap.size w W/\S.size<=cap/\cap<=9223372036854775807:=by
 refine⟨_,_,run_bytes_of_string w 9 22 5 S Tryz.underlying9 Tryz.underlying22 Tryz.underlying5,?_,by simp,?_,grownCap_ge _ _ _ _,?_⟩
 ·intro j hj
  rw[F5];have hh:=g9 w.drew (.cells (bytesRow S (grownCap w S.size 0 5)) 5 ((bytesRow S (grownCap w S.size 0 5)).size,(bytesRow S (grownCap w S.size 0 5)).size+1));rw[d9 _ w.heap.size j _ _ _ hh,bytesRow_at _ _ j (by simpa using hj)]
  simp
 ·exact((b8 w.heap.size w).drew).alloc (c9 _) _
 ·have:=grownCap_le_maxLen w S.size 0 5 (by unfold maxLen;omega)
  unfold maxLen at this;exact this
theorem G7(S:ByteArray){i:Nat}(h:i<S.data.toList.length)(w:World):(Instr.index 9 (.string S) (.int .i64 (i:Int))).run Tryz.prog w=.ok (.int .u8 ((S.data.toList[i].toNat:Nat):Int)) w:=by
 have hs:i<S.size:=by rw[j9];exact h
 have e:S[i]? = some S.data.toList[i]:=by
  rw[getElem?_pos S i hs];rfl
 simp[Instr.index,asIntOf,run_underlying Tryz.underlying9,e]
theorem b5n:(Tryz.prog.info? 5).map (fun i=>(i.zero,i.size,i.bytes))=some (some (.int .u8 0),1,1):=by kernel_rfl
theorem a7p(S:ByteArray)(E4:S.size<=2000000)(w:World):Calls Tryz.prog 101 #[.string S] w fun e w'=>e=.returned (.string S)/\Below w.heap.size w w':=by
 by_cases h0:S.size=0
 ·obtain rfl:S=⟨#[]⟩:=G0 (j8 (by rw[<-j9];exact h0))
  go_enter Tryz.func101,Tryz.ntmps101;go_wp2;go_ret;exact⟨rfl,b8 _ _⟩
 ·obtain⟨i0,hi,E5,D3,E6⟩:=info_parts b5n
  have D0:(Tryz.prog.info? 5).map (·.size)=some 1:=by rw[hi];simp[D3]
  have D9:Tryz.prog.cellsOf 5 = 1:=by kernel_rfl
  obtain⟨M,hM⟩ : ∃M,M=madeCells (Value.int .u8 0).cells (((S.size:Nat):Int).toNat*i0.size):=⟨_,rfl⟩;have E7:M.size=S.size:=by rw[hM,size_madeCells,D3];simp
  have G1:∀W:World,(Instr.makeSlice 22 (.int .i64 (S.size:Int)) (.int .i64 (S.size:Int))).run Tryz.prog W=.ok (.slice (some ⟨W.heap.size,0,none⟩) S.size S.size) (W.alloc (.cells M 5)):=fun W=>by
   have h:=run_make (P:=Tryz.prog) W 22 5 i0 (.int .u8 0) Tryz.underlying22 hi E5 .i64 .i64 (S.size:Int) (S.size:Int) (by omega) (by omega) (by rw[E6];omega) (by omega)
   rw[<-hM]at h;simpa using h
  clear hM;have E0:=Lib.run_copy_row_string (P:=Tryz.prog) (w.alloc (.cells M 5)) 22 9 3 5 w.heap.size 0 S.size S.size S M 5 Tryz.underlying22 D0 (g9 w _) (c9 _) (by omega)
  have D1:(M.toList.take 0++Lib.byteCells S.data.toList++M.toList.drop (0+S.size)).toArray=(Lib.byteCells S.data.toList).toArray:=by
   rw[List.take_zero,l7,F9 (by rw[Array.length_toList];omega),A7]
  rw[D1,World.setRow_alloc_new]at E0;obtain⟨Y,hY⟩ : ∃Y,(Lib.byteCells S.data.toList).toArray=Y:=⟨_,rfl⟩;rw[hY]at E0;have D2:Y.toList=Lib.byteCells S.data.toList:=by rw[<-hY]
  have E8:Y.size=S.size:=by rw[<-Array.length_toList,D2,Lib.byteCells_length,<-Lib.size_eq]
  have E1:S.data.toList≠[]:=fun e=>h0 (by rw[Lib.size_eq,e];rfl)
  have E2:=Lib.run_unsafeString_row (P:=Tryz.prog) (w.alloc (.cells Y 5)) 171 3 9 5 Tryz.underlying171 D9 w.heap.size Y.size (by unfold World.shape?;rw[g9]) S.data.toList E1 (by rw[<-Lib.size_eq];omega) (by rw[<-Lib.size_eq];omega)
   (fun j x hx=>Lib.cells_of_row (g9 w _) Y.size j _ (by rw[C0 (by rw[Array.length_toList];exact c9 _),D2];simp[Lib.byteCells,hx]))
  rw[<-Lib.size_eq]at E2;have E3:(⟨S.data.toList.toArray⟩ : ByteArray)=S:=b1u S;rw[E3]at E2;clear hY D1 E3 E1 D2 E8 E7 D0 D9;have hz:((S.size:Int)==0)=false:=by rw[e9];omega
  go_enter Tryz.func101,Tryz.ntmps101;go_wp2;go_ret;exact⟨rfl,Lib.below_freeze ((b8 _ w).alloc (c9 _) _) (p:=⟨w.heap.size,0,none⟩) (c9 _) _⟩
theorem M8(S:ByteArray)(D0:S.size<=2000000)(w:World):Calls Tryz.prog 56 #[.string S] w fun e w'=>e=.returned (.string S)/\Below w.heap.size w w':=by
 have HC:=a8 (a7p S D0 w);go_enter Tryz.func56,Tryz.ntmps56
 go_wp2_with fail
 refine HC.out.mono ?_;rintro e w'⟨rfl,hb⟩;go_wp2;go_ret;exact⟨rfl,hb⟩
open Classical in
noncomputable def nmB(s:List UInt8):Bool:=decide (nm s)
theorem a38{s:List UInt8}:nmB s=true↔nm s:=by simp[nmB]
theorem a6D{s:List UInt8}(h:¬nm s):nmB s=false:=by simp[nmB,h]
theorem a37{s:List UInt8}(h:nm s):nmB s=true:=a38.2 h
theorem b6p{s:List UInt8}(h:nm s):Lib.validD s=true:=by
 obtain⟨l,_,hn,e⟩:=h;exact(a1L s).2 ⟨l,a89 hn,e⟩
theorem a87{l:List Int}(hl:l.all R7=true):nm (y9 l)↔l≠[]/\nmL l=true:=by
 constructor
 ·rintro⟨k,hk,hn,e⟩
  obtain rfl:=a45 hl (a89 hn) e;exact⟨hk,hn⟩
 ·rintro⟨h1,h2⟩
  exact⟨l,h1,h2,rfl⟩
theorem b6s{l:List Int}(hl:l.all R7=true)(r:Int)(t:List Int)(e:l=r::t):nmB (y9 l)=(a1n r&&t.all Z9):=by
 rw[A8,a38,a87 hl,e];simp[nmL]
theorem b4j{w:World}{B:Nat}{A:Option Addr}{r:Int}{t:List Int}{cap:Nat}(hl:Q3 w B A (W6 (r::t)))(hc:(r::t).length<=cap) :
 ∃A',(∀W,(Instr.slice 122 (.slice A (t.length+1) cap) (some (.int .i64 1)) none none).run Tryz.prog W=.ok (.slice A' t.length (cap-1)) W)/\Q3 w B A' (W6 t):=by
 have hs:∀w,(sizeOf 21).run Tryz.prog w=.ok 1 w:=fun w=>by kernel_rfl
 refine⟨if cap=1 then A else A.map (·.add 1),fun W => ?_,fun D1 => ?_⟩
 ·have h1:(1:Int)<=(t.length:Int)+1:=by omega
  simp[Instr.slice,run_underlying Tryz.underlying122,Instr.sliceBounds,Instr.sliceBound,asIntOf,hs,h1]
 ·obtain⟨b,o,rfl,hb,D0⟩:=hl (by simp[W6])
  have ht:0<t.length:=by
   rcases B9 t.length with h|h
   ·rw[j8 h]at D1;exact absurd rfl D1
   ·exact h
  rw[i8]at hc;refine⟨b,o+1,by rw[f6 (by omega)];simp[Addr.add],hb,fun j hj => ?_⟩
  have hj':j<t.length:=by simpa [W6]using hj
  have:=D0 (j+1) (by simp[W6];omega)
  rw[Nat.add_assoc,Nat.add_comm 1 j];simpa [W6]using this
def c1c(w:World)(t:List Int)(i:Value)(wr:World):Prop:=∃k:Nat,k<=t.length/\i=.int .i64 k/\(t.take k).all Z9=true/\Below w.heap.size w wr
theorem c0N{t:List Int}{k:Nat}(h:k<t.length)(hz:Z9 t[k]=false):t.all Z9=false:=by
 rw[List.all_eq_false];exact⟨t[k],o0 _,by simp[hz]⟩
theorem b7A{t:List Int}{k:Nat}(h:k<t.length)(ha:(t.take k).all Z9=true)(hz:Z9 t[k]=true):(t.take (k+1)).all Z9=true:=by
 rw[l8 h,List.all_append,ha];simp[hz]
theorem a3K(S:ByteArray)(G8:S.size<=2000000)(w:World)(hT:a2Z w):Calls Tryz.prog 199 #[.string S] w fun e w'=>e=.returned (.bool (nmB S.data.toList))/\Below w.heap.size w w':=by
 have h5:=hT.five;have HT:=a8 hT;obtain⟨c,W,J8,D2,L7,E0,J9,L0⟩:=a3p S (by omega) w
 have D3:Q3 W W.heap.size (some ⟨w.heap.size,0,none⟩) (P6 S.data.toList):=Y1 L7 D2
 have G9:Hid (Calls Tryz.prog 224 #[.slice (some ⟨w.heap.size,0,none⟩) S.size c] W fun e w'=>a8t S.data.toList e w'/\Below W.heap.size W w'):=by
  have h:=b5l (some ⟨w.heap.size,0,none⟩) c S.data.toList W (hT.below h5 E0).u D3 (by rw[<-j9];exact J9) L0 (by rw[<-j9];exact G8)
  rwa [<-j9]at h
 obtain⟨B,hB⟩ : ∃B,nmB S.data.toList=B:=⟨_,rfl⟩;rw[hB];have HB:=a8 hB;clear hB D2 D3 J9 L0 hT;go_enter Tryz.func199,Tryz.ntmps199
 go_wp2_with fail
 refine G9.out.mono ?_;rintro e w1⟨⟨l,A,cap,D1,J1,rfl,G4,L1⟩|⟨hv,rfl⟩,J2⟩
 ·have D9:Below w.heap.size w w1:=E0.trans (J2.mono E0.size)
  have E3:=D9.size;have L2:l.length<=2000000:=by have:=a2o l;rw[<-J1,<-j9]at this;omega
  rw[J1]at HB;clear J2 E0 G9 J8 J1;cases l with
  |nil =>
   have hF:false=B:=by rw[<-HB.out];exact(a6D (fun h=>((a87 D1).1 h).1 rfl)).symm
   subst hF;clear HB D1 G4;go_wp2;go_ret;exact⟨rfl,D9⟩
  |cons r t =>
   have J3:=HB.out;rw[b6s D1 r t rfl]at J3;have E1:=a8 J3;obtain⟨A',L8,E4⟩:=b4j G4 L1;obtain⟨b,o,rfl,M1,E5⟩:=G4 (by simp[W6])
   have c0:w1.cell? ⟨b,o,none⟩=some (.int .i32 r):=by
    have:=E5 0 (by simp[W6])
    simpa [W6]using this
   have L3:=a8 E4;have E6:=a8 (a7e r w1 (HT.out.below h5 D9));have D0:(r::t).length=t.length+1:=rfl;have M2:t.length<=2000000:=by rw[D0]at L2;omega
   rw[D0];have M3:((t.length:Int)+1==0)=false:=by rw[e9];omega
   have M4:(0:Int)<(t.length:Int)+1:=by omega
   clear HB J3 E5 G4 E4 D1 L1 D0 L2;cases L4:a1n r with
   |false =>
    rw[L4]at E6 E1;have hF:false=B:=E1.out;subst hF;clear E1
    go_wp2_with fail
    refine E6.out.mono ?_;rintro e w2⟨rfl,E2⟩;go_wp2;go_ret;exact⟨rfl,D9.trans (E2.mono E3)⟩
   |true =>
    rw[L4]at E6 E1;have J4:Hid (t.all Z9=B):=E1.out;clear E1
    go_wp2_with fail
    refine E6.out.mono ?_;rintro e w2⟨rfl,E2⟩;have E7:=D9.trans (E2.mono E3);have E8:=E7.size;have J5:=a8 ((L3.out.below E2).mono E2.size);clear E6 L3 c0 E2;go_wp2;clear L8
    go_loopw [30] (c1c w2 t) (fun i _=>t.length-(intOf i).toNat)
    case atStart=>exact⟨0,o4 _,rfl,rfl,b8 _ _⟩
    case round =>
     obtain⟨k,hk,rfl,L5,G5⟩:=hrel;have G6:=E7.trans (G5.mono E8);have L6:=a8 L5;clear L5;by_cases G0:k<t.length
     ·obtain⟨b',o',rfl,J6,E5⟩:=J5.out (by intro h;simp[W6]at h;subst h;simp at G0)
      have L9:wr.cell? ⟨b',o'+k,none⟩=some (.int .i32 t[k]):=by
       have:=(G5.cell (p:=⟨b',o'+k,none⟩) J6).trans (E5 k (by simpa [W6]using G0))
       simpa [W6]using this
      clear E5;have G1:=a8 (b1V t[k] wr (HT.out.below h5 G6));obtain⟨z,hz⟩ : ∃z,t[k]=z:=⟨_,rfl⟩;rw[hz]at L9 G1;have HZ:=a8 hz;clear hz;have M0:(k:Int)<(t.length:Int):=by omega
      cases G7:Z9 z with
      |false =>
       rw[G7]at G1;have hF:false=B:=by rw[<-J4.out];exact(c0N G0 (by rw[HZ.out];exact G7)).symm
       subst hF;clear J4
       go_wp2_with fail
       refine G1.out.mono ?_;rintro e w3⟨rfl,J7⟩;go_wp2;go_ret;exact⟨rfl,G6.trans (J7.mono G6.size)⟩
      |true =>
       rw[G7]at G1
       go_wp2_with fail
       refine G1.out.mono ?_;rintro e w3⟨rfl,J7⟩;go_wp2
       go_roundw
       case rel=>exact⟨k+1,G0,by go_num,b7A G0 L6.out (by rw[HZ.out];exact G7),G5.trans (J7.mono G5.size)⟩
       case measure=>simp[intOf];omega
     ·have hT:true=B:=by
       rw[<-J4.out];have:=L6.out;rw[C0 (by omega)]at this
       exact this.symm
      subst hT;have M0:¬(k:Int)<(t.length:Int):=by omega
      go_wp2;go_ret;exact⟨rfl,G6⟩
 ·have D9:Below w.heap.size w w1:=E0.trans (J2.mono E0.size)
  have hF:false=B:=by
   rw[<-HB.out];exact(a6D (fun h=>by rw[b6p h]at hv;cases hv)).symm
  subst hF;clear hv HB G9 J8;go_wp2;go_ret;exact⟨rfl,D9⟩
def b3W(S:ByteArray)(e:Ending):Prop:=∃l rest,Run S.data.toList l rest/\e=.returned (.int .i64 ((y9 l).length:Nat))
def c09(w:World)(S:ByteArray)(i:Value)(wr:World):Prop:=∃(k:Nat) (l:List Int) (rest:List UInt8),i=.int .i64 k/\(y9 l).length=k/\nmL l=true/\S.data.toList=y9 l++rest/\Below w.heap.size w wr
theorem b53{s rest x:List UInt8}{l:List Int}{r:Int}(e:s=y9 l++rest)(hl:nmL l=true)(hr:R7 r=true)(hx:rest=C3 r++x)(hg:a3M l r=false):Run s l rest :=
 ⟨e,hl,fun r' x' hr' e'=>by
  obtain⟨rfl,_⟩:=a64 hr hr' (hx.symm.trans e');exact hg⟩
theorem b0k{s rest:List UInt8}{l:List Int}(e:s=y9 l++rest)(hl:nmL l=true)(hb:¬a9Q rest):Run s l rest :=
 ⟨e,hl,fun r x hr hx=>absurd ⟨r,x,hr,hx⟩ hb⟩
theorem b2P:¬a9Q []:=by
 rintro⟨r,x,_,e⟩;have:=congrArg List.length e;have hp:=P7 r;rw[e8]at this;simp at this;omega
theorem b4V{l:List Int}(h:l≠[])(r:Int):a3M l r=Z9 r:=by
 cases l with
 |nil=>exact absurd rfl h
 |cons _ _=>rfl
theorem a5i(S:ByteArray)(G1:S.size<=2000000)(w:World):Calls Tryz.prog 178 #[.string S] w fun e w'=>b3W S e/\Below w.heap.size w w':=by
 obtain⟨N,hN⟩ : ∃N,S.size=N:=⟨_,rfl⟩;rw[hN]at G1;go_enter Tryz.func178,Tryz.ntmps178;go_wp2
 go_loopw [3] (c09 w S) (fun i _=>N-(intOf i).toNat)
 case atStart=>exact⟨0,[],S.data.toList,rfl,rfl,rfl,rfl,b8 _ _⟩
 case round =>
  obtain⟨k,l,rest,rfl,E2,G4,hs,hb⟩:=hrel;have J7:=hb.size;have G9:k+rest.length=N:=by rw[<-hN,j9,hs,e8,E2]
  have HS:=a8 hs;have D9:=a8 E2;have E4:=a8 G4;by_cases L6:k<N
  ·have J8:(k:Int)<(N:Int):=by omega
   have J9:(k:Int)<=(N:Int):=by omega
   obtain⟨R,hR⟩ : ∃R,S.extract k N=R:=⟨_,rfl⟩;have E5:R.data.toList=rest:=by rw[<-hR,J5,<-hN,j9,I1,hs,<-E2,List.drop_left]
   have G5:R.size=rest.length:=by rw[j9,E5]
   obtain⟨n,hn⟩ : ∃n,rest.length=n:=⟨_,rfl⟩;rw[hn]at G5;obtain⟨c,W,G6,D2,L0,J1,L1,J2⟩:=a3p R (by omega) wr
   have J3:Calls Tryz.prog 126 #[.slice (some ⟨wr.heap.size,0,none⟩) n c] W fun e w'=>b1F rest e/\Below W.heap.size W w':=by
    refine a78 wr.heap.size 0 n c rest W hn (by omega) (by omega) J2 L0 (fun j hj => ?_)
    have:=D2 j (by rw[E5];exact hj)
    simpa [E5]using this
   have G7:=a8 J3;rw[G5]at G6;have HN:=a8 hn;have E6:Below w.heap.size w W:=hb.trans (J1.mono J7);clear hs E2 G4 E5 D2 L1 J2 J3 hn G5 J1
   go_wp2_with fail
   refine G7.out.mono ?_;rintro e w1⟨⟨r,x,hr,hx,rfl⟩|⟨J4,rfl⟩,E7⟩
   ·have D1:Below w.heap.size w w1:=E6.trans (E7.mono E6.size)
    obtain⟨K,hK⟩ : ∃K,(C3 r).length=K:=⟨_,rfl⟩;have L7:1<=K:=by rw[<-hK];exact P7 r
    have L2:K<=rest.length:=by rw[hx,e8,hK];omega
    rw[hK];have HK:=a8 hK;have HX:=a8 hx;have HR:=a8 hr;have L8:((K:Int)==0)=false:=by rw[e9];omega
    have E8:=a8 (a3z r);have E0:=a8 (a7m r);have L9:k+K<=N:=by omega
    have D3:Hid (a3M l r=true->c09 w S (.int .i64 ((k+K:Nat):Int)) w1):=fun hg =>
     ⟨k+K,l++[r],x,rfl,by rw[K7,e8,D9.out];simp[y9,HK.out],by rw[a6C,E4.out,hg];rfl,by rw[HS.out,HX.out,K7];simp[y9],D1⟩
    have D0:Hid (a3M l r=false->b3W S (.returned (.int .i64 (k:Nat)))):=fun hg =>
     ⟨l,rest,b53 HS.out E4.out HR.out HX.out hg,by rw[D9.out]⟩
    clear hK hx hr E7 G7 G6 hR L2;by_cases E1:l=[]
    ·have L3:((k:Int)==0)=true:=by rw[x8,<-D9.out,E1];rfl
     have E3:a3M l r=a1n r:=by rw[E1];rfl
     rw[E3]at D3 D0;clear E1 E3;cases G8:a1n r with
     |false =>
      rw[G8]at D3 D0 E8
      go_wp2_with fail
      refine(E8.out _).mono ?_;rintro e w'⟨rfl,hw⟩;rw[hw];go_wp2;go_ret;exact⟨D0.out (by simp),D1⟩
     |true =>
      have G0:=a6i G8;rw[G8]at D3 D0 E8;rw[G0]at E0
      go_wp2_with fail
      refine(E8.out _).mono ?_;rintro e w'⟨rfl,hw⟩;rw[hw]
      go_wp2_with fail
      refine(E0.out _).mono ?_;rintro e w''⟨rfl,hw'⟩;rw[hw'];clear hw hw';go_wp2
      go_roundw
      case rel=>exact(show Value.int .i64 ((k+K:Nat):Int)=_ by go_num) ▸ D3.out (by simp)
      case measure=>simp[intOf];omega
    ·have L3:((k:Int)==0)=false:=by
      rw[e9];intro h;have:(y9 l).length=0:=by rw[D9.out];omega
      exact E1 (a44 (j8 this))
     have E3:a3M l r=Z9 r:=b4V E1 r;rw[E3]at D3 D0;clear E1 E3;cases G0:Z9 r with
     |false =>
      rw[G0]at D3 D0 E0
      go_wp2_with fail
      refine(E0.out _).mono ?_;rintro e w'⟨rfl,hw⟩;rw[hw];go_wp2;go_ret;exact⟨D0.out (by simp),D1⟩
     |true =>
      rw[G0]at D3 D0 E0
      go_wp2_with fail
      refine(E0.out _).mono ?_;rintro e w'⟨rfl,hw⟩;rw[hw];clear hw;go_wp2
      go_roundw
      case rel=>exact(show Value.int .i64 ((k+K:Nat):Int)=_ by go_num) ▸ D3.out (by simp)
      case measure=>simp[intOf];omega
   ·have D1:Below w.heap.size w w1:=E6.trans (E7.mono E6.size)
    have L4:=a8 J4;clear J4 G7 G6 hR E7;go_wp2;go_ret;exact⟨⟨l,rest,b0k HS.out E4.out L4.out,by rw[D9.out];rfl⟩,D1⟩
  ·have J8:¬(k:Int)<(N:Int):=by omega
   have J6:rest=[]:=j8 (by omega)
   have L5:=a8 J6;clear hs E2 G4 J6;go_wp2;go_ret;exact⟨⟨l,rest,b0k HS.out E4.out (by rw[L5.out];exact b2P),by rw[D9.out];rfl⟩,hb⟩
theorem a6B{S:ByteArray}(h:S.data.toList≠[]):(S.toList == [])=false/\S.toList.isEmpty=false:=by
 rw[f9];refine⟨by simpa using h,by simpa using h⟩
theorem a07(S:ByteArray)(D2:S.size<=2000000)(w:World):Calls Tryz.prog 181 #[.string S] w fun e w'=>e=.returned (.bool (nmB S.data.toList))/\Below w.heap.size w w':=by
 by_cases hS:S.data.toList=[]
 ·obtain rfl:S=⟨#[]⟩:=G0 hS
  have D9:nmB (⟨#[]⟩ : ByteArray).data.toList=false:=a6D (fun h=>b6q h rfl);rw[D9];clear D9 hS D2;go_enter Tryz.func181,Tryz.ntmps181;go_wp2;go_ret;exact⟨rfl,b8 _ _⟩
 ·obtain⟨t1,t2⟩:=a6B hS
  obtain⟨B,hB⟩ : ∃B,nmB S.data.toList=B:=⟨_,rfl⟩;rw[hB];have HB:=a8 hB;have HS:=a8 hS;have HL:=a8 (a5i S D2 w);clear hB hS;go_enter Tryz.func181,Tryz.ntmps181
  go_wp2_with fail
  refine HL.out.mono ?_;rintro e w1⟨⟨l,rest,D0,rfl⟩,E0⟩;have D1:(y9 l).length+rest.length=S.size:=by rw[j9,D0.eq,e8]
  have D3:=D0.is;have heq:=D0.eq;obtain⟨K,hK⟩ : ∃K,(y9 l).length=K:=⟨_,rfl⟩;rw[hK]at D1 ⊢;by_cases hq:rest=[]
  ·have hT:true=B:=by
    rw[<-HB.out];refine(a37 (D3.2 ⟨fun h => ?_,hq⟩)).symm;rw[h,hq]at heq;exact HS.out heq
   subst hT;have E1:((K:Int)==(S.size:Int))=true:=by rw[x8,<-D1,hq];simp
   clear D3 heq D0 hK D1 hq HB HL;go_wp2;go_ret;exact⟨rfl,E0⟩
  ·have hF:false=B:=by
    rw[<-HB.out];exact(a6D (fun h=>hq (D3.1 h).2)).symm
   subst hF
   have E1:((K:Int)==(S.size:Int))=false:=by
    rw[e9];intro h;exact hq (j8 (by omega))
   clear D3 heq D0 hK D1 hq HB HL;go_wp2;go_ret;exact⟨rfl,E0⟩
end Go.Proofs.YtlgcigmolfhamaaGreatDoor
