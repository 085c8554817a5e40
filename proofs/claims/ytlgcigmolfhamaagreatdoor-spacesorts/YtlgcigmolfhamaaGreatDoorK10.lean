/-
  Bytes that a call gathers in a slice of its own, also in one that a conversion laid: append of bytes and of a text. Conditions: there are not too many.
  Texts: as bytes, at an index, in pieces; where a byte first stands; cut at a byte; with a byte in them; with something ahead cut off. Conditions: the text is not too long.
  A text without what it begins with: strings.CutPrefix. Conditions: none.
  A region whose order is drawn, of which each operation yields something of a kind that stays so: whatever the order, all is of its kind at the end. Conditions: none.
-/
import Derived.Test.YtlgcigmolfhamaaGreatDoorK00
import Derived.Laws.IdiomCopy
import Derived.Laws.AppendOwn
import Derived.Laws.AppendOwnNone
import Derived.Laws.MakeOwn
import Derived.Laws.Externs
import Derived.Lib.AppendStr
import Derived.OwnWalk
import Derived.Deep.Draws
import Derived.Deep.QuietTactic
import Derived.BigQuiet
import Derived.Deep.WholeRow
import Derived.Test.YtlgcigmolfhamaaGreatDoorK09
import Derived.Lib.Bytealg
import Derived.Shelf.Small.Wraps
import Derived.RegionTactic
namespace Go.Proofs.YtlgcigmolfhamaaGreatDoor
set_option linter.unusedVariables false
set_option maxHeartbeats 4000000
set_option maxRecDepth 100000
section
open Go.RowKit
theorem a4B:(Tryz.prog.info? 5).map (fun i=>(i.zero,i.size,i.bytes))=some (some (.int .u8 0),1,1):=by kernel_rfl
theorem b2W(l:List UInt8):∀u∈P6 l,u.oneCell'=true:=fun u hu=>by
 simp[P6]at hu;obtain⟨z,_,rfl⟩:=hu;rfl
theorem a18(b o j:Nat):(⟨b,o,none⟩ : Addr).add j=⟨b,o+j,none⟩:=by unfold Addr.add;split<;>simp_all
def Own(w:World)(B:Nat)(v:Value)(l:List UInt8):Prop :=
 (v=.slice none 0 0/\l=[])∨∃g cap,v=.slice (some ⟨g,0,none⟩) l.length cap/\B<=g/\g<w.heap.size/\l.length<=cap/\cap<=9223372036854775807 /\
   (∀j,j<cap->(w.cell? ⟨g,j,none⟩).isSome=true/\w.frozen? ⟨g,j,none⟩=false)/\∀j u,(P6 l)[j]? = some u->w.cell? ⟨g,j,none⟩=some u
theorem Own.nil(w:World)(B:Nat):Own w B (.slice none 0 0) []:=.inl ⟨rfl,rfl⟩
theorem Own.later{w w':World}{B:Nat}{v:Value}{l:List UInt8}(h:Own w B v l)(hb:Below w.heap.size w w'):Own w' B v l:=by
 rcases h with h|⟨g,cap,e,h1,h2,h3,h4,h5,h6⟩
 ·exact .inl h
 ·exact .inr ⟨g,cap,e,h1,x9 h2 hb.size,h3,h4,fun j hj=>by rw[hb.cell (p:=⟨g,j,none⟩) h2,hb.frozen (p:=⟨g,j,none⟩) h2];exact h5 j hj,fun j u hu=>by rw[hb.cell (p:=⟨g,j,none⟩) h2];exact h6 j u hu⟩
theorem Own.of_row{w:World}{B n:Nat}{v:Value}{l:List UInt8}(h:w.ownsRow B 5 1 v n (P6 l)):Own w B v l:=by
 obtain⟨hl,h |⟨g,cap,cur,rfl,hg,hh,hn,hc,hs,ht⟩⟩:=h
 ·obtain⟨rfl,rfl⟩:=h
  rw[F7]at hl;exact .inl ⟨rfl,j8 (by simpa using hl)⟩
 ·rw[F7,Nat.mul_one]at hl
  subst hl;rw[Nat.mul_one]at hs ht;refine .inr ⟨g,cap,rfl,hg,(Array.getElem?_eq_some_iff.1 hh).1,hn,by unfold maxLen at hc;exact hc,fun j hj=>⟨?_,frozen_of_row w g j cur 5 hh⟩,fun j u hu => ?_⟩
  ·rw[d9 w g j cur 5 (0,0) hh,r9 (by omega)];rfl
  ·rw[d9 w g j cur 5 (0,0) hh,<-hu,<-ht]
   have hj:j<l.length:=by
    have:=(z8.1 hu).1
    rwa [F7]at this
   rw[List.getElem?_take_of_lt hj,A9]
theorem Own.lies{w:World}{B:Nat}{v:Value}{l:List UInt8}(h:Own w B v l):∃A cap,v=.slice A l.length cap/\l.length<=cap/\cap<=9223372036854775807/\Q3 w w.heap.size A (P6 l):=by
 rcases h with⟨rfl,rfl⟩|⟨g,cap,rfl,h1,h2,h3,h4,h5,h6⟩
 ·exact⟨none,0,rfl,c9 _,by omega,fun h=>absurd rfl h⟩
 ·exact⟨some ⟨g,0,none⟩,cap,rfl,h3,h4,fun _=>⟨g,0,rfl,h2,fun j hj=>by rw[F5];exact h6 j _ (i5 hj)⟩⟩
theorem a1m{B g:Nat}(hB:B<=g){a:World}:∀(vs:List Value) (o:Nat) (w:World),Below B a w->Below B a (w.setCells g o vs)
 | [],_,_,h=>h
 |v::r,o,w,h=>a1m hB r (o+1) _ (h.setCell (p:=⟨g,o,none⟩) hB v)
theorem a3y{g:Nat}:∀(vs:List Value) (o:Nat) (w:World),(w.setCells g o vs).heap.size=w.heap.size
 | [],_,_=>rfl
 |v::r,o,w=>by rw[World.setCells,a3y r];simp[World.setCell]
theorem b0u{w:World}{B g cap:Nat}{l y:List UInt8}(h1:B<=g)(h2:g<w.heap.size)(h4:cap<=9223372036854775807)(D0:l.length+y.length<=cap)
 (h5:∀j,j<cap->(w.cell? ⟨g,j,none⟩).isSome=true/\w.frozen? ⟨g,j,none⟩=false) (h6:∀j u,(P6 l)[j]? = some u->w.cell? ⟨g,j,none⟩=some u) :
 Own (w.setCells g l.length (P6 y)) B (.slice (some ⟨g,0,none⟩) (l.length+y.length) cap) (l++y):=by
 have D2:=World.cell?_setCells_in g (P6 y) l.length w (fun j hj=>(h5 (l.length+j) (by rw[F7]at hj;omega)).1)
 refine .inr ⟨g,cap,by rw[e8],h1,by rw[a3y];exact h2,by rw[e8];exact D0,h4,fun j hj=>⟨?_,by rw[World.frozen?_setCells];exact(h5 j hj).2⟩,fun j u hu => ?_⟩
 ·by_cases D1:l.length<=j/\j<l.length+y.length
  ·have:=D2 (j-l.length) (by rw[F7];omega)
   rw[show l.length+(j-l.length)=j by omega]at this
   rw[this];rfl
  ·rw[World.cell?_setCells_out g (P6 y) l.length w ⟨g,j,none⟩ (fun _ _=>by rw[F7];show j<l.length∨l.length+y.length<=j;omega)]
   exact(h5 j hj).1
 ·rw[a2c]at hu
  by_cases D1:j<l.length
  ·rw[World.cell?_setCells_out g (P6 y) l.length w ⟨g,j,none⟩ (fun _ _ => .inl D1)]
   rw[List.getElem?_append_left (by rw[F7];exact D1)]at hu
   exact h6 j u hu
  ·rw[List.getElem?_append_right (by rw[F7];omega),F7]at hu
   have D3:=(z8.1 hu).1;have:=D2 (j-l.length) D3;rw[show l.length+(j-l.length)=j by omega]at this
   rw[this,<-hu,i5 D3]
theorem a7R{w:World}{B cap:Nat}{l y:List UInt8}(hB:B<=w.heap.size)(D0:l.length+y.length<=cap)(D1:cap<=maxLen)(Z:Array Value)(hZ:Z.size=cap-(l.length+y.length)) :
 Own (w.drew.alloc (.cells ((P6 l).toArray++(P6 y).toArray++Z) 5)) B (.slice (some ⟨w.heap.size,0,none⟩) (l.length+y.length) cap) (l++y):=by
 refine Own.of_row (n:=l.length+y.length) ⟨by rw[F7,e8];omega,.inr ⟨w.heap.size,cap,_,rfl,hB,heap_alloc_new w.drew _,D0,D1,?_,?_⟩⟩
 ·simp only[Array.size_append,List.size_toArray,F7,hZ];omega
 ·rw[Nat.mul_one,a2c]
  simp only[Array.toList_append];rw[List.take_append_of_le_length (by simp[F7])]
  exact C0 (by simp[F7])
theorem b9m{w:World}{B:Nat}{v:Value}{l:List UInt8}(h:Own w B v l)(hB:B<=w.heap.size)(ad:Addr)(m c:Nat)(y:List UInt8)(hm:y.length=m)(hy:∀j u,(P6 y)[j]? = some u->w.cell? (ad.add j)=some u)(hn:l.length+m<=1000000000000)(ty:TypeId) :
 ∃v' w',(Builtin.append_ #[22,22] ty #[v,.slice (some ad) m c]).run Tryz.prog w=.ok v' w'/\Own w' B v' (l++y)/\Below B w w':=by
 obtain⟨i0,hi,D2,D1,D3⟩:=info_parts a4B;subst hm;rcases h with⟨rfl,rfl⟩|⟨g,cap,rfl,h1,h2,h3,h4,h5,h6⟩
 ·obtain⟨v',w',hr,ho,hg,_⟩:=run_append_own (P:=Tryz.prog) w B 22 ty 5 i0 (.int .u8 0) 1 1 Tryz.underlying22 hi D2 D1 D3 rfl (by omega) (.slice none 0 0) 0 [] (r5 _ _ _ _) ad y.length c (P6 y) (by rw[F7];omega) hy (b2W y) (by unfold maxLen;omega) (by omega) hB
  exact⟨v',w',hr,Own.of_row ho,(b8 B w).grown hg hB (fun k hk=>by simp[Value.ownBlock]at hk)⟩
 ·by_cases D0:l.length+y.length<=cap
  ·have hf:=run_firstCells_some (P:=Tryz.prog) w 1 y.length ad y.length c (P6 y) (by rw[F7];omega) hy
   have D9:=run_storeCells_cells (P:=Tryz.prog) g l.length (P6 y) 0 w (fun j hj=>(h5 _ (by rw[F7]at hj;omega)).1) (fun j hj=>(h5 _ (by rw[F7]at hj;omega)).2) (b2W y)
   rw[Nat.add_zero]at D9;exact⟨_,_,by simp[Builtin.append_,run_underlying Tryz.underlying22,sizeOf,typeInfo,hi,D1,Builtin.lenOf,D0,hf,Addr.add_lit,D9],b0u h1 h2 h4 D0 h5 h6,a1m h1 _ _ _ (b8 _ _)⟩
  ·have hr:=run_append_grow (P:=Tryz.prog) w 22 ty 5 i0 (.int .u8 0) Tryz.underlying22 hi D2 ⟨g,0,none⟩ l.length cap (P6 l) (by rw[F7,D1];omega) (fun j u hu=>by rw[a18,F5];exact h6 j u hu) ad y.length c (P6 y) (by rw[F7,D1];omega) hy (by omega) (by omega) (by rw[D3];exact growslice_fits (by omega) (by omega))
   refine⟨_,_,hr,a7R hB (grownCap_ge w _ cap _) (grownCap_le_maxLen w _ cap _ (by unfold maxLen;omega)) _ ?_,((b8 B w).drew).alloc hB _⟩
   rw[size_zeroCells];simp[Value.cells]
theorem b1y{w:World}{B:Nat}{v:Value}{l:List UInt8}(h:Own w B v l)(hB:B<=w.heap.size)(S:ByteArray)(hn:l.length+S.size<=1000000000000)(ty:TypeId) :
 ∃v' w',(Builtin.append_ #[22,9] ty #[v,.string S]).run Tryz.prog w=.ok v' w'/\Own w' B v' (l++S.data.toList)/\Below B w w':=by
 obtain⟨i0,hi,D9,D2,E0⟩:=info_parts a4B;have D3:Lib.strCells S=P6 S.data.toList:=rfl;have D1:S.size=S.data.toList.length:=Lib.size_eq S;rcases h with⟨rfl,rfl⟩|⟨g,cap,rfl,h1,h2,h3,h4,h5,h6⟩
 ·obtain⟨v',w',hr,ho,hg,_⟩:=Lib.run_append_own_string (P:=Tryz.prog) w B 22 9 ty 5 i0 Tryz.underlying22 Tryz.underlying9 hi D9 D2 E0 (.slice none 0 0) 0 [] (r5 _ _ _ _) S (by unfold maxLen;omega) (by omega) hB
  exact⟨v',w',hr,Own.of_row (by rw[D3]at ho;exact ho),(b8 B w).grown hg hB (fun k hk=>by simp[Value.ownBlock]at hk)⟩
 ·by_cases D0:l.length+S.size<=cap
  ·have hf:=Lib.run_firstCells_string (P:=Tryz.prog) w 1 S
   have E1:=run_storeCells_cells (P:=Tryz.prog) g l.length (Lib.strCells S) 0 w (fun j hj=>(h5 _ (by rw[Lib.strCells_length]at hj;omega)).1) (fun j hj=>(h5 _ (by rw[Lib.strCells_length]at hj;omega)).2) (Lib.strCells_oneCell S)
   rw[Nat.add_zero]at E1;have ho:=b0u (y:=S.data.toList) h1 h2 h4 (by rw[<-D1];exact D0) h5 h6
   rw[<-D1,<-D3]at ho;exact⟨_,_,by simp[Builtin.append_,run_underlying Tryz.underlying22,run_underlying Tryz.underlying9,sizeOf,typeInfo,hi,D2,Builtin.lenOf,D0,hf,Addr.add_lit,E1],ho,a1m h1 _ _ _ (b8 _ _)⟩
  ·have hr:=Lib.run_append_grow_string (P:=Tryz.prog) w 22 9 ty 5 i0 (.int .u8 0) Tryz.underlying22 Tryz.underlying9 hi D9 ⟨g,0,none⟩ l.length cap (P6 l) (by rw[F7,D2];omega) (fun j u hu=>by rw[a18,F5];exact h6 j u hu) S (by omega) (by omega) (by rw[E0];exact growslice_fits (by omega) (by omega))
   have ho:=a7R (l:=l) (y:=S.data.toList) (cap:=grownCap w (l.length+S.size) cap 5) hB (by rw[<-D1];exact grownCap_ge w (l.length+S.size) cap 5) (grownCap_le_maxLen w _ cap _ (by unfold maxLen;omega)) (Builtin.zeroCells (Value.int .u8 0).cells (grownCap w (l.length+S.size) cap 5 - (l.length+S.size))) (by rw[size_zeroCells,<-D1];simp[Value.cells])
   rw[<-D1,<-D3]at ho;exact⟨_,_,hr,ho,((b8 B w).drew).alloc hB _⟩
theorem a4E{w:World}{ops:Array Oper}{rest:List Oper}{o:Oper}{a:Act}{Q:Exit->Act->World->Prop}(D1:o.guard=none)(s x:Operand)
 (ho:o.op=.call { callee:=.builtin .append,args:=#[s,x],argTypes:=#[22,22] }) (B:Nat) (l:List UInt8) (v:Value) (hs:a.eval s=v) (D0:Own w B v l) (hB:B<=w.heap.size)
 (ad:Addr) (m c:Nat) (y:List UInt8) (hx:a.eval x=.slice (some ad) m c) (hm:y.length=m) (hy:∀j u,(P6 y)[j]? = some u->w.cell? (ad.add j)=some u) (hn:l.length+m<=1000000000000)
 (h:∀v' w',Own w' B v' (l++y)->Below B w w'->wpList Tryz.prog ops Q rest (a.put o.dst v') w'):wpList Tryz.prog ops Q (o::rest) a w:=by
 refine wpList_plain D1 fun K hK => ?_;obtain⟨v',w',hr,h2,h3⟩:=b9m D0 hB ad m c y hm hy hn o.type;unfold Oper.wp execOp;simp only[ho,resolve,invoke,builtin,Sem.run_bind,Sem.run_pure,Result.andThen_ok,List.map_toArray,List.map_cons,List.map_nil,hs,hx,hr];exact hK _ _ (h v' w' h2 h3)
theorem a4D{w:World}{ops:Array Oper}{rest:List Oper}{o:Oper}{a:Act}{Q:Exit->Act->World->Prop}(D1:o.guard=none)(s x:Operand)
 (ho:o.op=.call { callee:=.builtin .append,args:=#[s,x],argTypes:=#[22,9] }) (B:Nat) (l:List UInt8) (v:Value) (hs:a.eval s=v) (D0:Own w B v l) (hB:B<=w.heap.size)
 (S:ByteArray) (hx:a.eval x=.string S) (hn:l.length+S.size<=1000000000000)
 (h:∀v' w',Own w' B v' (l++S.data.toList)->Below B w w'->wpList Tryz.prog ops Q rest (a.put o.dst v') w'):wpList Tryz.prog ops Q (o::rest) a w:=by
 refine wpList_plain D1 fun K hK => ?_;obtain⟨v',w',hr,h2,h3⟩:=b1y D0 hB S hn o.type;unfold Oper.wp execOp;simp only[ho,resolve,invoke,builtin,Sem.run_bind,Sem.run_pure,Result.andThen_ok,List.map_toArray,List.map_cons,List.map_nil,hs,hx,hr];exact hK _ _ (h v' w' h2 h3)
theorem P8{w:World}{ops:Array Oper}{rest:List Oper}{o:Oper}{a:Act}{Q:Exit->Act->World->Prop}(D1:o.guard=none)(s x:Operand)
 (ho:o.op=.call { callee:=.builtin .append,args:=#[s,x],argTypes:=#[22,22] }) (B:Nat) (l:List UInt8) (v:Value) (hs:a.eval s=v) (D0:Own w B v l) (hB:B<=w.heap.size)
 (y:UInt8) (x0:Int) (D2:x0=(y.toNat:Int)) (hx:a.eval x=.slice (some ⟨w.heap.size,0,none⟩) 1 1) (hn:l.length+1<=1000000000000)
 (h:∀v' w',Own w' B v' (l++[y])->Below B w w'->wpList Tryz.prog ops Q rest (a.put o.dst v') w'):wpList Tryz.prog ops Q (o::rest) a (w.alloc (.cells #[.int .u8 x0] 5)):=by
 subst D2;have hb:=(b8 w.heap.size w).alloc (c9 _) (.cells #[.int .u8 (y.toNat:Int)] 5);refine a4E D1 s x ho B l v hs (D0.later hb) (d8 hB hb.size) ⟨w.heap.size,0,none⟩ 1 1 [y] hx rfl (fun j u hu => ?_) hn fun v' w' h2 h3=>h v' w' h2 ((hb.mono hB).trans h3);rw[a18,F5,d9 _ _ j _ _ _ (g9 w _)];exact List.getElem?_toArray.trans hu
end
section
open Go.RowKit
theorem a1u(S:ByteArray)(l:List UInt8):(S.toList==l)=(S.data.toList==l):=by rw[f9]
theorem a0M(S:ByteArray)(hS:S.size<=1000000)(w:World):∃(cap:Nat) (W:World),(convert 9 22 (.string S)).run Tryz.prog w=.ok (.slice (some ⟨w.heap.size,0,none⟩) S.size cap) W /\
 (∀j (hj:j<S.data.toList.length),W.cell? ⟨w.heap.size,0+j,none⟩=some (.int .u8 (S.data.toList[j].toNat:Int)))/\w.heap.size<W.heap.size/\Below w.heap.size w W/\S.size<=cap/\cap<=9223372036854775807 /\
 Own W w.heap.size (.slice (some ⟨w.heap.size,0,none⟩) S.size cap) S.data.toList:=by
 have D1:=grownCap_ge w S.size 0 5
 have D2:grownCap w S.size 0 5<=9223372036854775807:=by
  have:=grownCap_le_maxLen w S.size 0 5 (by unfold maxLen;omega)
  unfold maxLen at this;exact this
 have hh:=g9 w.drew (.cells (bytesRow S (grownCap w S.size 0 5)) 5 ((bytesRow S (grownCap w S.size 0 5)).size,(bytesRow S (grownCap w S.size 0 5)).size+1))
 have D3:(bytesRow S (grownCap w S.size 0 5)).size=grownCap w S.size 0 5:=by
  simp only[bytesRow,Array.size_append,Array.size_map,Array.size_replicate];have:S.data.size=S.size:=rfl;omega
 have D0:∀j (hj:j<S.data.toList.length),(w.drew.alloc (.cells (bytesRow S (grownCap w S.size 0 5)) 5 ((bytesRow S (grownCap w S.size 0 5)).size,(bytesRow S (grownCap w S.size 0 5)).size+1))).cell? ⟨w.heap.size,j,none⟩=some (.int .u8 (S.data.toList[j].toNat:Int)):=fun j hj=>by
  rw[d9 _ w.heap.size j _ _ _ hh,bytesRow_at _ _ j (by simpa using hj)]
  simp
 refine⟨_,_,run_bytes_of_string w 9 22 5 S Tryz.underlying9 Tryz.underlying22 Tryz.underlying5,fun j hj=>by rw[F5];exact D0 j hj,by simp,?_,D1,D2,?_⟩
 ·exact((b8 w.heap.size w).drew).alloc (c9 _) _
 ·refine .inr ⟨w.heap.size,_,by rw[<-j9],c9 _,by simp,by rw[<-j9];exact D1,D2,fun j hj=>⟨?_,?_⟩,fun j u hu => ?_⟩
  ·rw[d9 _ w.heap.size j _ _ _ hh,r9 (by omega)];rfl
  ·have h2:¬(bytesRow S (grownCap w S.size 0 5)).size<=j:=by omega
   unfold World.frozen?;rw[show(⟨w.heap.size,j,none⟩ : Addr).block=w.drew.heap.size from rfl,hh];simp[h2]
  ·have hj:=(z8.1 hu).1
   rw[F7]at hj;rw[D0 j hj,<-hu,P6,List.getElem?_map,i5 hj];rfl
theorem b05(S:ByteArray)(c:UInt8)(w:World):(callFunc 245 #[.string S,.int .u8 (c.toNat:Int)]).run Tryz.prog w=.ok (.value (.int .i64 (Lib.indexByte S.data.toList c))) w:=by
 rw[run_callFunc_extern (e:=Extern.BytealgIndexByte.indexByte) Tryz.func245 (by kernel_rfl) (by kernel_rfl) (by kernel_rfl) (by kernel_rfl),Lib.run_indexByteString]
 simp[Result.andThen]
theorem b6H(S:ByteArray)(c:UInt8)(w:World):Calls Tryz.prog 241 #[.string S,.int .u8 (c.toNat:Int)] w fun e w'=>e=.returned (.int .i64 (Lib.indexByte S.data.toList c))/\w'=w:=by
 have hx:∀w,(callFunc 245 #[.string S,.int .u8 (c.toNat:Int)]).run Tryz.prog w=.ok (.value (.int .i64 (Lib.indexByte S.data.toList c))) w:=b05 S c;generalize (c.toNat:Int)=z at *;go_enter Tryz.func241,Tryz.ntmps241;go_wp2;go_ret;exact⟨rfl,rfl⟩
theorem a70(S:ByteArray)(c:UInt8)(w:World):Calls Tryz.prog 233 #[.string S,.string ⟨#[c]⟩] w fun e w'=>e=.returned (.int .i64 (Lib.indexByte S.data.toList c))/\w'=w:=by
 have D0:∀w,(Instr.index 9 (.string ⟨#[c]⟩) (.int .i64 0)).run Tryz.prog w=.ok (.int .u8 (c.toNat:Int)) w:=fun w=>by
  have:=G7 ⟨#[c]⟩ (i:=0) (by show 0<1;omega) w
  simpa using this
 have HL:=a8 (b6H S c);by_cases hS:S=⟨#[c]⟩
 ·subst hS
  go_enter Tryz.func233,Tryz.ntmps233;go_wp2;go_ret;refine⟨?_,rfl⟩;have:Lib.indexByte (⟨#[c]⟩ : ByteArray).data.toList c=0:=by simp[Lib.indexByte]
  rw[this];rfl
 ·obtain⟨z,hz⟩ : ∃z,Lib.indexByte S.data.toList c=z:=⟨_,rfl⟩
  have D1:([c]==S.toList)=false:=by
   rw[f9,e9];exact fun h=>hS (G0 h.symm)
  rw[hz]at HL ⊢;obtain⟨S1,D2⟩ : ∃S1:ByteArray,S1=⟨#[c]⟩:=⟨_,rfl⟩;clear hz;go_enter Tryz.func233,Tryz.ntmps233
  go_wp2_with fail
  refine(HL.out _).mono ?_;rintro e w'⟨rfl,hw⟩;rw[hw];go_wp2;go_ret;exact⟨rfl,rfl⟩
theorem a2L:∀(s:List UInt8) (c:UInt8),(c∉s/\Lib.indexByte s c = -1)∨(∃a b,s=a++c::b/\c∉a/\Lib.indexByte s c=(a.length:Int))
 | [],c => .inl ⟨by simp,rfl⟩
 |x::s,c=>by
  by_cases hx:x=c
  ·subst hx
   exact .inr ⟨[],s,rfl,by simp,by simp[Lib.indexByte]⟩
  ·rcases a2L s c with⟨h1,h2⟩|⟨a,b,rfl,h1,h2⟩
   ·exact .inl ⟨by simp[Ne.symm hx,h1],by simp[Lib.indexByte,hx,h2]⟩
   ·refine .inr ⟨x::a,b,rfl,by simp[Ne.symm hx,h1],?_⟩
    simp[Lib.indexByte,hx,h2]
def b7O(c:UInt8)(S:ByteArray)(e:Ending):Prop :=
 (c∉S.data.toList/\e=.returned (.tuple #[.string S,.string ⟨#[]⟩,.bool false]))∨(∃P R:ByteArray,S.data.toList=P.data.toList++c::R.data.toList/\c∉P.data.toList/\e=.returned (.tuple #[.string P,.string R,.bool true]))
theorem b0L(c:UInt8)(S:ByteArray)(D0:S.size<=1000000)(w:World):Calls Tryz.prog 219 #[.string S,.string ⟨#[c]⟩] w fun e w'=>b7O c S e/\Below w.heap.size w w':=by
 have HI:=a8 (a70 S c);rcases a2L S.data.toList c with⟨h1,h2⟩|⟨a,b,h1,h2,h3⟩
 ·have H1:=a8 h1
  rw[h2]at HI;clear h1 h2;go_enter Tryz.func219,Tryz.ntmps219
  go_wp2_with fail
  refine(HI.out _).mono ?_;rintro e w'⟨rfl,hw⟩;rw[hw];go_wp2
  go_ret3
  exact⟨.inl ⟨H1.out,rfl⟩,b8 _ _⟩
 ·rw[h3]at HI
  have hn:a.length+1<=S.size:=by rw[j9,h1];simp
  have e1:(S.extract 0 a.length).data.toList=a:=by rw[J5,h1];simp
  have e2:(S.extract (a.length+1) S.size).data.toList=b:=by rw[J5,j9,I1,h1,List.drop_append];simp
  have HE:Hid (S.data.toList=(S.extract 0 a.length).data.toList++c::(S.extract (a.length+1) S.size).data.toList/\c∉(S.extract 0 a.length).data.toList):=by rw[Hid,e1,e2];exact⟨h1,h2⟩
  clear h1 h2 h3 e1 e2;generalize a.length=n at *;have c1:(n:Int)<=(S.size:Int):=by omega
  have c2:(n:Int)+1<=(S.size:Int):=by omega
  have c4:(0:Int)<=(n:Int)+1:=by omega
  have c3:(0:Int)<=(n:Int):=by omega
  go_enter Tryz.func219,Tryz.ntmps219
  go_wp2_with fail
  refine(HI.out _).mono ?_;rintro e w'⟨rfl,hw⟩;rw[hw]
  go_wp2_with fail
  go_quiet (fail)
  go_wp2
  go_ret3
  exact⟨.inr ⟨_,_,HE.out.1,HE.out.2,rfl⟩,i7 (b8 _ _) _⟩
theorem a5U(c:UInt8)(S:ByteArray)(D0:S.size<=1000000)(w:World):Calls Tryz.prog 195 #[.string S,.string ⟨#[c]⟩] w fun e w'=>b7O c S e/\Below w.heap.size w w':=by
 have HC:=a8 (b0L c S D0 w);go_enter Tryz.func195,Tryz.ntmps195
 go_wp2_with fail
 refine HC.out.mono ?_;rintro e w'⟨⟨h1,rfl⟩|⟨P,R,h1,h2,rfl⟩,hb⟩
 ·have H1:=a8 h1
  clear h1;go_wp2
  go_ret3
  exact⟨.inl ⟨H1.out,rfl⟩,hb⟩
 ·have H1:=a8 h1
  have H2:=a8 h2;clear h1 h2;go_wp2
  go_ret3
  exact⟨.inr ⟨P,R,H1.out,H2.out,rfl⟩,hb⟩
theorem b1X(c:UInt8)(S:ByteArray)(w:World):Calls Tryz.prog 228 #[.string S,.string ⟨#[c]⟩] w fun e w'=>e=.returned (.int .i64 (Lib.indexByte S.data.toList c))/\w'=w:=by
 have HI:=a8 (a70 S c);generalize Lib.indexByte S.data.toList c=z at *;go_enter Tryz.func228,Tryz.ntmps228
 go_wp2_with fail
 refine(HI.out _).mono ?_;rintro e w'⟨rfl,hw⟩;rw[hw];go_wp2;go_ret;exact⟨rfl,rfl⟩
theorem b8L(c:UInt8)(S:ByteArray)(w:World):Calls Tryz.prog 202 #[.string S,.string ⟨#[c]⟩] w fun e w'=>e=.returned (.bool (decide (c∈S.data.toList)))/\w'=w:=by
 have HI:=a8 (b1X c S);rcases a2L S.data.toList c with⟨h1,h2⟩|⟨a,b,h1,_,h3⟩
 ·rw[h2]at HI
  rw[f8 h1];clear h1 h2;go_enter Tryz.func202,Tryz.ntmps202
  go_wp2_with fail
  refine(HI.out _).mono ?_;rintro e w'⟨rfl,hw⟩;rw[hw];go_wp2;go_ret;exact⟨rfl,rfl⟩
 ·rw[h3]at HI
  rw[i6 (show c∈S.data.toList by rw[h1];simp)]
  clear h1 h3;generalize a.length=n at *;have hz:(0:Int)<=(n:Int):=by omega
  go_enter Tryz.func202,Tryz.ntmps202
  go_wp2_with fail
  refine(HI.out _).mono ?_;rintro e w'⟨rfl,hw⟩;rw[hw];go_wp2;go_ret;exact⟨rfl,rfl⟩
end
section
open Go.RowKit Go.Shelf
def c1s:Ren:={
 f:=fun x=>match x with|103 => 150 | 206 => 215 | 210 => 192 | n=>n
 t:=fun x=>match x with|9 => 9 | 3 => 3 | 4 => 4 | 24 => 35 | n=>n
 g:=fun x=>x }
theorem b9r:Lays.n103 Tryz.prog c1s:={ mixed:=rfl,f103:=Tryz.func150.trans (congrArg some rfl),f206:=Tryz.func215.trans (congrArg some rfl),f210:=Tryz.func192.trans (congrArg some rfl),t3:=Tryz.underlying3,a3:=Tryz.isAgg3,z3:=Tryz.sizeOf3,v3:=Tryz.zeroValue3,t4:=Tryz.underlying4,a4:=Tryz.isAgg4,z4:=Tryz.sizeOf4,v4:=Tryz.zeroValue4,t9:=Tryz.underlying9,a9:=Tryz.isAgg9,z9:=Tryz.sizeOf9,v9:=Tryz.zeroValue9,t24:=Tryz.underlying35,a24:=Tryz.isAgg35,z24:=Tryz.sizeOf35,v24:=Tryz.zeroValue35 }
theorem a8V(S R p:ByteArray)(h:S.data.toList=p.data.toList++R.data.toList)(w:World):Calls Tryz.prog 150 #[.string S,.string p] w fun e w'=>e=.returned (.tuple #[.string R,.bool true])/\w'=w:=by
 have hp:Lib.hasPrefix S.data.toList p.data.toList=true:=by
  unfold Lib.hasPrefix;rw[F0,h];exact F8 _ _
 have h1:=Any.strings_CutPrefix b9r S p w
 have e1:(⟨(Lib.trimPrefix S.data.toList p.data.toList).toArray⟩ : ByteArray)=R:=by
  unfold Lib.trimPrefix;rw[g8 hp,h,List.drop_left,b1u]
 rw[hp,e1]at h1;exact h1
theorem a1T(S p:ByteArray)(h:¬∃r,S.data.toList=p.data.toList++r)(w:World):Calls Tryz.prog 150 #[.string S,.string p] w fun e w'=>e=.returned (.tuple #[.string S,.bool false])/\w'=w:=by
 have hp:Lib.hasPrefix S.data.toList p.data.toList=false:=by
  cases hq:Lib.hasPrefix S.data.toList p.data.toList with
  |false=>rfl
  |true =>
   unfold Lib.hasPrefix at hq;rw[F0]at hq;obtain⟨r,hr⟩:=hq;exact absurd ⟨r,hr.symm⟩ h
 have h1:=Any.strings_CutPrefix b9r S p w
 have e1:(⟨(Lib.trimPrefix S.data.toList p.data.toList).toArray⟩ : ByteArray)=S:=by
  unfold Lib.trimPrefix;rw[hp,f6 (by simp),b1u]
 rw[hp,e1]at h1;exact h1
end
section
open Go.RowKit
def upd(f:Nat->Value)(i:Nat)(v:Value):Nat->Value:=fun j=>if j=i then v else f j
theorem b5D(f:Nat->Value)(i:Nat)(v:Value):upd f i v i=v:=g8 rfl
theorem b39{f:Nat->Value}{i j:Nat}{v:Value}(h:j≠i):upd f i v j=f j:=f6 h
theorem a5t{p q:Nat->Bool}:∀{l:List Nat} {i:Nat},i∈l->(∀j,q j=true->p j=true)->p i=true->q i=false->l.countP q<l.countP p
 | [],_,h,_,_,_=>by simp at h
 |x::l,i,h,hqp,hp,hq=>by
  have D1:l.countP q<=l.countP p:=List.countP_mono_left (fun j _ h=>hqp j h);by_cases hx:x=i
  ·subst hx
   rw[List.countP_cons,List.countP_cons,hp,hq];simp;omega
  ·have hi:i∈l:=by
    rcases q8.1 h with h|h
    ·exact absurd h.symm hx
    ·exact h
   have ih:=a5t hi hqp hp hq;rw[List.countP_cons,List.countP_cons];cases D0:q x with
   |true=>rw[hqp x D0];simp;omega
   |false=>simp;omega
section
variable {P:Program} {md:Region.Mode} {ops:Array Oper} {Q:Exit->Act->World->Prop}
theorem a12{listed:Array Bool}{i j:Nat}(d:Bool)(hi:i<listed.size):(listed.setIfInBounds i true).getD j d=if j=i then true else listed.getD j d:=by
 simp only[Array.getD_eq_getD_getElem?,Array.getElem?_setIfInBounds];by_cases h:j=i
 ·subst h;simp[hi]
 ·rw[f6 (fun e=>h e.symm),f6 h]
theorem a40{listed:Array Bool}{j:Nat}(h:j<listed.size):listed.getD j true=listed.getD j false:=by
 simp[Array.getD_eq_getD_getElem?,r9 h]
def a3B(md:Region.Mode)(ops:Array Oper)(i j:Nat):Prop:=∃o,ops[i]? = some o/\∃e∈o.after,Region.binds md e=true/\e.on=j
theorem a9U{n:Nat}(hn:ops.size=n+1)(mk:(Nat->Value)->Act)(F:Nat->Value->World->Prop)(G:World->Prop)
 (mono:∀j v w w',F j v w->Below w.heap.size w w'->F j v w')
 (clos:∀L:Nat->Prop,(∀i j,L i->a3B md ops i j->L j)->(∀j,a3B md ops n j->L j)->∀j,j<n->L j)
 (step:∀i,i<n->∀f w,G w->(∀j,a3B md ops i j->F j (f j) w)->∀K:Act->World->Prop,(∀v w',F i v w'->G w'->Below w.heap.size w w'->K (mk (upd f i v)) w')->wpOp P ops Q i K (mk f) w)
 (last:∀f w,G w->(∀j,j<n->F j (f j) w)->∀K:Act->World->Prop,(∀a' w',Q .normal a' w'->K a' w')->wpOp P ops Q n K (mk f) w)
 (back:∀i j,a3B md ops i j->j<i) :
 ∀(fuel:Nat) (listed:Array Bool) (f:Nat->Value) (w:World),listed.size=n+1->G w->(∀j,j<n->listed.getD j false=true->F j (f j) w)->listed.getD n false=false ->
  (∀i j,listed.getD i false=true->a3B md ops i j->listed.getD j false=true)->(List.range (n+1)).countP (fun j => !listed.getD j false)<=fuel->wpAny P md ops Q fuel listed (mk f) w:=by
 intro fuel
 induction fuel with
 |zero =>
  intro listed f w hs hG hF hl hd hc
  exfalso
  have:0<(List.range (n+1)).countP (fun j => !listed.getD j false):=List.countP_pos_iff.2 ⟨n,by simp,by simp[hl]⟩
  omega
 |succ fuel ih =>
  intro listed f w hs hG hF hl hd hc
  have D1:∀i,i∈Region.ready md ops listed->i<n+1/\listed.getD i false=false/\∀j,a3B md ops i j->listed.getD j false=true:=by
   intro i hi;obtain⟨h1,o,ho,h2⟩:=mem_ready.1 hi
   have E0:i<n+1:=by
    rcases Nat.lt_or_ge i ops.size with h|h
    ·omega
    ·rw[D4 h]at ho;cases ho
   refine⟨E0,by rw[<-a40 (by omega)];exact h1,?_⟩
   rintro j⟨o',ho',e,he,hb,rfl⟩;obtain rfl:o'=o:=Option.some.inj (ho'.symm.trans ho);exact h2 e he hb
  have D2:∀i,i<n+1->listed.getD i false=false->(List.range (n+1)).countP (fun j => !(listed.setIfInBounds i true).getD j false)<=fuel:=by
   intro i hi E3
   have:=a5t (p:=fun j => !listed.getD j false) (q:=fun j => !(listed.setIfInBounds i true).getD j false) (l:=List.range (n+1)) (i:=i) (by simp;omega)
    (fun j hj=>by
      rw[a12 false (by omega)]at hj
      by_cases h:j=i
      ·simp[h]at hj
      ·simpa [h]using hj) (by simp[E3]) (by rw[a12 false (by omega)];simp)
   omega
  refine⟨fun h0 => ?_,fun i hi => ?_⟩
  ·exfalso
   have D0:∀m,m<=n+1->∀j,j<m->listed.getD j false=true:=by
    intro m
    induction m with
    |zero=>intro _ j hj;omega
    |succ m ihm =>
     intro hm j hj;rcases E9 (I2 hj)with h|h
     ·exact ihm (by omega) j h
     ·subst h
      cases D9:listed.getD j false with
      |true=>rfl
      |false =>
       exfalso
       have hj':j<ops.size:=by omega
       have:j∈Region.ready md ops listed:=mem_ready.2 ⟨by rw[a40 (by omega)];exact D9,ops[j],r9 hj',fun e he hb=>ihm (by omega) _ (back j e.on ⟨ops[j],r9 hj',e,he,hb,rfl⟩)⟩
       rw[h0]at this;cases this
   have:=D0 (n+1) (c9 _) n (by omega)
   rw[hl]at this;cases this
  ·obtain⟨h1,h2,h3⟩:=D1 i hi
   by_cases E1:i=n
   ·subst E1
    have D0:∀j,j<i->listed.getD j false=true:=clos (fun j=>listed.getD j false=true) hd h3;refine last f w hG (fun j hj=>hF j hj (D0 j hj)) _ (fun a' w' hq=>wpAny_done ?_ hq _);rw[List.eq_nil_iff_forall_not_mem];intro j hj;obtain⟨h1',o,ho,_⟩:=mem_ready.1 hj
    have E0:j<i+1:=by
     rcases Nat.lt_or_ge j ops.size with h|h
     ·omega
     ·rw[D4 h]at ho;cases ho
    rw[a12 true (by omega)]at h1'
    by_cases D3:j=i
    ·rw[g8 D3]at h1';cases h1'
    ·rw[f6 D3,a40 (by omega),D0 j (by omega)]at h1';cases h1'
   ·have hi':i<n:=by omega
    refine step i hi' f w hG (fun j hj=>hF j (Nat.lt_trans (back i j hj) hi') (h3 j hj)) _ (fun v w' hv hG' hb => ?_);refine ih _ (upd f i v) w' (by simpa using hs) hG' (fun j hj D9 => ?_) ?_ ?_ (D2 i h1 h2)
    ·rw[a12 false (by omega)]at D9
     by_cases D3:j=i
     ·subst D3;rw[b5D];exact hv
     ·rw[f6 D3]at D9
      rw[b39 D3];exact mono _ _ _ _ (hF j hj D9) hb
    ·rw[a12 false (by omega),f6 (fun e=>E1 e.symm)];exact hl
    ·intro x y hx hw
     rw[a12 false (by omega)]at hx ⊢
     by_cases hy:y=i
     ·rw[g8 hy]
     ·rw[f6 hy]
      by_cases E2:x=i
      ·subst E2;exact h3 y hw
      ·rw[f6 E2]at hx;exact hd x y hx hw
def a8w(md:Region.Mode)(ops:Array Oper)(i j:Nat):Bool:=match ops[i]? with|some o=>o.after.any fun e=>Region.binds md e&&(e.on==j)|none=>false
def b7t(md:Region.Mode)(ops:Array Oper):Bool:=(List.range ops.size).all fun i=>match ops[i]? with|some o=>o.after.all fun e => !Region.binds md e||decide (e.on<i)|none=>true
def b5N(md:Region.Mode)(ops:Array Oper)(n:Nat):Bool:=(List.range n).all fun j=>(List.range (n+1)).any fun i=>decide (j<i)&&a8w md ops i j
theorem a57{i j:Nat}(h:a8w md ops i j=true):a3B md ops i j:=by
 unfold a8w at h
 split at h
 ·next o ho =>
  obtain⟨e,he,hb⟩:=Array.any_eq_true'.1 h;simp only[i4,x8]at hb;exact⟨o,ho,e,he,hb.1,hb.2⟩
 ·cases h
theorem b9j(h:b7t md ops=true)(i j:Nat)(hw:a3B md ops i j):j<i:=by
 obtain⟨o,ho,e,he,hb,rfl⟩:=hw;unfold b7t at h;rw[o9]at h
 have hi:i<ops.size:=by
  rcases Nat.lt_or_ge i ops.size with h|h
  ·exact h
  ·rw[D4 h]at ho;cases ho
 have:=h i (by simpa using hi)
 rw[ho]at this;have:=Array.all_eq_true_iff_forall_mem.1 this e he;simpa [hb]using this
theorem b9f{n:Nat}(h:b5N md ops n=true)(L:Nat->Prop)(h1:∀i j,L i->a3B md ops i j->L j)(h2:∀j,a3B md ops n j->L j):∀j,j<n->L j:=by
 unfold b5N at h;rw[o9]at h
 have key:∀d j,j<n->n-j=d->L j:=by
  intro d
  induction d using Nat.strongRecOn with
  |ind d ih =>
   intro j hj hd;have:=h j (by simpa using hj)
   obtain⟨i,hi,hb⟩:=List.any_eq_true.1 this;simp only[i4,t8]at hb;have D0:i<n+1:=by simpa using hi
   by_cases he:i=n
   ·subst he;exact h2 j (a57 hb.2)
   ·exact h1 i j (ih (n-i) (by omega) i (by omega) rfl) (a57 hb.2)
 exact fun j hj=>key _ j hj rfl
theorem C6{i:Nat}{o:Oper}{a:Act}{w:World}{K:Act->World->Prop}(ho:ops[i]? = some o)(hg:o.guard=none)(h:o.wp P a w K Q):wpOp P ops Q i K a w:=by
 unfold wpOp;rw[ho];simp only[Region.wanted,hg,if_true];exact .inl h
theorem a2f{id n:Nat}(hm:P.follows .mixedOrders=true)(hn:ops.size=n+1)(D0:b7t .any ops=true)(D1:b5N .any ops n=true)(mk:(Nat->Value)->Act)(F:Nat->Value->World->Prop)(G:World->Prop)(f0:Nat->Value)(w:World)
 (mono:∀j v w w',F j v w->Below w.heap.size w w'->F j v w') (hG:G w.drew)
 (step:∀i,i<n->∀f w,G w->(∀j,a8w .any ops i j=true->F j (f j) w)->∀K:Act->World->Prop,(∀v w',F i v w'->G w'->Below w.heap.size w w'->K (mk (upd f i v)) w')->wpOp P ops Q i K (mk f) w)
 (last:∀f w,G w->(∀j,j<n->F j (f j) w)->∀K:Act->World->Prop,(∀a' w',Q .normal a' w'->K a' w')->wpOp P ops Q n K (mk f) w) :
 (Code.region id ops true).wp P Q (mk f0) w:=by
 refine wp_region_any hm (a9U hn mk F G mono (b9f D1) (fun i hi f w hG h=>step i hi f w hG (fun j hj=>h j (a57 hj))) last (b9j D0) _ _ f0 w.drew ?_ hG ?_ ?_ ?_ ?_)
 ·simp[hn]
 ·intro j hj hl
  rw[hn]at hl;simp[Array.getD_eq_getD_getElem?,show j<n+1 by omega]at hl
 ·rw[hn]
  simp[Array.getD_eq_getD_getElem?]
 ·intro i j hl
  rw[hn]at hl;simp[Array.getD_eq_getD_getElem?,Array.getElem?_replicate]at hl
  split at hl<;>simp at hl
 ·rw[hn]
  exact d8 List.countP_le_length (by simp)
end
end
end Go.Proofs.YtlgcigmolfhamaaGreatDoor
