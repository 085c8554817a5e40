/-
  Bytes that a call gathers in a slice of its own, also in one that a conversion laid: append of bytes and of a text. Conditions: there are not too many.
  Texts: as bytes, at an index, in pieces; where a byte first stands; cut at a byte; with a byte in them; with something ahead cut off. Conditions: the text is not too long.
  A text without what it begins with: strings.CutPrefix. Conditions: none.
  A region whose order is drawn, of which each operation yields something of a kind that stays so: whatever the order, all is of its kind at the end. Conditions: none.
-/
import Derived.Test.YteinegfbpfhflaaGreatDoorM00
import Derived.Laws.IdiomCopy
import Derived.Laws.AppendOwn
import Derived.Laws.AppendOwnNone
import Derived.Laws.MakeOwn
import Derived.Laws.Externs
import Derived.Lib.AppendStr
import Derived.OwnWalk
import Derived.Deep.Draws
import Derived.Deep.QuietTactic
import Derived.BigQuiet
import Derived.Deep.WholeRow
import Derived.Test.YteinegfbpfhflaaGreatDoorM09
import Derived.Lib.Bytealg
import Derived.Shelf.Small.Wraps
import Derived.RegionTactic
namespace Go.Proofs.YteinegfbpfhflaaGreatDoor
set_option linter.unusedVariables false
set_option maxHeartbeats 4000000
set_option maxRecDepth 100000
section
open Go.RowKit
theorem oM:(Tryz.prog.info? 5).map (fun i=>(i.zero,i.size,i.bytes))=some (some (.int .u8 0),1,1):=by kernel_rfl
theorem yl(l:List UInt8):∀u∈ec l,u.oneCell'=true:=fun u hu=>by
 simp[ec]at hu;obtain⟨z,_,rfl⟩:=hu;rfl
theorem mN(b o j:Nat):(⟨b,o,none⟩ : Addr).add j=⟨b,o+j,none⟩:=by unfold Addr.add;split<;>simp_all
def iW(w:World)(B:Nat)(v:Value)(l:List UInt8):Prop :=
 (v=.slice none 0 0/\l=[])∨∃g cap,v=.slice (some ⟨g,0,none⟩) l.length cap/\B<=g/\g<w.heap.size/\l.length<=cap/\cap<=9223372036854775807 /\
   (∀j,j<cap->(w.cell? ⟨g,j,none⟩).isSome=true/\w.frozen? ⟨g,j,none⟩=false)/\∀j u,(ec l)[j]? = some u->w.cell? ⟨g,j,none⟩=some u
theorem iW.nil(w:World)(B:Nat):iW w B (.slice none 0 0) []:=.inl ⟨rfl,rfl⟩
theorem iW.later{w w':World}{B:Nat}{v:Value}{l:List UInt8}(h:iW w B v l)(hb:Below w.heap.size w w'):iW w' B v l:=by
 rcases h with h|⟨g,cap,e,h1,h2,h3,h4,h5,h6⟩
 ·exact .inl h
 ·exact .inr ⟨g,cap,e,h1,a8 h2 hb.size,h3,h4,fun j hj=>by rw[hb.cell (p:=⟨g,j,none⟩) h2,hb.frozen (p:=⟨g,j,none⟩) h2];exact h5 j hj,fun j u hu=>by rw[hb.cell (p:=⟨g,j,none⟩) h2];exact h6 j u hu⟩
theorem iW.of_row{w:World}{B n:Nat}{v:Value}{l:List UInt8}(h:w.ownsRow B 5 1 v n (ec l)):iW w B v l:=by
 obtain⟨hl,h |⟨g,cap,cur,rfl,hg,hh,hn,hc,hs,ht⟩⟩:=h
 ·obtain⟨rfl,rfl⟩:=h
  rw[b8]at hl;exact .inl ⟨rfl,aD (by simpa using hl)⟩
 ·rw[b8,Nat.mul_one]at hl
  subst hl;rw[Nat.mul_one]at hs ht;refine .inr ⟨g,cap,rfl,hg,(Array.getElem?_eq_some_iff.1 hh).1,hn,by unfold maxLen at hc;exact hc,fun j hj=>⟨?_,frozen_of_row w g j cur 5 hh⟩,fun j u hu => ?_⟩
  ·rw[ai w g j cur 5 (0,0) hh,aX (by omega)];rfl
  ·rw[ai w g j cur 5 (0,0) hh,<-hu,<-ht]
   have hj:j<l.length:=by
    have:=(bh.1 hu).1
    rwa [b8]at this
   rw[List.getElem?_take_of_lt hj,bi]
theorem iW.lies{w:World}{B:Nat}{v:Value}{l:List UInt8}(h:iW w B v l):∃A cap,v=.slice A l.length cap/\l.length<=cap/\cap<=9223372036854775807/\en w w.heap.size A (ec l):=by
 rcases h with⟨rfl,rfl⟩|⟨g,cap,rfl,h1,h2,h3,h4,h5,h6⟩
 ·exact⟨none,0,rfl,af _,by omega,fun h=>absurd rfl h⟩
 ·exact⟨some ⟨g,0,none⟩,cap,rfl,h3,h4,fun _=>⟨g,0,rfl,h2,fun j hj=>by rw[ci];exact h6 j _ (aw hj)⟩⟩
theorem iv{B g:Nat}(hB:B<=g){a:World}:∀(vs:List Value) (o:Nat) (w:World),Below B a w->Below B a (w.setCells g o vs)
 | [],_,_,h=>h
 |v::r,o,w,h=>iv hB r (o+1) _ (h.setCell (p:=⟨g,o,none⟩) hB v)
theorem li{g:Nat}:∀(vs:List Value) (o:Nat) (w:World),(w.setCells g o vs).heap.size=w.heap.size
 | [],_,_=>rfl
 |v::r,o,w=>by rw[World.setCells,li r];simp[World.setCell]
theorem uQ{w:World}{B g cap:Nat}{l y:List UInt8}(h1:B<=g)(h2:g<w.heap.size)(h4:cap<=9223372036854775807)(hroom:l.length+y.length<=cap)
 (h5:∀j,j<cap->(w.cell? ⟨g,j,none⟩).isSome=true/\w.frozen? ⟨g,j,none⟩=false) (h6:∀j u,(ec l)[j]? = some u->w.cell? ⟨g,j,none⟩=some u) :
 iW (w.setCells g l.length (ec y)) B (.slice (some ⟨g,0,none⟩) (l.length+y.length) cap) (l++y):=by
 have hin:=World.cell?_setCells_in g (ec y) l.length w (fun j hj=>(h5 (l.length+j) (by rw[b8]at hj;omega)).1)
 refine .inr ⟨g,cap,by rw[aj],h1,by rw[li];exact h2,by rw[aj];exact hroom,h4,fun j hj=>⟨?_,by rw[World.frozen?_setCells];exact(h5 j hj).2⟩,fun j u hu => ?_⟩
 ·by_cases hj1:l.length<=j/\j<l.length+y.length
  ·have:=hin (j-l.length) (by rw[b8];omega)
   rw[show l.length+(j-l.length)=j by omega]at this
   rw[this];rfl
  ·rw[World.cell?_setCells_out g (ec y) l.length w ⟨g,j,none⟩ (fun _ _=>by rw[b8];show j<l.length∨l.length+y.length<=j;omega)]
   exact(h5 j hj).1
 ·rw[jx]at hu
  by_cases hj1:j<l.length
  ·rw[World.cell?_setCells_out g (ec y) l.length w ⟨g,j,none⟩ (fun _ _ => .inl hj1)]
   rw[List.getElem?_append_left (by rw[b8];exact hj1)]at hu
   exact h6 j u hu
  ·rw[List.getElem?_append_right (by rw[b8];omega),b8]at hu
   have hj2:=(bh.1 hu).1;have:=hin (j-l.length) hj2;rw[show l.length+(j-l.length)=j by omega]at this
   rw[this,<-hu,aw hj2]
theorem ri{w:World}{B cap:Nat}{l y:List UInt8}(hB:B<=w.heap.size)(hge:l.length+y.length<=cap)(hcm:cap<=maxLen)(Z:Array Value)(hZ:Z.size=cap-(l.length+y.length)) :
 iW (w.drew.alloc (.cells ((ec l).toArray++(ec y).toArray++Z) 5)) B (.slice (some ⟨w.heap.size,0,none⟩) (l.length+y.length) cap) (l++y):=by
 refine iW.of_row (n:=l.length+y.length) ⟨by rw[b8,aj];omega,.inr ⟨w.heap.size,cap,_,rfl,hB,heap_alloc_new w.drew _,hge,hcm,?_,?_⟩⟩
 ·simp only[Array.size_append,List.size_toArray,b8,hZ];omega
 ·rw[Nat.mul_one,jx]
  simp only[Array.toList_append];rw[List.take_append_of_le_length (by simp[b8])]
  exact bC (by simp[b8])
theorem FO{w:World}{B:Nat}{v:Value}{l:List UInt8}(h:iW w B v l)(hB:B<=w.heap.size)(ad:Addr)(m c:Nat)(y:List UInt8)(hm:y.length=m)(hy:∀j u,(ec y)[j]? = some u->w.cell? (ad.add j)=some u)(hn:l.length+m<=1000000000000)(ty:TypeId) :
 ∃v' w',(Builtin.append_ #[22,22] ty #[v,.slice (some ad) m c]).run Tryz.prog w=.ok v' w'/\iW w' B v' (l++y)/\Below B w w':=by
 obtain⟨i0,hi,hz0,hz1,hz2⟩:=info_parts oM;subst hm;rcases h with⟨rfl,rfl⟩|⟨g,cap,rfl,h1,h2,h3,h4,h5,h6⟩
 ·obtain⟨v',w',hr,ho,hg,_⟩:=run_append_own (P:=Tryz.prog) w B 22 ty 5 i0 (.int .u8 0) 1 1 Tryz.underlying22 hi hz0 hz1 hz2 rfl (by omega) (.slice none 0 0) 0 [] (aQ _ _ _ _) ad y.length c (ec y) (by rw[b8];omega) hy (yl y) (by unfold maxLen;omega) (by omega) hB
  exact⟨v',w',hr,iW.of_row ho,(ae B w).grown hg hB (fun k hk=>by simp[Value.ownBlock]at hk)⟩
 ·by_cases hroom:l.length+y.length<=cap
  ·have hf:=run_firstCells_some (P:=Tryz.prog) w 1 y.length ad y.length c (ec y) (by rw[b8];omega) hy
   have hst:=run_storeCells_cells (P:=Tryz.prog) g l.length (ec y) 0 w (fun j hj=>(h5 _ (by rw[b8]at hj;omega)).1) (fun j hj=>(h5 _ (by rw[b8]at hj;omega)).2) (yl y)
   rw[Nat.add_zero]at hst;exact⟨_,_,by simp[Builtin.append_,run_underlying Tryz.underlying22,sizeOf,typeInfo,hi,hz1,Builtin.lenOf,hroom,hf,Addr.add_lit,hst],uQ h1 h2 h4 hroom h5 h6,iv h1 _ _ _ (ae _ _)⟩
  ·have hr:=run_append_grow (P:=Tryz.prog) w 22 ty 5 i0 (.int .u8 0) Tryz.underlying22 hi hz0 ⟨g,0,none⟩ l.length cap (ec l) (by rw[b8,hz1];omega) (fun j u hu=>by rw[mN,ci];exact h6 j u hu) ad y.length c (ec y) (by rw[b8,hz1];omega) hy (by omega) (by omega) (by rw[hz2];exact growslice_fits (by omega) (by omega))
   refine⟨_,_,hr,ri hB (grownCap_ge w _ cap _) (grownCap_le_maxLen w _ cap _ (by unfold maxLen;omega)) _ ?_,((ae B w).drew).alloc hB _⟩
   rw[size_zeroCells];simp[Value.cells]
theorem ww{w:World}{B:Nat}{v:Value}{l:List UInt8}(h:iW w B v l)(hB:B<=w.heap.size)(S:ByteArray)(hn:l.length+S.size<=1000000000000)(ty:TypeId) :
 ∃v' w',(Builtin.append_ #[22,9] ty #[v,.string S]).run Tryz.prog w=.ok v' w'/\iW w' B v' (l++S.data.toList)/\Below B w w':=by
 obtain⟨i0,hi,hz0,hz1,hz2⟩:=info_parts oM;have hsc:Lib.strCells S=ec S.data.toList:=rfl;have hsz:S.size=S.data.toList.length:=Lib.size_eq S;rcases h with⟨rfl,rfl⟩|⟨g,cap,rfl,h1,h2,h3,h4,h5,h6⟩
 ·obtain⟨v',w',hr,ho,hg,_⟩:=Lib.run_append_own_string (P:=Tryz.prog) w B 22 9 ty 5 i0 Tryz.underlying22 Tryz.underlying9 hi hz0 hz1 hz2 (.slice none 0 0) 0 [] (aQ _ _ _ _) S (by unfold maxLen;omega) (by omega) hB
  exact⟨v',w',hr,iW.of_row (by rw[hsc]at ho;exact ho),(ae B w).grown hg hB (fun k hk=>by simp[Value.ownBlock]at hk)⟩
 ·by_cases hroom:l.length+S.size<=cap
  ·have hf:=Lib.run_firstCells_string (P:=Tryz.prog) w 1 S
   have hst:=run_storeCells_cells (P:=Tryz.prog) g l.length (Lib.strCells S) 0 w (fun j hj=>(h5 _ (by rw[Lib.strCells_length]at hj;omega)).1) (fun j hj=>(h5 _ (by rw[Lib.strCells_length]at hj;omega)).2) (Lib.strCells_oneCell S)
   rw[Nat.add_zero]at hst;have ho:=uQ (y:=S.data.toList) h1 h2 h4 (by rw[<-hsz];exact hroom) h5 h6
   rw[<-hsz,<-hsc]at ho;exact⟨_,_,by simp[Builtin.append_,run_underlying Tryz.underlying22,run_underlying Tryz.underlying9,sizeOf,typeInfo,hi,hz1,Builtin.lenOf,hroom,hf,Addr.add_lit,hst],ho,iv h1 _ _ _ (ae _ _)⟩
  ·have hr:=Lib.run_append_grow_string (P:=Tryz.prog) w 22 9 ty 5 i0 (.int .u8 0) Tryz.underlying22 Tryz.underlying9 hi hz0 ⟨g,0,none⟩ l.length cap (ec l) (by rw[b8,hz1];omega) (fun j u hu=>by rw[mN,ci];exact h6 j u hu) S (by omega) (by omega) (by rw[hz2];exact growslice_fits (by omega) (by omega))
   have ho:=ri (l:=l) (y:=S.data.toList) (cap:=grownCap w (l.length+S.size) cap 5) hB (by rw[<-hsz];exact grownCap_ge w (l.length+S.size) cap 5) (grownCap_le_maxLen w _ cap _ (by unfold maxLen;omega)) (Builtin.zeroCells (Value.int .u8 0).cells (grownCap w (l.length+S.size) cap 5 - (l.length+S.size))) (by rw[size_zeroCells,<-hsz];simp[Value.cells])
   rw[<-hsz,<-hsc]at ho;exact⟨_,_,hr,ho,((ae B w).drew).alloc hB _⟩
theorem wA{w:World}{ops:Array Oper}{rest:List Oper}{o:Oper}{a:Act}{Q:Exit->Act->World->Prop}(hgd:o.guard=none)(s x:Operand)
 (ho:o.op=.call { callee:=.builtin .append,args:=#[s,x],argTypes:=#[22,22] }) (B:Nat) (l:List UInt8) (v:Value) (hs:a.eval s=v) (hown:iW w B v l) (hB:B<=w.heap.size)
 (ad:Addr) (m c:Nat) (y:List UInt8) (hx:a.eval x=.slice (some ad) m c) (hm:y.length=m) (hy:∀j u,(ec y)[j]? = some u->w.cell? (ad.add j)=some u) (hn:l.length+m<=1000000000000)
 (h:∀v' w',iW w' B v' (l++y)->Below B w w'->wpList Tryz.prog ops Q rest (a.put o.dst v') w'):wpList Tryz.prog ops Q (o::rest) a w:=by
 refine wpList_plain hgd fun K hK => ?_;obtain⟨v',w',hr,h2,h3⟩:=FO hown hB ad m c y hm hy hn o.type;unfold Oper.wp execOp;simp only[ho,resolve,invoke,builtin,Sem.run_bind,Sem.run_pure,Result.andThen_ok,List.map_toArray,List.map_cons,List.map_nil,hs,hx,hr];exact hK _ _ (h v' w' h2 h3)
theorem mL{w:World}{ops:Array Oper}{rest:List Oper}{o:Oper}{a:Act}{Q:Exit->Act->World->Prop}(hgd:o.guard=none)(s x:Operand)
 (ho:o.op=.call { callee:=.builtin .append,args:=#[s,x],argTypes:=#[22,9] }) (B:Nat) (l:List UInt8) (v:Value) (hs:a.eval s=v) (hown:iW w B v l) (hB:B<=w.heap.size)
 (S:ByteArray) (hx:a.eval x=.string S) (hn:l.length+S.size<=1000000000000)
 (h:∀v' w',iW w' B v' (l++S.data.toList)->Below B w w'->wpList Tryz.prog ops Q rest (a.put o.dst v') w'):wpList Tryz.prog ops Q (o::rest) a w:=by
 refine wpList_plain hgd fun K hK => ?_;obtain⟨v',w',hr,h2,h3⟩:=ww hown hB S hn o.type;unfold Oper.wp execOp;simp only[ho,resolve,invoke,builtin,Sem.run_bind,Sem.run_pure,Result.andThen_ok,List.map_toArray,List.map_cons,List.map_nil,hs,hx,hr];exact hK _ _ (h v' w' h2 h3)
theorem ez{w:World}{ops:Array Oper}{rest:List Oper}{o:Oper}{a:Act}{Q:Exit->Act->World->Prop}(hgd:o.guard=none)(s x:Operand)
 (ho:o.op=.call { callee:=.builtin .append,args:=#[s,x],argTypes:=#[22,22] }) (B:Nat) (l:List UInt8) (v:Value) (hs:a.eval s=v) (hown:iW w B v l) (hB:B<=w.heap.size)
 (y:UInt8) (x0:Int) (hx0:x0=(y.toNat:Int)) (hx:a.eval x=.slice (some ⟨w.heap.size,0,none⟩) 1 1) (hn:l.length+1<=1000000000000)
 (h:∀v' w',iW w' B v' (l++[y])->Below B w w'->wpList Tryz.prog ops Q rest (a.put o.dst v') w'):wpList Tryz.prog ops Q (o::rest) a (w.alloc (.cells #[.int .u8 x0] 5)):=by
 subst hx0;have hb:=(ae w.heap.size w).alloc (af _) (.cells #[.int .u8 (y.toNat:Int)] 5);refine wA hgd s x ho B l v hs (hown.later hb) (ag hB hb.size) ⟨w.heap.size,0,none⟩ 1 1 [y] hx rfl (fun j u hu => ?_) hn fun v' w' h2 h3=>h v' w' h2 ((hb.mono hB).trans h3);rw[mN,ci,ai _ _ j _ _ _ (ar w _)];exact List.getElem?_toArray.trans hu
end
section
open Go.RowKit
theorem iC(S:ByteArray)(l:List UInt8):(S.toList==l)=(S.data.toList==l):=by rw[aq]
theorem jm(S:ByteArray)(hS:S.size<=1000000)(w:World):∃(cap:Nat) (W:World),(convert 9 22 (.string S)).run Tryz.prog w=.ok (.slice (some ⟨w.heap.size,0,none⟩) S.size cap) W /\
 (∀j (hj:j<S.data.toList.length),W.cell? ⟨w.heap.size,0+j,none⟩=some (.int .u8 (S.data.toList[j].toNat:Int)))/\w.heap.size<W.heap.size/\Below w.heap.size w W/\S.size<=cap/\cap<=9223372036854775807 /\
 iW W w.heap.size (.slice (some ⟨w.heap.size,0,none⟩) S.size cap) S.data.toList:=by
 have hge:=grownCap_ge w S.size 0 5
 have hle:grownCap w S.size 0 5<=9223372036854775807:=by
  have:=grownCap_le_maxLen w S.size 0 5 (by unfold maxLen;omega)
  unfold maxLen at this;exact this
 have hh:=ar w.drew (.cells (bytesRow S (grownCap w S.size 0 5)) 5 ((bytesRow S (grownCap w S.size 0 5)).size,(bytesRow S (grownCap w S.size 0 5)).size+1))
 have hsz:(bytesRow S (grownCap w S.size 0 5)).size=grownCap w S.size 0 5:=by
  simp only[bytesRow,Array.size_append,Array.size_map,Array.size_replicate];have:S.data.size=S.size:=rfl;omega
 have hcell:∀j (hj:j<S.data.toList.length),(w.drew.alloc (.cells (bytesRow S (grownCap w S.size 0 5)) 5 ((bytesRow S (grownCap w S.size 0 5)).size,(bytesRow S (grownCap w S.size 0 5)).size+1))).cell? ⟨w.heap.size,j,none⟩=some (.int .u8 (S.data.toList[j].toNat:Int)):=fun j hj=>by
  rw[ai _ w.heap.size j _ _ _ hh,bytesRow_at _ _ j (by simpa using hj)]
  simp
 refine⟨_,_,run_bytes_of_string w 9 22 5 S Tryz.underlying9 Tryz.underlying22 Tryz.underlying5,fun j hj=>by rw[ci];exact hcell j hj,by simp,?_,hge,hle,?_⟩
 ·exact((ae w.heap.size w).drew).alloc (af _) _
 ·refine .inr ⟨w.heap.size,_,by rw[<-aF],af _,by simp,by rw[<-aF];exact hge,hle,fun j hj=>⟨?_,?_⟩,fun j u hu => ?_⟩
  ·rw[ai _ w.heap.size j _ _ _ hh,aX (by omega)];rfl
  ·have h2:¬(bytesRow S (grownCap w S.size 0 5)).size<=j:=by omega
   unfold World.frozen?;rw[show(⟨w.heap.size,j,none⟩ : Addr).block=w.drew.heap.size from rfl,hh];simp[h2]
  ·have hj:=(bh.1 hu).1
   rw[b8]at hj;rw[hcell j hj,<-hu,ec,List.getElem?_map,aw hj];rfl
theorem vI(S:ByteArray)(c:UInt8)(w:World):(callFunc 216 #[.string S,.int .u8 (c.toNat:Int)]).run Tryz.prog w=.ok (.value (.int .i64 (Lib.indexByte S.data.toList c))) w:=by
 rw[run_callFunc_extern (e:=Extern.BytealgIndexByte.indexByte) Tryz.func216 (by kernel_rfl) (by kernel_rfl) (by kernel_rfl) (by kernel_rfl),Lib.run_indexByteString]
 simp[Result.andThen]
theorem CY(S:ByteArray)(c:UInt8)(w:World):Calls Tryz.prog 212 #[.string S,.int .u8 (c.toNat:Int)] w fun e w'=>e=.returned (.int .i64 (Lib.indexByte S.data.toList c))/\w'=w:=by
 have hx:∀w,(callFunc 216 #[.string S,.int .u8 (c.toNat:Int)]).run Tryz.prog w=.ok (.value (.int .i64 (Lib.indexByte S.data.toList c))) w:=vI S c;generalize (c.toNat:Int)=z at *;go_enter Tryz.func212,Tryz.ntmps212;go_wp2;go_ret;exact⟨rfl,rfl⟩
theorem rx(S:ByteArray)(c:UInt8)(w:World):Calls Tryz.prog 204 #[.string S,.string ⟨#[c]⟩] w fun e w'=>e=.returned (.int .i64 (Lib.indexByte S.data.toList c))/\w'=w:=by
 have hix:∀w,(Instr.index 9 (.string ⟨#[c]⟩) (.int .i64 0)).run Tryz.prog w=.ok (.int .u8 (c.toNat:Int)) w:=fun w=>by
  have:=cz ⟨#[c]⟩ (i:=0) (by show 0<1;omega) w
  simpa using this
 have HL:=aa (CY S c);by_cases hS:S=⟨#[c]⟩
 ·subst hS
  go_enter Tryz.func204,Tryz.ntmps204;go_wp2;go_ret;refine⟨?_,rfl⟩;have:Lib.indexByte (⟨#[c]⟩ : ByteArray).data.toList c=0:=by simp[Lib.indexByte]
  rw[this];rfl
 ·obtain⟨z,hz⟩ : ∃z,Lib.indexByte S.data.toList c=z:=⟨_,rfl⟩
  have hne:([c]==S.toList)=false:=by
   rw[aq,ak];exact fun h=>hS (cp h.symm)
  rw[hz]at HL ⊢;obtain⟨S1,hS1⟩ : ∃S1:ByteArray,S1=⟨#[c]⟩:=⟨_,rfl⟩;clear hz;go_enter Tryz.func204,Tryz.ntmps204
  go_wp2_with fail
  refine(HL.out _).mono ?_;rintro e w'⟨rfl,hw⟩;rw[hw];go_wp2;go_ret;exact⟨rfl,rfl⟩
theorem kj:∀(s:List UInt8) (c:UInt8),(c∉s/\Lib.indexByte s c = -1)∨(∃a b,s=a++c::b/\c∉a/\Lib.indexByte s c=(a.length:Int))
 | [],c => .inl ⟨by simp,rfl⟩
 |x::s,c=>by
  by_cases hx:x=c
  ·subst hx
   exact .inr ⟨[],s,rfl,by simp,by simp[Lib.indexByte]⟩
  ·rcases kj s c with⟨h1,h2⟩|⟨a,b,rfl,h1,h2⟩
   ·exact .inl ⟨by simp[Ne.symm hx,h1],by simp[Lib.indexByte,hx,h2]⟩
   ·refine .inr ⟨x::a,b,rfl,by simp[Ne.symm hx,h1],?_⟩
    simp[Lib.indexByte,hx,h2]
def D9(c:UInt8)(S:ByteArray)(e:Ending):Prop :=
 (c∉S.data.toList/\e=.returned (.tuple #[.string S,.string ⟨#[]⟩,.bool false]))∨(∃P R:ByteArray,S.data.toList=P.data.toList++c::R.data.toList/\c∉P.data.toList/\e=.returned (.tuple #[.string P,.string R,.bool true]))
theorem vh(c:UInt8)(S:ByteArray)(hlen:S.size<=1000000)(w:World):Calls Tryz.prog 190 #[.string S,.string ⟨#[c]⟩] w fun e w'=>D9 c S e/\Below w.heap.size w w':=by
 have HI:=aa (rx S c);rcases kj S.data.toList c with⟨h1,h2⟩|⟨a,b,h1,h2,h3⟩
 ·have H1:=aa h1
  rw[h2]at HI;clear h1 h2;go_enter Tryz.func190,Tryz.ntmps190
  go_wp2_with fail
  refine(HI.out _).mono ?_;rintro e w'⟨rfl,hw⟩;rw[hw];go_wp2
  go_ret3
  exact⟨.inl ⟨H1.out,rfl⟩,ae _ _⟩
 ·rw[h3]at HI
  have hn:a.length+1<=S.size:=by rw[aF,h1];simp
  have e1:(S.extract 0 a.length).data.toList=a:=by rw[cS,h1];simp
  have e2:(S.extract (a.length+1) S.size).data.toList=b:=by rw[cS,aF,cL,h1,List.drop_append];simp
  have HE:Hid (S.data.toList=(S.extract 0 a.length).data.toList++c::(S.extract (a.length+1) S.size).data.toList/\c∉(S.extract 0 a.length).data.toList):=by rw[Hid,e1,e2];exact⟨h1,h2⟩
  clear h1 h2 h3 e1 e2;generalize a.length=n at *;have c1:(n:Int)<=(S.size:Int):=by omega
  have c2:(n:Int)+1<=(S.size:Int):=by omega
  have c4:(0:Int)<=(n:Int)+1:=by omega
  have c3:(0:Int)<=(n:Int):=by omega
  go_enter Tryz.func190,Tryz.ntmps190
  go_wp2_with fail
  refine(HI.out _).mono ?_;rintro e w'⟨rfl,hw⟩;rw[hw]
  go_wp2_with fail
  go_quiet (fail)
  go_wp2
  go_ret3
  exact⟨.inr ⟨_,_,HE.out.1,HE.out.2,rfl⟩,ay (ae _ _) _⟩
theorem oI(c:UInt8)(S:ByteArray)(hlen:S.size<=1000000)(w:World):Calls Tryz.prog 166 #[.string S,.string ⟨#[c]⟩] w fun e w'=>D9 c S e/\Below w.heap.size w w':=by
 have HC:=aa (vh c S hlen w);go_enter Tryz.func166,Tryz.ntmps166
 go_wp2_with fail
 refine HC.out.mono ?_;rintro e w'⟨⟨h1,rfl⟩|⟨P,R,h1,h2,rfl⟩,hb⟩
 ·have H1:=aa h1
  clear h1;go_wp2
  go_ret3
  exact⟨.inl ⟨H1.out,rfl⟩,hb⟩
 ·have H1:=aa h1
  have H2:=aa h2;clear h1 h2;go_wp2
  go_ret3
  exact⟨.inr ⟨P,R,H1.out,H2.out,rfl⟩,hb⟩
theorem wZ(c:UInt8)(S:ByteArray)(w:World):Calls Tryz.prog 199 #[.string S,.string ⟨#[c]⟩] w fun e w'=>e=.returned (.int .i64 (Lib.indexByte S.data.toList c))/\w'=w:=by
 have HI:=aa (rx S c);generalize Lib.indexByte S.data.toList c=z at *;go_enter Tryz.func199,Tryz.ntmps199
 go_wp2_with fail
 refine(HI.out _).mono ?_;rintro e w'⟨rfl,hw⟩;rw[hw];go_wp2;go_ret;exact⟨rfl,rfl⟩
theorem Fd(c:UInt8)(S:ByteArray)(w:World):Calls Tryz.prog 173 #[.string S,.string ⟨#[c]⟩] w fun e w'=>e=.returned (.bool (decide (c∈S.data.toList)))/\w'=w:=by
 have HI:=aa (wZ c S);rcases kj S.data.toList c with⟨h1,h2⟩|⟨a,b,h1,_,h3⟩
 ·rw[h2]at HI
  rw[ap h1];clear h1 h2;go_enter Tryz.func173,Tryz.ntmps173
  go_wp2_with fail
  refine(HI.out _).mono ?_;rintro e w'⟨rfl,hw⟩;rw[hw];go_wp2;go_ret;exact⟨rfl,rfl⟩
 ·rw[h3]at HI
  rw[ax (show c∈S.data.toList by rw[h1];simp)]
  clear h1 h3;generalize a.length=n at *;have hz:(0:Int)<=(n:Int):=by omega
  go_enter Tryz.func173,Tryz.ntmps173
  go_wp2_with fail
  refine(HI.out _).mono ?_;rintro e w'⟨rfl,hw⟩;rw[hw];go_wp2;go_ret;exact⟨rfl,rfl⟩
end
section
open Go.RowKit Go.Shelf
def IY:Ren:={
 f:=fun x=>match x with|103 => 122 | 206 => 186 | 210 => 163 | n=>n
 t:=fun x=>match x with|9 => 9 | 3 => 3 | 4 => 4 | 24 => 49 | n=>n
 g:=fun x=>x }
theorem FY:Lays.n103 Tryz.prog IY:={ mixed:=rfl,f103:=Tryz.func122.trans (congrArg some rfl),f206:=Tryz.func186.trans (congrArg some rfl),f210:=Tryz.func163.trans (congrArg some rfl),t3:=Tryz.underlying3,a3:=Tryz.isAgg3,z3:=Tryz.sizeOf3,v3:=Tryz.zeroValue3,t4:=Tryz.underlying4,a4:=Tryz.isAgg4,z4:=Tryz.sizeOf4,v4:=Tryz.zeroValue4,t9:=Tryz.underlying9,a9:=Tryz.isAgg9,z9:=Tryz.sizeOf9,v9:=Tryz.zeroValue9,t24:=Tryz.underlying49,a24:=Tryz.isAgg49,z24:=Tryz.sizeOf49,v24:=Tryz.zeroValue49 }
theorem sO(S R p:ByteArray)(h:S.data.toList=p.data.toList++R.data.toList)(w:World):Calls Tryz.prog 122 #[.string S,.string p] w fun e w'=>e=.returned (.tuple #[.string R,.bool true])/\w'=w:=by
 have hp:Lib.hasPrefix S.data.toList p.data.toList=true:=by
  unfold Lib.hasPrefix;rw[bV,h];exact ce _ _
 have h1:=Any.strings_CutPrefix FY S p w
 have e1:(⟨(Lib.trimPrefix S.data.toList p.data.toList).toArray⟩ : ByteArray)=R:=by
  unfold Lib.trimPrefix;rw[av hp,h,List.drop_left,ws]
 rw[hp,e1]at h1;exact h1
theorem i7(S p:ByteArray)(h:¬∃r,S.data.toList=p.data.toList++r)(w:World):Calls Tryz.prog 122 #[.string S,.string p] w fun e w'=>e=.returned (.tuple #[.string S,.bool false])/\w'=w:=by
 have hp:Lib.hasPrefix S.data.toList p.data.toList=false:=by
  cases hq:Lib.hasPrefix S.data.toList p.data.toList with
  |false=>rfl
  |true =>
   unfold Lib.hasPrefix at hq;rw[bV]at hq;obtain⟨r,hr⟩:=hq;exact absurd ⟨r,hr.symm⟩ h
 have h1:=Any.strings_CutPrefix FY S p w
 have e1:(⟨(Lib.trimPrefix S.data.toList p.data.toList).toArray⟩ : ByteArray)=S:=by
  unfold Lib.trimPrefix;rw[hp,am (by simp),ws]
 rw[hp,e1]at h1;exact h1
end
section
open Go.RowKit
def kG(f:Nat->Value)(i:Nat)(v:Value):Nat->Value:=fun j=>if j=i then v else f j
theorem BW(f:Nat->Value)(i:Nat)(v:Value):kG f i v i=v:=av rfl
theorem zF{f:Nat->Value}{i j:Nat}{v:Value}(h:j≠i):kG f i v j=f j:=am h
theorem nX{p q:Nat->Bool}:∀{l:List Nat} {i:Nat},i∈l->(∀j,q j=true->p j=true)->p i=true->q i=false->l.countP q<l.countP p
 | [],_,h,_,_,_=>by simp at h
 |x::l,i,h,hqp,hp,hq=>by
  have hle:l.countP q<=l.countP p:=List.countP_mono_left (fun j _ h=>hqp j h);by_cases hx:x=i
  ·subst hx
   rw[List.countP_cons,List.countP_cons,hp,hq];simp;omega
  ·have hi:i∈l:=by
    rcases aU.1 h with h|h
    ·exact absurd h.symm hx
    ·exact h
   have ih:=nX hi hqp hp hq;rw[List.countP_cons,List.countP_cons];cases hqx:q x with
   |true=>rw[hqp x hqx];simp;omega
   |false=>simp;omega
section
variable {P:Program} {md:Region.Mode} {ops:Array Oper} {Q:Exit->Act->World->Prop}
theorem jh{listed:Array Bool}{i j:Nat}(d:Bool)(hi:i<listed.size):(listed.setIfInBounds i true).getD j d=if j=i then true else listed.getD j d:=by
 simp only[Array.getD_eq_getD_getElem?,Array.getElem?_setIfInBounds];by_cases h:j=i
 ·subst h;simp[hi]
 ·rw[am (fun e=>h e.symm),am h]
theorem nl{listed:Array Bool}{j:Nat}(h:j<listed.size):listed.getD j true=listed.getD j false:=by
 simp[Array.getD_eq_getD_getElem?,aX h]
def ll(md:Region.Mode)(ops:Array Oper)(i j:Nat):Prop:=∃o,ops[i]? = some o/\∃e∈o.after,Region.binds md e=true/\e.on=j
theorem ug{n:Nat}(hn:ops.size=n+1)(mk:(Nat->Value)->Act)(F:Nat->Value->World->Prop)(G:World->Prop)
 (mono:∀j v w w',F j v w->Below w.heap.size w w'->F j v w')
 (clos:∀L:Nat->Prop,(∀i j,L i->ll md ops i j->L j)->(∀j,ll md ops n j->L j)->∀j,j<n->L j)
 (step:∀i,i<n->∀f w,G w->(∀j,ll md ops i j->F j (f j) w)->∀K:Act->World->Prop,(∀v w',F i v w'->G w'->Below w.heap.size w w'->K (mk (kG f i v)) w')->wpOp P ops Q i K (mk f) w)
 (last:∀f w,G w->(∀j,j<n->F j (f j) w)->∀K:Act->World->Prop,(∀a' w',Q .normal a' w'->K a' w')->wpOp P ops Q n K (mk f) w)
 (back:∀i j,ll md ops i j->j<i) :
 ∀(fuel:Nat) (listed:Array Bool) (f:Nat->Value) (w:World),listed.size=n+1->G w->(∀j,j<n->listed.getD j false=true->F j (f j) w)->listed.getD n false=false ->
  (∀i j,listed.getD i false=true->ll md ops i j->listed.getD j false=true)->(List.range (n+1)).countP (fun j => !listed.getD j false)<=fuel->wpAny P md ops Q fuel listed (mk f) w:=by
 intro fuel
 induction fuel with
 |zero =>
  intro listed f w hs hG hF hl hd hc
  exfalso
  have:0<(List.range (n+1)).countP (fun j => !listed.getD j false):=List.countP_pos_iff.2 ⟨n,by simp,by simp[hl]⟩
  omega
 |succ fuel ih =>
  intro listed f w hs hG hF hl hd hc
  have hready:∀i,i∈Region.ready md ops listed->i<n+1/\listed.getD i false=false/\∀j,ll md ops i j->listed.getD j false=true:=by
   intro i hi;obtain⟨h1,o,ho,h2⟩:=mem_ready.1 hi
   have hlt:i<n+1:=by
    rcases Nat.lt_or_ge i ops.size with h|h
    ·omega
    ·rw[bL h]at ho;cases ho
   refine⟨hlt,by rw[<-nl (by omega)];exact h1,?_⟩
   rintro j⟨o',ho',e,he,hb,rfl⟩;obtain rfl:o'=o:=Option.some.inj (ho'.symm.trans ho);exact h2 e he hb
  have hcount:∀i,i<n+1->listed.getD i false=false->(List.range (n+1)).countP (fun j => !(listed.setIfInBounds i true).getD j false)<=fuel:=by
   intro i hi hli
   have:=nX (p:=fun j => !listed.getD j false) (q:=fun j => !(listed.setIfInBounds i true).getD j false) (l:=List.range (n+1)) (i:=i) (by simp;omega)
    (fun j hj=>by
      rw[jh false (by omega)]at hj
      by_cases h:j=i
      ·simp[h]at hj
      ·simpa [h]using hj) (by simp[hli]) (by rw[jh false (by omega)];simp)
   omega
  refine⟨fun h0 => ?_,fun i hi => ?_⟩
  ·exfalso
   have hall:∀m,m<=n+1->∀j,j<m->listed.getD j false=true:=by
    intro m
    induction m with
    |zero=>intro _ j hj;omega
    |succ m ihm =>
     intro hm j hj;rcases bU (cC hj)with h|h
     ·exact ihm (by omega) j h
     ·subst h
      cases hlj:listed.getD j false with
      |true=>rfl
      |false =>
       exfalso
       have hj':j<ops.size:=by omega
       have:j∈Region.ready md ops listed:=mem_ready.2 ⟨by rw[nl (by omega)];exact hlj,ops[j],aX hj',fun e he hb=>ihm (by omega) _ (back j e.on ⟨ops[j],aX hj',e,he,hb,rfl⟩)⟩
       rw[h0]at this;cases this
   have:=hall (n+1) (af _) n (by omega)
   rw[hl]at this;cases this
  ·obtain⟨h1,h2,h3⟩:=hready i hi
   by_cases hin:i=n
   ·subst hin
    have hall:∀j,j<i->listed.getD j false=true:=clos (fun j=>listed.getD j false=true) hd h3;refine last f w hG (fun j hj=>hF j hj (hall j hj)) _ (fun a' w' hq=>wpAny_done ?_ hq _);rw[List.eq_nil_iff_forall_not_mem];intro j hj;obtain⟨h1',o,ho,_⟩:=mem_ready.1 hj
    have hlt:j<i+1:=by
     rcases Nat.lt_or_ge j ops.size with h|h
     ·omega
     ·rw[bL h]at ho;cases ho
    rw[jh true (by omega)]at h1'
    by_cases hji:j=i
    ·rw[av hji]at h1';cases h1'
    ·rw[am hji,nl (by omega),hall j (by omega)]at h1';cases h1'
   ·have hi':i<n:=by omega
    refine step i hi' f w hG (fun j hj=>hF j (Nat.lt_trans (back i j hj) hi') (h3 j hj)) _ (fun v w' hv hG' hb => ?_);refine ih _ (kG f i v) w' (by simpa using hs) hG' (fun j hj hlj => ?_) ?_ ?_ (hcount i h1 h2)
    ·rw[jh false (by omega)]at hlj
     by_cases hji:j=i
     ·subst hji;rw[BW];exact hv
     ·rw[am hji]at hlj
      rw[zF hji];exact mono _ _ _ _ (hF j hj hlj) hb
    ·rw[jh false (by omega),am (fun e=>hin e.symm)];exact hl
    ·intro x y hx hw
     rw[jh false (by omega)]at hx ⊢
     by_cases hy:y=i
     ·rw[av hy]
     ·rw[am hy]
      by_cases hxi:x=i
      ·subst hxi;exact h3 y hw
      ·rw[am hxi]at hx;exact hd x y hx hw
def sg(md:Region.Mode)(ops:Array Oper)(i j:Nat):Bool:=match ops[i]? with|some o=>o.after.any fun e=>Region.binds md e&&(e.on==j)|none=>false
def DK(md:Region.Mode)(ops:Array Oper):Bool:=(List.range ops.size).all fun i=>match ops[i]? with|some o=>o.after.all fun e => !Region.binds md e||decide (e.on<i)|none=>true
def Cb(md:Region.Mode)(ops:Array Oper)(n:Nat):Bool:=(List.range n).all fun j=>(List.range (n+1)).any fun i=>decide (j<i)&&sg md ops i j
theorem oY{i j:Nat}(h:sg md ops i j=true):ll md ops i j:=by
 unfold sg at h
 split at h
 ·next o ho =>
  obtain⟨e,he,hb⟩:=Array.any_eq_true'.1 h;simp only[aO,bc]at hb;exact⟨o,ho,e,he,hb.1,hb.2⟩
 ·cases h
theorem FM(h:DK md ops=true)(i j:Nat)(hw:ll md ops i j):j<i:=by
 obtain⟨o,ho,e,he,hb,rfl⟩:=hw;unfold DK at h;rw[bK]at h
 have hi:i<ops.size:=by
  rcases Nat.lt_or_ge i ops.size with h|h
  ·exact h
  ·rw[bL h]at ho;cases ho
 have:=h i (by simpa using hi)
 rw[ho]at this;have:=Array.all_eq_true_iff_forall_mem.1 this e he;simpa [hb]using this
theorem FG{n:Nat}(h:Cb md ops n=true)(L:Nat->Prop)(h1:∀i j,L i->ll md ops i j->L j)(h2:∀j,ll md ops n j->L j):∀j,j<n->L j:=by
 unfold Cb at h;rw[bK]at h
 have key:∀d j,j<n->n-j=d->L j:=by
  intro d
  induction d using Nat.strongRecOn with
  |ind d ih =>
   intro j hj hd;have:=h j (by simpa using hj)
   obtain⟨i,hi,hb⟩:=List.any_eq_true.1 this;simp only[aO,bj]at hb;have hin:i<n+1:=by simpa using hi
   by_cases he:i=n
   ·subst he;exact h2 j (oY hb.2)
   ·exact h1 i j (ih (n-i) (by omega) i (by omega) rfl) (oY hb.2)
 exact fun j hj=>key _ j hj rfl
theorem bF{i:Nat}{o:Oper}{a:Act}{w:World}{K:Act->World->Prop}(ho:ops[i]? = some o)(hg:o.guard=none)(h:o.wp P a w K Q):wpOp P ops Q i K a w:=by
 unfold wpOp;rw[ho];simp only[Region.wanted,hg,if_true];exact .inl h
theorem jB{id n:Nat}(hm:P.follows .mixedOrders=true)(hn:ops.size=n+1)(hback:DK .any ops=true)(hsucc:Cb .any ops n=true)(mk:(Nat->Value)->Act)(F:Nat->Value->World->Prop)(G:World->Prop)(f0:Nat->Value)(w:World)
 (mono:∀j v w w',F j v w->Below w.heap.size w w'->F j v w') (hG:G w.drew)
 (step:∀i,i<n->∀f w,G w->(∀j,sg .any ops i j=true->F j (f j) w)->∀K:Act->World->Prop,(∀v w',F i v w'->G w'->Below w.heap.size w w'->K (mk (kG f i v)) w')->wpOp P ops Q i K (mk f) w)
 (last:∀f w,G w->(∀j,j<n->F j (f j) w)->∀K:Act->World->Prop,(∀a' w',Q .normal a' w'->K a' w')->wpOp P ops Q n K (mk f) w) :
 (Code.region id ops true).wp P Q (mk f0) w:=by
 refine wp_region_any hm (ug hn mk F G mono (FG hsucc) (fun i hi f w hG h=>step i hi f w hG (fun j hj=>h j (oY hj))) last (FM hback) _ _ f0 w.drew ?_ hG ?_ ?_ ?_ ?_)
 ·simp[hn]
 ·intro j hj hl
  rw[hn]at hl;simp[Array.getD_eq_getD_getElem?,show j<n+1 by omega]at hl
 ·rw[hn]
  simp[Array.getD_eq_getD_getElem?]
 ·intro i j hl
  rw[hn]at hl;simp[Array.getD_eq_getD_getElem?,Array.getElem?_replicate]at hl
  split at hl<;>simp at hl
 ·rw[hn]
  exact ag List.countP_le_length (by simp)
end
end
end Go.Proofs.YteinegfbpfhflaaGreatDoor
