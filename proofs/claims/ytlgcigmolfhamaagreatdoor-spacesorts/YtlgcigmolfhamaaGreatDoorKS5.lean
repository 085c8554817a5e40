/-
  space.declared: a walk over the declarations of an element and of those above it. Conditions: the document lies as it is.
-/
import Derived.RangeFuncNested
import Derived.RangeFuncBound
import Derived.RangeFuncCalls
import Derived.RangeFuncLeaves
import Derived.Shelf.Abstract
import Derived.Shelf.RegionOpen
import Derived.WalkKit
import Derived.OwnWalkIn
import Derived.TacticsInMore
import Derived.LoopNIn
import Derived.LoopIn
import Derived.Maps.AppendAt
import Derived.Sort.CutIn
import Derived.Test.YtlgcigmolfhamaaGreatDoorKTell
import Derived.Test.YtlgcigmolfhamaaGreatDoorK20
import Derived.Test.YtlgcigmolfhamaaGreatDoorKS4
namespace Go.Proofs.YtlgcigmolfhamaaGreatDoor
open Go.RowKit
set_option linter.unusedVariables false
set_option maxRecDepth 100000
set_option maxHeartbeats 4000000
theorem c5K{a b:ByteArray}(h:(a.toList==b.toList)=true):a.data.toList=b.data.toList:=by rw[<-f9,<-f9];simpa using h
theorem c5J{a b:ByteArray}(h:(a.toList==b.toList)=false):a.data.toList≠b.data.toList:=by rw[<-f9,<-f9];simpa using h
abbrev Ds:={ x:Dc // x.p.size<=2000000/\x.u.size<=2000000 }
def vls(l:List Ds):List Dc:=l.map (·.1)
theorem c44(l:List Ds)(x:Ds):vls (l++[x])=vls l++[x.1]:=by simp[vls]
theorem c5x(l:List Ds):(vls l).length=l.length:=by simp[vls]
structure c4Y(n₀:Nat)(Nm:World->Nat->Prop)(W W':World):Prop where
 low:Below n₀ W W'
 same:∀k o,W.heap[k]? = some o->o.isCells=true->¬Nm W k->W'.heap[k]? = some o
 nm:∀k,Nm W' k->Nm W k∨(W.heap.size<=k/\k<W'.heap.size)
theorem c4Y.refl{n₀:Nat}{Nm:World->Nat->Prop}(W:World):c4Y n₀ Nm W W:=⟨b8 _ _,fun _ _ h _ _=>h,fun _ h => .inl h⟩
theorem c4Y.trans{n₀:Nat}{Nm:World->Nat->Prop}{A B C:World}(h:c4Y n₀ Nm A B)(k:c4Y n₀ Nm B C):c4Y n₀ Nm A C where
 low:=h.low.trans k.low
 same:=fun i o hi ho hn=>k.same i o (h.same i o hi ho hn) ho (fun hb=>by
  rcases h.nm i hb with hb|hb
  ·exact hn hb
  ·have:=i3 hi;omega)
 nm:=fun i hi=>by
  have h1:=h.low.size;have h2:=k.low.size;rcases k.nm i hi with hb|hb
  ·rcases h.nm i hb with hb|hb
   ·exact .inl hb
   ·exact .inr ⟨hb.1,by omega⟩
  ·exact .inr ⟨by omega,hb.2⟩
theorem c4Y.of_below{n₀:Nat}{Nm:World->Nat->Prop}{W W':World}(hb:Below W.heap.size W W')(hn:n₀<=W.heap.size)(hm:∀k,Nm W' k->Nm W k):c4Y n₀ Nm W W' :=
 ⟨hb.mono hn,fun k o hk _ _=>(hb.block k (i3 hk)).trans hk,fun k h => .inl (hm k h)⟩
theorem c4W{W W':World}(h:Below W.heap.size W W'):W.grownBy W' none:=⟨h.os,h.tape,h.output,h.size,fun k hk _=>h.block k hk⟩
theorem c4Y.row{n₀:Nat}{Nm:World->Nat->Prop}{W W':World}(h:c4Y n₀ Nm W W'){k:Nat}{o:Obj}(hk:W.heap[k]? = some o)(ho:o.isCells=true)(hn:¬Nm W k):W'.heap[k]? = some o/\¬Nm W' k :=
 ⟨h.same k o hk ho hn,fun hb=>by
  rcases h.nm k hb with hb|hb
  ·exact hn hb
  ·have:=i3 hk;omega⟩
theorem c5d(q:Option Addr)(z:Int)(w:World):Calls Tryz.prog 52 #[.pointer q,.int .i64 z] w fun e w'=>e=.returned (.func (.func 96) #[] #[.pointer (some ⟨w.heap.size,0,none⟩),.pointer (some ⟨w.heap.size+1,0,none⟩)])/\w'=(w.alloc (.cells #[.pointer q] 24)).alloc (.cells #[.int .i64 z] 3):=by
 go_enter Tryz.func52,Tryz.ntmps52;go_wp2;go_ret;exact⟨rfl,rfl⟩
def c42(l:List Nd)(n:Nat):List Int:=(n:Int)::upL l n
theorem c5e(l:List Nd)(n:Nat):c48 l n=c43::(c42 l n).flatMap (fun a=>dsR l a.toNat):=rfl
def pfx(l:List Nd)(A:List Int)(j:Nat):List Dc:=c43::(A.take j).flatMap (fun a=>dsR l a.toNat)
theorem c6w(l:List Nd)(A:List Int):pfx l A 0=[c43]:=rfl
theorem c51(l:List Nd)(A:List Int){j:Nat}(h:j<A.length):pfx l A (j+1)=pfx l A j++dsR l A[j].toNat:=by
 unfold pfx;rw[l8 h,D8];simp
theorem c6e(l:List Nd)(A:List Int){j:Nat}(h:j<A.length)(k:Nat):pfx l A j++(dsR l A[j].toNat).take k <+: c43::A.flatMap (fun a=>dsR l a.toNat):=by
 refine⟨(dsR l A[j].toNat).drop k++(A.drop (j+1)).flatMap (fun a=>dsR l a.toNat),?_⟩;rw[List.append_assoc,<-List.append_assoc (List.take k _),I5];unfold pfx;rw[i9]
 congr 1
 conv=>rhs;rw[<-I5 j A,D8,B8 h,List.flatMap_cons]
theorem c52(l:List Nd)(A:List Int):pfx l A A.length=c43::A.flatMap (fun a=>dsR l a.toNat):=by unfold pfx;rw[I1]
theorem c6b{l:List Nd}:∀m n,n<=m->n<l.length->∀a∈c42 l n,∃k:Nat,a=(k:Int)/\k<l.length:=by
 intro m
 induction m with
 |zero =>
  intro n hn hl a ha;obtain rfl:n=0:=by omega
  have h:¬(0<=pa l 0/\(pa l 0).toNat<0):=by omega
  rw[c42,c4h h]at ha;simp at ha;exact⟨0,ha,hl⟩
 |succ m ih =>
  intro n hn hl a ha;rw[c42,q8]at ha;rcases ha with rfl|ha
  ·exact⟨n,rfl,hl⟩
  ·by_cases h:0<=pa l n/\(pa l n).toNat<n
   ·rw[c4i h]at ha
    refine ih (pa l n).toNat (by omega) (by omega) a ?_
    rw[c42,show(((pa l n).toNat:Nat):Int)=pa l n by omega];exact ha
   ·rw[c4h h]at ha;simp at ha
def dcV(x:Dc):Value:=.agg #[.string x.p,.string x.u]
theorem c53(k n:Int)(p l u t:ByteArray)(A1 A2:Option Addr)(n1 c1 n2 c2:Nat)(w:World):(Instr.field 46 (.agg #[.int .i64 k,.int .i64 n,.string p,.string l,.string u,.string t,.slice A1 n1 c1,.slice A2 n2 c2]) 0).run Tryz.prog w=.ok (.int .i64 k) w:=by kernel_rfl
theorem c6x(k n:Int)(p l u t:ByteArray)(A1 A2:Option Addr)(n1 c1 n2 c2:Nat)(w:World):(Instr.field 46 (.agg #[.int .i64 k,.int .i64 n,.string p,.string l,.string u,.string t,.slice A1 n1 c1,.slice A2 n2 c2]) 6).run Tryz.prog w=.ok (.slice A1 n1 c1) w:=by kernel_rfl
theorem c5y(l:List Nd):∀m n,n<=m->(upL l n).length<=n:=by
 intro m
 induction m with
 |zero =>
  intro n hn;obtain rfl:n=0:=by omega
  have:¬(0<=pa l 0/\(pa l 0).toNat<0):=by omega
  rw[c4h this];exact c9 _
 |succ m ih =>
  intro n hn;by_cases h:0<=pa l n/\(pa l n).toNat<n
  ·rw[c4i h,i8]
   have:=ih (pa l n).toNat (by omega)
   omega
  ·rw[c4h h];exact o4 _
theorem c5H{w:World}{g B:Nat}{z:Int}(h:w.heap[g]? = some (.cells #[.int .i64 z] 3 (0,0)))(hb:B<=g):w.ownsRow B 3 1 (.slice (some ⟨g,0,none⟩) 1 1) 1 [.int .i64 z] :=
 ⟨rfl,.inr ⟨g,1,#[.int .i64 z],rfl,hb,h,c9 _,by decide,rfl,rfl⟩⟩
theorem c3w.src{w:World}{B:Nat}{v:Value}{l:List Int}(h:c3w w B v l):(∃c,v=.slice none 0 c/\l.length=0)∨∃ad c,v=.slice (some ad) l.length c/\∀j u,(c21 l)[j]? = some u->w.cell? (ad.add j)=some u:=by
 rcases h with⟨rfl,rfl⟩|⟨g,cap,rfl,_,_,_,_,_,h6⟩
 ·exact .inl ⟨0,rfl,rfl⟩
 ·refine .inr ⟨⟨g,0,none⟩,cap,rfl,fun j u hu => ?_⟩
  rw[b5s,F5];exact h6 j u hu
theorem c5O{W2 wx wa:World}{v1:Value}{z:Int}{U:List Int}{gg:Nat}(hb:Below W2.heap.size W2 wx)(D0:W2.heap.size<=gg)(h1:wa.ownsRow W2.heap.size 3 1 v1 (1+U.length) ([.int .i64 z]++c21 U))(hg:wx.grownBy wa (Value.slice (some ⟨gg,0,none⟩) 1 1).ownBlock) :
 Below W2.heap.size W2 wa/\∃g c cur,v1=.slice (some ⟨g,0,none⟩) (z::U).length c/\W2.heap.size<=g/\wa.heap[g]? = some (.cells cur 3 (0,0))/\cur.toList.take (z::U).length=c21 (z::U):=by
 refine⟨hb.grown hg hb.size (fun k hk=>by simp[Value.ownBlock]at hk;omega),?_⟩
 obtain⟨hl,⟨_,h⟩|⟨g,cap,cur,rfl,hg',hh,hn,hc,hs,ht⟩⟩:=h1
 ·omega
 ·refine⟨g,cap,cur,by rw[i8,Nat.add_comm],hg',hh,?_⟩
  rw[Nat.mul_one]at ht;rw[i8,Nat.add_comm,ht];rfl
theorem c5l:c43.p.size<=2000000/\c43.u.size<=2000000:=by constructor<;>decide
def c6n(nn lp n₀:Nat)(Nm:World->Nat->Prop)(L:List Dc)(J Jx:List Dc->World->Prop):Prop :=
 ∀pre (x:Dc) W,x.p.size<=2000000->x.u.size<=2000000->J pre W->pre.length<L.length->YieldAt Fence.wide (nn-1) Tryz.prog lp #[dcV x] W fun e W' =>
  (e=.returned (.bool true)/\J (pre++[x]) W'/\c4Y n₀ Nm W W')∨(e=.returned (.bool false)/\Jx (pre++[x]) W')
attribute [local go_sem] Oper.semAt_some
theorem c57(nn:Nat)(X4:1<=nn)(lp:Nat){B d:Nat}{l:List Nd}(n:Nat)(w0:World)(h:a0Q w0 B d l)(E1:l.length<=100000)(hs:∀x∈l,Sm x)(L1:n<l.length)(hh:W4 l l.length)(h0:pa l 0 = -1)(hk:l[n].k=1)(Bd Bn Sz:Nat)(Nm:World->Nat->Prop)
 (X5:w0.heap.size<=Sz) (E2:∀W W':World,Sz<=W.heap.size->Below W.heap.size W W'->∀k,Nm W' k->Nm W k) (J Jx:List Dc->World->Prop) (W:World) (hJ:AbidesFrom W.heap.size J) (hY:c6n nn lp w0.heap.size Nm (c48 l n) J Jx)
 (L2:Below w0.heap.size w0 W) (E3:Sz<=W.heap.size) (bD:Boxed W Bd 24 (.pointer (some ⟨d,0,none⟩))) (bN:Boxed W Bn 3 (.int .i64 (n:Int))) (nD:¬Nm W Bd) (nN:¬Nm W Bn) (R9:∀k,Nm W k->k<W.heap.size) (N4:J [] W) :
 CallsIn Fence.wide nn Tryz.prog 96 #[.func (.yield lp) #[] #[],.pointer (some ⟨Bd,0,none⟩),.pointer (some ⟨Bn,0,none⟩)] W fun e W'=>(∃v,e=.returned v)/\((∃xs,xs=c48 l n/\J xs W')∨(∃pre,pre <+: c48 l n/\Jx pre W')):=by
 have HN:=a8 (b6k n W (h.later L2) E1 hs L1);rw[hk]at HN;have cD:=bD.cell;have cN:=bN.cell;have HR:=a8 hY
 have HK:Hid (∀W1,Below W.heap.size W W1->Boxed W1 Bd 24 (.pointer (some ⟨d,0,none⟩))/\Boxed W1 Bn 3 (.int .i64 (n:Int))/\¬Nm W1 Bd/\¬Nm W1 Bn/\(∀k,Nm W1 k->k<W1.heap.size)/\J [] W1/\c4Y w0.heap.size Nm W W1):=fun W1 hb=>by
  refine⟨(hb.block _ bD.lt).trans bD,(hb.block _ bN.lt).trans bN,fun hn=>nD (E2 W W1 E3 hb _ hn),fun hn=>nN (E2 W W1 E3 hb _ hn),fun k hk=>x9 (R9 k (E2 W W1 E3 hb k hk)) hb.size,hJ _ _ _ none N4 (c4W hb) (fun r e=>by cases e),c4Y.of_below hb L2.size (E2 W W1 E3 hb)⟩
 refine callsIn_of_wp Tryz.func96 rfl trivial ?_ rfl;simp only[Tryz.ntmps96,List.size_toArray,i8,t7,Nat.reduceAdd,Nat.reduceSub,Array.replicate_succ,Array.replicate_zero,List.push_toArray,List.append_toArray,l7,i9];have S0:=c53;have S1:=c6x;clear hY bD bN N4
 gi_wp2_with (refine⟨trivial,?_⟩;gi_at_call 20;refine(callsIn_wide.2 HN.out).mono ?_;rintro e W1 ⟨vd,va,rfl,G0,G1,N5⟩;obtain⟨A3,c3,rfl⟩:=J8.form G0;obtain⟨A4,c4,rfl⟩:=J8.form G1;obtain⟨bD1,bN1,nD1,nN1,G4,N6,J2⟩:=HK.out W1 N5;have cD1:=bD1.cell;have cN1:=bN1.cell;obtain⟨f1,t1,a1,b1,N7,S2⟩:=HR.out [] c43 W1 c5l.1 c5l.2 N6 (by rw[c5e];exact Nat.succ_pos _);dsimp only[dcV,c43,a1K,a3T]at N7)
 refine S2.mono ?_;rintro e W2 (⟨rfl,S3,D9⟩|⟨rfl,S4⟩)
 ·have L3:Hid (∀w',Below w0.heap.size w0 w'->Calls Tryz.prog 97 #[.pointer (some ⟨d,0,none⟩),.int .i64 (n:Int)] w' fun e w'' => ∃v',e=.returned v'/\c3w w'' w'.heap.size v' (upL l n)/\Below w'.heap.size w' w''):=fun w' hb=>c4P n w' (h.later hb) E1 hs L1 hh h0
  have J3:Below w0.heap.size w0 W2:=(L2.trans J2.low).trans D9.low
  have L4:∀k,Nm W2 k->k<W2.heap.size:=fun k hk=>by
   rcases D9.nm k hk with h1|h1
   ·exact x9 (G4 k h1) D9.low.size
   ·exact h1.2
  have b2:=D9.row bD1 rfl nD1;have bN2:=D9.row bN1 rfl nN1;have cD2:W2.cell? ⟨Bd,0,none⟩=some (.pointer (some ⟨d,0,none⟩)):=Boxed.cell b2.1;have cN2:W2.cell? ⟨Bn,0,none⟩=some (.int .i64 (n:Int)):=Boxed.cell bN2.1;have E4:Hid (∀W3,Below W2.heap.size W2 W3->W3.cell? ⟨Bd,0,none⟩=some (.pointer (some ⟨d,0,none⟩))/\W3.cell? ⟨Bn,0,none⟩=some (.int .i64 (n:Int))/\Below w0.heap.size w0 W3):=fun W3 hb=>⟨(hb.cell (p:=⟨Bd,0,none⟩) (i3 b2.1)).trans cD2,(hb.cell (p:=⟨Bn,0,none⟩) (i3 bN2.1)).trans cN2,J3.trans (hb.mono J3.size)⟩;clear G0 G1 N5 HN HK
  gi_wp2_with fail
  gi_cut [24,25,26]from 19 (fun s24 s25 s26 wx=>s25=.int .i64 ((c42 l n).length:Int)/\s26=.int .i64 0/\Below W2.heap.size W2 wx/\∃g c cur,s24=.slice (some ⟨g,0,none⟩) (c42 l n).length c/\W2.heap.size<=g/\wx.heap[g]? = some (.cells cur 3 (0,0))/\cur.toList.take (c42 l n).length=c21 (c42 l n))
  case first =>
   rw[wpIn_wide];obtain⟨i0,N8,N9,P0,P1⟩:=info_parts b8H;have X6:(upL l n).length<=100000:=by have:=c5y l n n (c9 _);omega
   obtain⟨a1,a2,a3⟩:=E4.out W2.drew ((b8 _ _).drew);obtain⟨a4,a5,a6⟩:=E4.out (W2.drew.alloc (.cells #[.int .i64 (n:Int)] 3)) (((b8 _ _).drew).alloc (c9 _) _);obtain⟨gz7,gz8,gz9⟩:=E4.out ((W2.alloc (.cells #[.int .i64 (n:Int)] 3)).drew) (((b8 _ _).alloc (c9 _) _).drew);obtain⟨jz7,jz8,jz9⟩:=E4.out (W2.alloc (.cells #[.int .i64 (n:Int)] 3)) ((b8 _ _).alloc (c9 _) _);have S5:∀w3:World,Below W2.drew.heap.size W2.drew w3->Below W2.heap.size W2 w3:=fun w3 D3=>Below.trans ((b8 W2.heap.size W2).drew) D3;have S6:∀w3:World,Below (W2.drew.alloc (.cells #[.int .i64 (n:Int)] 3)).heap.size (W2.drew.alloc (.cells #[.int .i64 (n:Int)] 3)) w3->Below W2.heap.size W2 w3:=fun w3 D3=>Below.trans (((b8 W2.heap.size W2).drew).alloc (c9 _) _) (D3.mono (by rw[World.size_alloc];exact Nat.le_succ W2.heap.size))
   have S7:∀w3:World,Below (W2.drew.alloc (.cells #[.int .i64 (n:Int)] 3)).heap.size (W2.drew.alloc (.cells #[.int .i64 (n:Int)] 3)) w3->w3.heap[W2.heap.size]? = some (.cells #[.int .i64 (n:Int)] 3 (0,0)):=fun w3 D3=>(D3.block W2.heap.size (by rw[World.size_alloc];exact Nat.lt_succ_self W2.heap.size)).trans (g9 W2.drew _)
   have G4:(c21 (upL l n)).length=(upL l n).length*1:=by rw[m0,Nat.mul_one]
   have P2:1+(upL l n).length<=maxLen:=by unfold maxLen;omega
   have P3:(1+(upL l n).length)*8<=140737488355328:=by omega
   go_region_law (first
    |(go_simp;go_at_call 97;(first|refine(L3.out _ a3).mono ?_|refine(L3.out _ a6).mono ?_);rintro e w3 ⟨v3,rfl,P4,D3⟩;have D2:=(by first|exact S5 _ D3|exact S6 _ D3:Below W2.heap.size W2 w3);obtain⟨e1,e2,e3⟩:=E4.out w3 D2;obtain⟨e4,e5,e6⟩:=E4.out (w3.alloc (.cells #[.int .i64 (n:Int)] 3)) (D2.alloc D2.size _))
    |(refine U3 (P:=Tryz.prog) rfl (.tmp 20) (.tmp 23) 72 rfl W2.heap.size 3 i0 _ 1 _ Tryz.underlying72 N8 N9 P0 P1 rfl (by omega) (.slice (some ⟨W2.heap.size,0,none⟩) 1 1) 1 [.int .i64 (n:Int)] rfl (c5H (S7 _ D3) (c9 _)) (upL l n).length v3 rfl (c21 (upL l n)) P4.src G4 (c3V _) P2 P3 D2.size ?_;intro v1 wa D1 D0 _;obtain⟨P5,gg,cc,cur,rfl,L5,G5,G6⟩:=c5O D2 (c9 _) D1 D0)
    |(refine U3 (P:=Tryz.prog) rfl (.tmp 20) (.tmp 23) 72 rfl W2.heap.size 3 i0 _ 1 _ Tryz.underlying72 N8 N9 P0 P1 rfl (by omega) (.slice (some ⟨w3.heap.size,0,none⟩) 1 1) 1 [.int .i64 (n:Int)] rfl (c5H (g9 w3 _) D2.size) (upL l n).length v3 rfl (c21 (upL l n)) (c3w.later P4 ((b8 _ _).alloc (c9 _) _)).src G4 (c3V _) P2 P3 (by rw[World.size_alloc];exact Nat.le_succ_of_le D2.size) ?_;intro v1 wa D1 D0 _;obtain⟨P5,gg,cc,cur,rfl,L5,G5,G6⟩:=c5O (D2.alloc D2.size _) D2.size D1 D0))
   all_goals
    gi_wp2_with fail
    gi_meet
    exact⟨rfl,rfl,P5,gg,cc,cur,rfl,L5,G5,G6⟩
  case rest =>
   obtain⟨rfl,rfl,J4,gg,cc,cur,rfl,L5,G5,G6⟩:=hcut;have HA:=a8 (c6b n n (c9 _) L1);have E5:c4Y w0.heap.size Nm W2 wc:=c4Y.of_below J4 J3.size (E2 W2 wc (d8 E3 (d8 J2.low.size D9.low.size)) J4)
   have P6:∀k,Nm wc k->k<wc.heap.size:=fun k hk=>by
    rcases E5.nm k hk with h1|h1
    ·exact x9 (L4 k h1) E5.low.size
    ·exact h1.2
   have P7:¬Nm wc gg:=fun hb=>by
    rcases E5.nm gg hb with h1|h1
    ·have:=L4 gg h1;omega
    ·have h3:=E2 W2 wc (d8 E3 (d8 J2.low.size D9.low.size)) J4 gg hb
     have:=L4 gg h3;omega
   have S8:J [c43] wc:=hJ _ _ _ none S3 (c4W J4) (fun r e=>by cases e)
   have bDc:=E5.row b2.1 rfl b2.2
   have G7:Hid (∀wr,c4Y w0.heap.size Nm wc wr->∀j (hj:j<(c42 l n).length),wr.cell? ⟨gg,j,none⟩=some (.int .i64 (c42 l n)[j])):=fun wr hk j hj=>by
    have h1:=(hk.row G5 rfl P7).1;have h2:(c21 (c42 l n))[j]? = some (.int .i64 (c42 l n)[j]):=by simp[c21,hj]
    rw[d9 wr gg j _ _ _ h1,<-A9,<-List.getElem?_take_of_lt hj,G6,h2]
   have G8:Hid (∀wr,c4Y w0.heap.size Nm wc wr->wr.cell? ⟨Bd,0,none⟩=some (.pointer (some ⟨d,0,none⟩))/\Below w0.heap.size w0 wr/\(∀k,Nm wr k->k<wr.heap.size)/\Sz<=wr.heap.size):=fun wr hk=>by
    refine⟨Boxed.cell (hk.row bDc.1 rfl bDc.2).1,(J3.trans E5.low).trans hk.low,fun k hn => ?_,d8 E3 (d8 J2.low.size (d8 D9.low.size (d8 E5.low.size hk.low.size)))⟩;rcases hk.nm k hn with h1|h1
    ·exact x9 (P6 k h1) hk.low.size
    ·exact h1.2
   have S9:Hid (∀(m:Nat) (hm:m<l.length) w',Below w0.heap.size w0 w'->Calls Tryz.prog 20 #[.pointer (some ⟨d,0,none⟩),.int .i64 (m:Int)] w' fun e w'' => ∃vd va,e=.returned (.agg #[.int .i64 l[m].k,.int .i64 l[m].n,.string l[m].p,.string l[m].l,.string l[m].u,.string l[m].t,vd,va])/\a1A w'' w'.heap.size vd l[m].ds/\a1B w'' w'.heap.size va l[m].ats/\Below w'.heap.size w' w''):=fun m hm w' hb=>b6k m w' (h.later hb) E1 hs hm
   have T0:Hid (∀(m:Nat) (hm:m<l.length) (k:Nat) (hk:k<l[m].ds.length),l[m].ds[k].p.size<=2000000/\l[m].ds[k].u.size<=2000000):=fun m hm k hk=>by
    have:=hs _ (o0 hm);exact this.ds _ (o0 hk)
   have HL:Hid ((c42 l n).length<=100001):=by
    have:=c5y l n n (c9 _)
    show((n:Int)::upL l n).length<=_
    rw[i8];omega
   have L6:=a8 E2;have HJ:Hid (∀pre wa wb,J pre wa->Below wa.heap.size wa wb->J pre wb):=fun pre wa wb h1 h2=>hJ _ _ _ none h1 (c4W h2) (fun r e=>by cases e)
   have P8:Hid (c48 l n=pfx l (c42 l n) (c42 l n).length):=a8 (by rw[c5e,c52])
   have P9:Hid (∀j (hj:j<(c42 l n).length) k,pfx l (c42 l n) j++(dsR l (c42 l n)[j].toNat).take k <+: c48 l n):=fun j hj k=>by rw[c5e];exact c6e l _ hj k
   have R0:Hid (∀j (hj:j<(c42 l n).length),pfx l (c42 l n) (j+1)=pfx l (c42 l n) j++dsR l (c42 l n)[j].toNat):=fun j hj=>c51 l _ hj;obtain⟨A,L7⟩ : ∃A,c42 l n=A:=⟨_,rfl⟩;rw[L7]at G7 HA HL P8 P9 R0;rw[L7];obtain⟨nA,L8⟩ : ∃nA,A.length=nA:=⟨_,rfl⟩;have R1:=a8 L8;have T1:=HL.out;rw[L8]at T1 ⊢;clear L7 L8 E5 P6 P7 b2 bN2 cD2 cN2 E4 G6 G5 cD1 cN1 N6 G4 N7 nD1 nN1 bD1 bN1 cD cN L3
   gi_wp2_with fail
   gi_loopw [26] (fun p wr => ∃j:Nat,j<=nA/\p=.int .i64 (j:Int)/\c4Y w0.heap.size Nm wc wr/\J (pfx l A j) wr) (fun p _=>nA-(intOf p).toNat)
   case atStart=>exact⟨0,o4 _,rfl,c4Y.refl _,S8⟩
   case round =>
    obtain⟨j,hj,rfl,J5,L9⟩:=hrel;by_cases G9:j<nA
    ·have J6:j<A.length:=by rw[R1.out];exact G9
     obtain⟨m,hm,J7⟩:=HA.out A[j] (o0 J6);have R2:=G7.out wr J5 j J6;rw[hm]at R2;obtain⟨cDr,R3,T2,R4⟩:=G8.out wr J5;have T3:(j:Int)<(nA:Int):=by omega
     have M0:=a8 (S9.out m J7 wr R3);have T4:Hid (dsR l A[j].toNat=l[m].ds):=a8 (by rw[hm,J0,a49 J7])
     have T5:=a8 (T0.out m J7);have T6:=a8 (hs _ (o0 J7)).nd;have M1:=a8 (P9.out j J6);have M2:=a8 (R0.out j J6);rw[T4.out]at M1 M2;generalize l[m]=X at *;obtain⟨ds,M3⟩ : ∃ds,X.ds=ds:=⟨_,rfl⟩;obtain⟨nd,J1⟩ : ∃nd,ds.length=nd:=⟨_,rfl⟩;have E6:=a8 J1;rw[M3]at M1 M2 M0;have T7:∀k (hk:k<ds.length),ds[k].p.size<=2000000/\ds[k].u.size<=2000000:=by subst M3;exact T5.out
     have X7:nd<=2000000:=by rw[<-J1,<-M3];exact T6.out
     have M4:=a8 T7
     gi_wp2_with (refine⟨trivial,?_⟩;gi_at_call 20;refine(callsIn_wide.2 M0.out).mono ?_;rintro e Wz4 ⟨vd,va,rfl,G0,G1,E8⟩;have E7:J8 Wz4 wr.heap.size 34 vd nd (ds.flatMap C1):=(by rw[<-E6.out];exact G0);obtain⟨Aq5,c5,rfl⟩:=J8.form E7;obtain⟨Aq6,c6,rfl⟩:=J8.form G1)
     have M5:=a8 E7;have X8:=a8 E8;have T8:J (pfx l A j++ds.take 0) Wz4:=by rw[List.take_zero,A7];exact HJ.out _ _ _ L9 E8
     have R5:c4Y w0.heap.size Nm wr Wz4:=c4Y.of_below E8 R3.size (L6.out wr Wz4 R4 E8);have R6:=a8 (J5.trans R5)
     have R7:∀g,wr.heap.size<=g->¬Nm Wz4 g:=fun g hg hb=>by
      have:=T2 g (L6.out wr Wz4 R4 E8 g hb);omega
     have T9:=a8 R7;clear G0 E7 G1 E8 R5 R7 M0 L9 J5 cDr R2
     gi_loopw [35] (fun p wr2 => ∃k:Nat,k<=nd/\p=.int .i64 (k:Int)/\c4Y w0.heap.size Nm Wz4 wr2/\J (pfx l A j++ds.take k) wr2) (fun p _=>nd-(intOf p).toNat)
     case atStart=>exact⟨0,o4 _,rfl,c4Y.refl _,T8⟩
     case round =>
      obtain⟨k,hk,rfl,J9,M6⟩:=hrel;obtain⟨cD4,M7,V0,M8⟩:=G8.out wr (R6.out.trans J9);by_cases R8:k<nd
      ·have L0:k<ds.length:=by rw[E6.out];exact R8
       have V1:(k:Int)<(nd:Int):=by omega
       obtain⟨h0',_⟩|⟨g2,e2,V2,M9⟩:=M5.out
       ·omega
       ·simp only[o5]at e2
        obtain⟨rfl,_,rfl⟩:=e2;have E0:=(J9.row M9 rfl (T9.out g2 V2)).1;have V3:(ds.flatMap C1)[k*2+0]? = (C1 ds[k])[0]?:=Q6 (f:=C1) (c:=2) (fun _=>rfl) ds k 0 L0 (by omega)
        have V4:(ds.flatMap C1)[k*2+1]? = (C1 ds[k])[1]?:=Q6 (f:=C1) (c:=2) (fun _=>rfl) ds k 1 L0 (by omega)
        have cx0:wr.cell? ⟨g2,k*2,none⟩=some (.string ds[k].p):=by rw[d9 wr g2 (k*2) _ _ _ E0,List.getElem?_toArray,<-Nat.add_zero (k*2),V3];rfl
        have cx1:wr.cell? ⟨g2,k*2+1,none⟩=some (.string ds[k].u):=by rw[d9 wr g2 (k*2+1) _ _ _ E0,List.getElem?_toArray,V4];rfl
        have hx:=M4.out k L0;have N0:Hid (ds.take (k+1)=ds.take k++[ds[k]]):=a8 (l8 L0);have N1:=a8 (M1.out (k+1));generalize ds[k]=x at *;have N2:Below wr.heap.size wr (wr.alloc (.cells #[.string x.p,.string x.u] 34)):=(b8 _ _).alloc (c9 _) _;have V5:=HJ.out _ _ _ M6 N2;have V6:c4Y w0.heap.size Nm wr (wr.alloc (.cells #[.string x.p,.string x.u] 34)):=c4Y.of_below N2 M7.size (L6.out _ _ M8 N2)
        obtain⟨fz5,t5,a5,b5,V7,V8⟩:=HR.out _ x _ hx.1 hx.2 V5 (by
         have h1:=N1.out.length_le;rw[N0.out,<-List.append_assoc,e8 (bs:=[x]),j0]at h1;omega)
        dsimp only[dcV]at V7
        gi_wp2
        refine V8.mono ?_;rintro e Wz6 (⟨rfl,V9,X0⟩|⟨rfl,X1⟩)
        ·gi_wp2
         go_roundw
         case rel=>exact⟨k+1,R8,by first|rfl|simp,(J9.trans V6).trans X0,by rw[N0.out,<-List.append_assoc];exact V9⟩
         case measure=>simp[intOf];omega
        ·gi_wp2
         refine bodyPost_ret (results_none rfl _ _ _) rfl ?_;exact⟨⟨_,rfl⟩,.inr ⟨_,by rw[N0.out,<-List.append_assoc]at N1;exact N1.out,X1⟩⟩
      ·have X2:k=nd:=by omega
       subst X2;have V1:¬(k:Int)<(k:Int):=by omega
       have N3:Hid (J (pfx l A (j+1)) wr):=a8 (by rw[M2.out];rw[<-E6.out,I1]at M6;exact M6)
       gi_wp2
       go_roundw
       case rel=>exact⟨j+1,G9,by first|rfl|simp,R6.out.trans J9,N3.out⟩
       case measure=>simp[intOf];omega
    ·have X3:j=nA:=by omega
     subst X3;have T3:¬(j:Int)<(j:Int):=by omega
     gi_wp2
     go_end0
     exact⟨⟨_,rfl⟩,.inl (by rw[P8.out,R1.out];exact L9)⟩
 ·gi_wp2
  refine bodyPost_ret (results_none rfl _ _ _) rfl ?_;exact⟨⟨_,rfl⟩,.inr ⟨[c43],⟨_,rfl⟩,S4⟩⟩
end Go.Proofs.YtlgcigmolfhamaaGreatDoor
