/-
  The document's own reader in memory: its block; what stays. apostilleref08.Reader: sees, take. Conditions: the texts are not too long.
  apostilleref08.Reader: take, blanks, until. Conditions: the reader lies as it is; the texts are not too long.
  apostilleref08.Reader: until. Conditions: the reader lies as it is; the texts are not too long, what is looked for isn't empty.
  apostilleref08.Reader: name, full. Conditions: the reader lies as it is; the texts are not too long.
-/
import Derived.Test.YteinegfbpfhflaaGreatDoorK38
import Derived.BigQuiet
import Derived.StillTailTactics
namespace Go.Proofs.YteinegfbpfhflaaGreatDoor
open Go.RowKit
set_option linter.unusedVariables false
set_option maxRecDepth 100000
set_option maxHeartbeats 16000000
structure U5(w:World)(b:Nat)(S:ByteArray)(v:Value)(s:Rf)(k:Nat):Prop where
 le:k<=S.size
 rest:s.rest=S.data.toList.drop k
 box:w.heap[b]? = some (.cells #[.string S,.int .i64 (k:Int),v,.bool s.bad] 64 (0,0))
theorem U5.cells{w:World}{b:Nat}{S:ByteArray}{v:Value}{s:Rf}{k:Nat}(h:U5 w b S v s k):w.cell? ⟨b,0,none⟩=some (.string S)/\w.cell? ⟨b,1,none⟩=some (.int .i64 (k:Int))/\w.cell? ⟨b,2,none⟩=some v/\w.cell? ⟨b,3,none⟩=some (.bool s.bad):=by
 refine⟨?_,?_,?_,?_⟩<;>rw[d9 w b _ _ _ _ h.box]<;>rfl
theorem U5.frozen{w:World}{b:Nat}{S:ByteArray}{v:Value}{s:Rf}{k:Nat}(h:U5 w b S v s k)(j:Nat):w.frozen? ⟨b,j,none⟩=false:=by unfold World.frozen?;rw[h.box];simp
theorem U5.lt{w:World}{b:Nat}{S:ByteArray}{v:Value}{s:Rf}{k:Nat}(h:U5 w b S v s k):b<w.heap.size:=i3 h.box
theorem U5.below{w w':World}{b:Nat}{S:ByteArray}{v:Value}{s:Rf}{k:Nat}(h:U5 w b S v s k)(hb:Below w.heap.size w w'):U5 w' b S v s k:=⟨h.le,h.rest,(hb.block b h.lt).trans h.box⟩
theorem U5.len{w:World}{b:Nat}{S:ByteArray}{v:Value}{s:Rf}{k:Nat}(h:U5 w b S v s k):s.rest.length=S.size-k:=by rw[h.rest,B6,<-j9]
structure M3(b:Nat)(S:ByteArray)(v:Value)(s':Rf)(w w':World):Prop where
 os:w'.os=w.os
 tape:w'.tape=w.tape
 output:w'.output=w.output
 size:w.heap.size<=w'.heap.size
 other:∀y,y<w.heap.size->y≠b->w'.heap[y]? = w.heap[y]?
 at':∃k,U5 w' b S v s' k
theorem M3.trans{b:Nat}{S:ByteArray}{v v':Value}{s s':Rf}{w w1 w2:World}(h:M3 b S v s w w1)(h':M3 b S v' s' w1 w2):M3 b S v' s' w w2 :=
 ⟨h'.os.trans h.os,h'.tape.trans h.tape,h'.output.trans h.output,d8 h.size h'.size,fun y hy hb=>(h'.other y (x9 hy h.size) hb).trans (h.other y hy hb),h'.at'⟩
theorem M3.of{b:Nat}{S:ByteArray}{v:Value}{s:Rf}{k:Nat}{w w':World}(h:U5 w b S v s k)(hb:Below w.heap.size w w'):M3 b S v s w w':=⟨hb.os,hb.tape,hb.output,hb.size,fun y hy _=>hb.block y hy,k,h.below hb⟩
theorem M3.below{b B:Nat}{S:ByteArray}{v:Value}{s:Rf}{w w':World}(h:M3 b S v s w w')(hB:B<=b)(hs:B<=w.heap.size):Below B w w':=⟨h.os,h.tape,h.output,h.size,fun y hy=>h.other y (by omega) (by omega)⟩
theorem M3.back{b:Nat}{S:ByteArray}{v:Value}{s:Rf}{w w1 w':World}(h1:Below w.heap.size w w1)(h:M3 b S v s w1 w'):M3 b S v s w w' :=
 ⟨h.os.trans h1.os,h.tape.trans h1.tape,h.output.trans h1.output,d8 h1.size h.size,fun y hy hb=>(h.other y (x9 hy h1.size) hb).trans (h1.block y hy),h.at'⟩
theorem M3.go{w:World}{b:Nat}{S:ByteArray}{v:Value}{s:Rf}{k:Nat}(h:U5 w b S v s k){j:Nat}(hj:j<=S.size):M3 b S v (s.to (S.data.toList.drop j)) w (w.setCell ⟨b,1,none⟩ (.int .i64 (j:Int))) :=
 ⟨rfl,rfl,rfl,by simp[World.setCell],fun y hy hb=>f7 _ _ _ _ hb,j,hj,rfl,by rw[o8 h.box];rfl⟩
theorem U5.go{w:World}{b:Nat}{S:ByteArray}{v:Value}{s:Rf}{k:Nat}(h:U5 w b S v s k){j:Nat}(hj:j<=S.size):U5 (w.setCell ⟨b,1,none⟩ (.int .i64 (j:Int))) b S v (s.to (S.data.toList.drop j)) j:=⟨hj,rfl,by rw[o8 h.box];rfl⟩
theorem M3.mark{w:World}{b:Nat}{S:ByteArray}{v:Value}{s:Rf}{k:Nat}(h:U5 w b S v s k)(x:Bool):M3 b S v { s with bad:=x } w (w.setCell ⟨b,3,none⟩ (.bool x)) :=
 ⟨rfl,rfl,rfl,by simp[World.setCell],fun y hy hb=>f7 _ _ _ _ hb,k,h.le,h.rest,by rw[o8 h.box];rfl⟩
theorem Y9(S:ByteArray){k j:Nat}(h1:k<=j)(h2:j<=S.size)(w:World):(Instr.slice 9 (.string S) (some (.int .i64 (k:Int))) (some (.int .i64 (j:Int))) none).run Tryz.prog w=.ok (.string (S.extract k j)) w:=by
 simp[Instr.slice,run_underlying Tryz.underlying9,Instr.sliceBounds,Instr.sliceBound,asIntOf,h1,h2]
theorem c0U{p s:List UInt8}:(m9 p s).isSome=decide (s.take p.length=p):=by
 unfold m9;by_cases h:p.isPrefixOf s=true
 ·rw[g8 h]
  rw[F0,List.prefix_iff_eq_take]at h;exact(i6 h.symm).symm
 ·rw[f6 h]
  rw[F0,List.prefix_iff_eq_take]at h;exact(f8 (fun e=>h e.symm)).symm
theorem a7g(S:ByteArray)(k n:Nat):(S.extract k (k+n)).data.toList=(S.data.toList.drop k).take n:=by
 rw[J5,List.drop_take,Nat.add_sub_cancel_left]
theorem O3(S T:ByteArray)(b:Nat)(v:Value)(s:Rf)(k:Nat)(w:World)(h:U5 w b S v s k)(hS:S.size<=1000000)(hT:T.size<=1000000) :
 Calls Tryz.prog 57 #[.pointer (some ⟨b,0,none⟩),.string T] w fun e w'=>e=.returned (.bool (F3 T.data.toList s))/\M3 b S v s w w':=by
 obtain⟨c0,c1,c2,c3⟩:=h.cells;have hk:=h.le;have D3:=h.lt;have D1:=h.len;have HR:=a8 h;have hx:F3 T.data.toList s=decide ((S.data.toList.drop k).take T.size=T.data.toList):=by unfold F3;rw[c0U,h.rest,j9 T]
 obtain⟨B,hB⟩ : ∃B,F3 T.data.toList s=B:=⟨_,rfl⟩;rw[hB]at hx ⊢;clear h c2 c3 hB;by_cases D0:(S.size:Int)-(k:Int) ≥ (T.size:Int)
 ·have hd:decide ((S.size:Int)-(k:Int) ≥ (T.size:Int))=true:=i6 D0
  obtain⟨Z,hZ⟩ : ∃Z,S.extract k (k+T.size)=Z:=⟨_,rfl⟩
  have D9:∀w,(Instr.slice 9 (.string S) (some (.int .i64 (k:Int))) (some (.int .i64 ((k:Int)+(T.size:Int)))) none).run Tryz.prog w=.ok (.string Z) w:=fun w=>by
   rw[<-hZ];exact Y9 S (Nat.le_add_right k T.size) (by omega) w
  have ht:(Z.toList==T.toList)=B:=by
   rw[f9,f9,hx,<-hZ,a7g];exact A8.2 (by rw[x8,decide_eq_true_iff])
  clear hx hZ D1;go_enter Tryz.func57,Tryz.ntmps57
  go_wp2_with fail
  go_quiet (fail)
  go_wp2;go_ret;exact⟨rfl,M3.of HR.out (i7 (b8 _ _) _)⟩
 ·have hd:decide ((S.size:Int)-(k:Int) ≥ (T.size:Int))=false:=f8 D0
  have D2:B=false:=by
   rw[hx,F4];intro e;have:=congrArg List.length e;rw[u0,B6,<-j9,<-j9]at this;omega
  subst D2;clear hx D1;go_enter Tryz.func57,Tryz.ntmps57
  go_wp2_with fail
  go_quiet (fail)
  go_wp2;go_ret;exact⟨rfl,M3.of HR.out (i7 (b8 _ _) _)⟩
theorem U7(S T:ByteArray)(b:Nat)(v:Value)(s:Rf)(k:Nat)(w:World)(h:U5 w b S v s k)(hS:S.size<=1000000)(hT:T.size<=1000000) :
 Calls Tryz.prog 59 #[.pointer (some ⟨b,0,none⟩),.string T] w fun e w'=>e=.returned (.tuple #[])/\M3 b S v (D0 T.data.toList s) w w':=by
 have HS:=a8 (O3 S T b v s k w h hS hT);have HR:=a8 h;have hk:=h.le;have D1:=h.len;cases hp:m9 T.data.toList s.rest with
 |none =>
  rw[Q9 hp]at HS;rw[V5 hp];clear h hp D1;go_enter Tryz.func59,Tryz.ntmps59
  go_wp2_with fail
  refine HS.out.mono ?_;rintro e w1⟨rfl,hr⟩;obtain⟨k1,hm⟩:=hr.at';obtain⟨c0,c1,c2,c3⟩:=hm.cells;have f3:=hm.frozen 3;have D3:=hm.lt;have HM:=a8 hm;have D2:=a8 hr;clear hm hr c0 c1 c2;go_wp2;refine bodyPost_ret (results_none rfl _ _ _) rfl ?_;exact⟨rfl,D2.out.trans (M3.mark HM.out true)⟩
 |some r =>
  rw[L8 hp]at HS;rw[L4 hp];have D9:=a08 hp
  have hr:S.data.toList.drop (k+T.size)=r:=by
   rw[<-List.drop_drop,<-h.rest,I6 hp,j9 T,List.drop_left]
  rw[D1,<-j9]at D9;have E0:=a8 hr;clear h hp D1 hr;go_enter Tryz.func59,Tryz.ntmps59
  go_wp2_with fail
  refine HS.out.mono ?_;rintro e w1⟨rfl,hr⟩;obtain⟨k1,hm⟩:=hr.at';have E1:k1=k∨(S.data.toList.drop k1=S.data.toList.drop k):=.inr (hm.rest.symm.trans HR.out.rest)
  have E2:k1=k:=by
   have h1:=hm.len;have h2:=HR.out.len;have:=hm.le;omega
  subst E2;obtain⟨c0,c1,c2,c3⟩:=hm.cells;have f1:=hm.frozen 1;have D3:=hm.lt;have HM:=a8 hm;have D2:=a8 hr;have E3:Hid (.int .i64 ((k1:Int)+(T.size:Int))=Value.int .i64 ((k1+T.size:Nat):Int)):=by show _=_;simp
  clear hm hr c0 c2 c3 E1;go_wp2
  go_end0
  refine⟨rfl,?_⟩;rw[E3.out,<-E0.out];exact D2.out.trans (M3.go HM.out (by omega))
def b7S(w:World)(b:Nat)(S:ByteArray)(v:Value)(s:Rf)(k:Nat)(i:Value)(wr:World):Prop :=
 ∃n j:Nat,k+n=j/\i=.int .i64 (n:Int)/\((S.data.toList.drop k).take n).all X0=true/\U5 wr b S v (s.to (S.data.toList.drop j)) j/\M3 b S v (s.to (S.data.toList.drop j)) w wr
theorem U2(S:ByteArray)(b:Nat)(v:Value)(s:Rf)(k:Nat)(w:World)(h:U5 w b S v s k)(hS:S.size<=1000000) :
 Calls Tryz.prog 62 #[.pointer (some ⟨b,0,none⟩)] w fun e w'=>e=.returned (.int .i64 (Y6 s:Nat))/\M3 b S v (C8 s) w w':=by
 have HR:=a8 h;have hk:=h.le;obtain⟨N,hN⟩ : ∃N,S.size=N:=⟨_,rfl⟩;have E7:S.data.toList.length=N:=by rw[<-j9];exact hN
 have E1:=a8 E7;have E0:=a8 hN;rw[hN]at hS hk
 have D3:Hid (∀n j,k+n=j->j<=N->((S.data.toList.drop k).take n).all X0=true->(S.data.toList.drop j=[]∨∃c r,S.data.toList.drop j=c::r/\X0 c=false)->Y6 s=n/\C8 s=s.to (S.data.toList.drop j)):=fun n j hj hn D0 G1=>by
  subst hj
  have e:n8 s.rest=S.data.toList.drop (k+n):=by
   rw[HR.out.rest];unfold n8;rw[a67 D0 (by rw[List.drop_drop];exact G1),List.drop_drop]
  refine⟨?_,by unfold C8;rw[e]⟩
  unfold Y6;rw[e,HR.out.rest,B6,B6,E1.out];omega
 have G4:Hid (b7S w b S v s k (.int .i64 0) w):=by
  have hs:s.to (S.data.toList.drop k)=s:=by rw[<-HR.out.rest];rfl
  refine⟨0,k,rfl,rfl,rfl,?_,?_⟩
  ·rw[hs];exact HR.out
  ·rw[hs];exact M3.of HR.out (b8 _ _)
 obtain⟨M,hM⟩ : ∃M,Y6 s=M:=⟨_,rfl⟩;rw[hM]at D3 ⊢;clear h hN E7 hM;go_enter Tryz.func62,Tryz.ntmps62;go_wp2
 go_loopw [3] (b7S w b S v s k) (fun i _=>N-(intOf i).toNat)
 case atStart=>exact G4.out
 case round =>
  obtain⟨n,j,hj,rfl,D0,hm,hr⟩:=hrel;obtain⟨c0,c1,c2,c3⟩:=hm.cells;have f1:=hm.frozen 1;have E3:=hm.le;have G5:=hm.lt;rw[E0.out]at E3;have HM:=a8 hm;have E4:=a8 hr;have D9:=a8 D0;have HJ:=a8 hj;have J1:n<=N:=by omega
  clear hm hr D0 c2 c3;by_cases G6:j<N
  ·have E8:j<S.data.toList.length:=by rw[E1.out];exact G6
   have J2:=G7 S E8;have D1:S.data.toList.drop j=S.data.toList[j]::S.data.toList.drop (j+1):=B8 E8
   have D2:(S.data.toList.drop k).take (n+1)=(S.data.toList.drop k).take n++[S.data.toList[j]]:=by
    have h1:n<(S.data.toList.drop k).length:=by rw[B6,E1.out];omega
    rw[l8 h1,List.getElem_drop]
    congr 3
   have E2:Hid (∀w',Calls Tryz.prog 58 #[.int .u8 (S.data.toList[j].toNat:Int)] w' fun e w''=>e=.returned (.bool (X0 S.data.toList[j]))/\w''=w'):=fun w'=>by
    have:=a01 (S.data.toList[j].toNat:Int) w';rw[a0r]at this;exact this
   have HT:=a8 D2;have G8:=a8 D1;have E5:=E0.out;have hd:decide ((j:Int)<(S.size:Int))=true:=i6 (by rw[E5];omega)
   clear D2 D1 hj;generalize S.data.toList[j]=c at *;cases hc:X0 c with
   |true =>
    rw[hc]at E2
    have E6:Hid (((S.data.toList.drop k).take (n+1)).all X0=true):=by
     show _=true
     rw[HT.out,List.all_append,D9.out];simp[hc]
    clear hc
    go_wp2_with fail
    go_quiet ((go_at_call 58;exact Calls.quiet_of_same (E2.out _)))
    have G9:Hid (Value.int .i64 ((j:Int)+1)=Value.int .i64 ((j+1:Nat):Int)):=by show _=_;simp
    go_wp2
    go_roundw
    case rel =>
     rw[G9.out];have G0:=HM.out.below (i7 (b8 wr.heap.size wr) nq);have J3:=HJ.out;exact⟨n+1,j+1,by omega,by go_num,E6.out,G0.go (by rw[E0.out];omega),E4.out.trans ((M3.of HM.out (i7 (b8 wr.heap.size wr) nq)).trans (M3.go G0 (by rw[E0.out];omega)))⟩
    case measure=>have:=HJ.out;simp[intOf];omega
   |false =>
    obtain⟨e1,e2⟩:=D3.out n j HJ.out E3 D9.out (.inr ⟨c,_,G8.out,hc⟩);rw[hc]at E2;clear hc;subst e1;have HE:=a8 e2;clear e2
    go_wp2_with fail
    go_quiet ((go_at_call 58;exact Calls.quiet_of_same (E2.out _)))
    go_wp2;go_ret;refine⟨rfl,?_⟩;rw[HE.out];exact E4.out.trans (M3.of HM.out (i7 (b8 wr.heap.size wr) _))
  ·have J4:j=N:=by omega
   obtain⟨e1,e2⟩:=D3.out n j HJ.out E3 D9.out (.inl (List.drop_eq_nil_of_le (by rw[E1.out];omega)))
   have E5:=E0.out;have hd:decide ((j:Int)<(S.size:Int))=false:=f8 (by rw[E5];omega)
   subst e1;have HE:=a8 e2;clear e2
   go_wp2_with fail
   go_quiet (fail)
   go_wp2;go_ret;refine⟨rfl,?_⟩;rw[HE.out];exact E4.out.trans (M3.of HM.out (i7 (b8 wr.heap.size wr) _))
def c0O(w:World)(S:ByteArray)(t:List UInt8)(k:Nat)(i:Value)(wr:World):Prop :=
 ∃j:Nat,k<=j/\j<=S.size/\i=.int .i64 (j:Int)/\K5 t (S.data.toList.drop k)=(K5 t (S.data.toList.drop j)).map (fun q=>((S.data.toList.drop k).take (j-k)++q.1,q.2))/\wr=w
theorem b7g{t s:List UInt8}(h:s.length<t.length):K5 t s=none:=by
 cases hc:K5 t s with
 |none=>rfl
 |some q =>
  obtain⟨p,r⟩:=q;have:=P4 hc;omega
theorem b7h{c:UInt8}{t s:List UInt8}(h:s.take (c::t).length=c::t):K5 (c::t) s=some ([],s.drop (c::t).length):=by
 cases s with
 |nil=>simp at h
 |cons d s =>
  rw[a2S,g8];rw[F0,List.prefix_iff_eq_take];exact h.symm
theorem b5h{c:UInt8}{t:List UInt8}{d:UInt8}{s:List UInt8}(h:(d::s).take (c::t).length≠c::t):K5 (c::t) (d::s)=(K5 (c::t) s).map fun q=>(d::q.1,q.2):=by
 rw[a2S,f6];rw[F0,List.prefix_iff_eq_take];exact fun e=>h e.symm
theorem a1M(S T:ByteArray)(c:UInt8)(t:List UInt8)(hT:T.data.toList=c::t)(b:Nat)(v:Value)(s:Rf)(k:Nat)(w:World)(h:U5 w b S v s k)(hS:S.size<=1000000)(G6:T.size<=1000000) :
 Calls Tryz.prog 101 #[.pointer (some ⟨b,0,none⟩),.string T] w fun e w'=>e=.returned (.string (ba (J3 T.data.toList s).1))/\M3 b S v (J3 T.data.toList s).2 w w':=by
 have HR:=a8 h;have hk:=h.le;obtain⟨c0,c1,c2,c3⟩:=h.cells;have G7:=h.lt;have G8:=h.frozen 1;have G9:=h.frozen 3;have D9:=a8 hT;have D0:Hid ((c::t).length=T.size):=by show _=_;rw[<-hT,<-j9]
 have E0:Hid (S.data.toList.length=S.size):=by show _=_;rw[<-j9]
 have J1:1<=T.size:=by rw[<-D0.out];simp
 rw[hT];have E1:Hid (K5 (c::t) (S.data.toList.drop k)=none->J3 (c::t) s=([],s.fail)):=fun h0=>a1c (by rw[HR.out.rest];exact h0)
 have E2:Hid (∀p r,K5 (c::t) (S.data.toList.drop k)=some (p,r)->J3 (c::t) s=(p,s.to r)):=fun p r h0=>a0I (by rw[HR.out.rest];exact h0)
 obtain⟨R,E3⟩ : ∃R,J3 (c::t) s=R:=⟨_,rfl⟩;rw[E3]at E1 E2 ⊢;clear h c2 hT E3;go_enter Tryz.func101,Tryz.ntmps101;go_wp2
 go_loopw [5] (c0O w S (c::t) k) (fun i _=>S.size+1-(intOf i).toNat)
 case atStart =>
  refine⟨k,c9 _,hk,rfl,?_,rfl⟩;rw[Nat.sub_self,List.take_zero];cases K5 (c::t) (S.data.toList.drop k)<;>rfl
 case round =>
  obtain⟨j,E6,hj,rfl,D1,rfl⟩:=hrel;have HC:=a8 D1;clear D1;by_cases E7:(j:Int)+(T.size:Int)<=(S.size:Int)
  ·have E4:j+T.size<=S.size:=by omega
   obtain⟨Z,hZ⟩ : ∃Z,S.extract j (j+T.size)=Z:=⟨_,rfl⟩
   have J2:∀w,(Instr.slice 9 (.string S) (some (.int .i64 (j:Int))) (some (.int .i64 ((j:Int)+(T.size:Int)))) none).run Tryz.prog w=.ok (.string Z) w:=fun w=>by
    rw[<-hZ];exact Y9 S (Nat.le_add_right j T.size) E4 w
   have D2:Z.data.toList=(S.data.toList.drop j).take T.size:=by rw[<-hZ,a7g]
   by_cases hq:(S.data.toList.drop j).take T.size=c::t
   ·have ht:(Z.toList==T.toList)=true:=by rw[f9,f9,D2,hq,D9.out];simp
    obtain⟨Y,hY⟩ : ∃Y,S.extract k j=Y:=⟨_,rfl⟩
    have E8:∀w,(Instr.slice 9 (.string S) (some (.int .i64 (k:Int))) (some (.int .i64 (j:Int))) none).run Tryz.prog w=.ok (.string Y) w:=fun w=>by
     rw[<-hY];exact Y9 S E6 hj w
    have hR:R=((S.data.toList.drop k).take (j-k),s.to (S.data.toList.drop (j+T.size))):=by
     refine E2.out _ _ ?_;rw[HC.out,b7h (by rw[D0.out];exact hq),D0.out,List.drop_drop]
     simp
    have E5:Value.string Y=Value.string (ba ((S.data.toList.drop k).take (j-k))):=by
     congr 1
     apply G0
     rw[B5,<-hY,J5,List.drop_take]
    have HE:=a8 hR;have G1:=a8 E5;have G4:Hid (Value.int .i64 ((j:Int)+(T.size:Int))=Value.int .i64 ((j+T.size:Nat):Int)):=by show _=_;simp
    clear hq hZ D2 hR E5 hY
    go_wp2_with fail
    go_quiet (fail)
    go_wp2;go_ret;rw[HE.out,G4.out];have G5:=HR.out.below (i7 (b8 wr.heap.size wr) nq);exact⟨by rw[G1.out];rfl,(M3.of HR.out (i7 (b8 wr.heap.size wr) nq)).trans (M3.go G5 E4)⟩
   ·have ht:(Z.toList==T.toList)=false:=by rw[f9,f9,D2,D9.out,e9];exact hq
    have D3:j<S.data.toList.length:=by rw[E0.out];omega
    have hN:K5 (c::t) (S.data.toList.drop k)=(K5 (c::t) (S.data.toList.drop (j+1))).map (fun q=>((S.data.toList.drop k).take (j+1-k)++q.1,q.2)):=by
     rw[HC.out,B8 D3,b5h (by rw[D0.out,<-B8 D3];exact hq),Option.map_map]
     have e:(S.data.toList.drop k).take (j+1-k)=(S.data.toList.drop k).take (j-k)++[S.data.toList[j]]:=by
      have h1:j-k<(S.data.toList.drop k).length:=by rw[B6];omega
      rw[show j+1-k=(j-k)+1 by omega,l8 h1,List.getElem_drop]
      congr 3;omega
     rw[e]
     congr 1
     funext q
     simp
    have HN:=a8 hN;clear hq hZ D2 hN D3;go_wp2
    go_roundw
    case rel=>exact⟨j+1,by omega,by omega,by go_num,HN.out,rfl⟩
    case measure=>simp[intOf];omega
  ·have hN:K5 (c::t) (S.data.toList.drop j)=none:=b7g (by rw[B6,E0.out,D0.out];omega)
   have hR:R=([],s.fail):=E1.out (by rw[HC.out,hN];rfl)
   have HE:=a8 hR;clear hN hR;go_wp2;go_ret;rw[HE.out];exact⟨rfl,M3.mark HR.out true⟩
theorem b1W(S:ByteArray){k:Nat}(h:k<=S.size)(w:World):(Instr.slice 9 (.string S) (some (.int .i64 (k:Int))) none none).run Tryz.prog w=.ok (.string (S.extract k S.size)) w:=by
 simp[Instr.slice,run_underlying Tryz.underlying9,Instr.sliceBounds,Instr.sliceBound,asIntOf,h]
theorem a4W(S:ByteArray)(b:Nat)(v:Value)(s:Rf)(k:Nat)(w:World)(h:U5 w b S v s k)(hS:S.size<=1000000) :
 Calls Tryz.prog 102 #[.pointer (some ⟨b,0,none⟩)] w fun e w'=>e=.returned (.string (ba (a1H s)))/\M3 b S v (O5 s) w w':=by
 have HR:=a8 h;have hk:=h.le;obtain⟨c0,c1,c2,c3⟩:=h.cells;have E1:=h.lt;obtain⟨Z,hZ⟩ : ∃Z,S.extract k S.size=Z:=⟨_,rfl⟩;have J8:∀w,(Instr.slice 9 (.string S) (some (.int .i64 (k:Int))) none none).run Tryz.prog w=.ok (.string Z) w:=fun w=>by rw[<-hZ];exact b1W S hk w
 have E2:Z.data.toList=s.rest:=by
  rw[<-hZ,J5,h.rest,j9,I1]
 obtain⟨n,hn⟩ : ∃n,(a7o s.rest).length=n:=⟨_,rfl⟩
 have E3:k+n<=S.size:=by
  have h1:=a4g s.rest;have h2:=h.len;omega
 have G8:Hid (∀w',Calls Tryz.prog 150 #[.string Z] w' fun e w''=>e=.returned (.int .i64 (n:Int))/\Below w'.heap.size w' w''):=fun w'=>by
  have G9:Z.size<=2000000:=by rw[j9,E2];have:=h.len;omega
  refine(a5i Z G9 w').mono ?_;rintro e w''⟨⟨l,x,hr,he⟩,hb⟩;rw[E2]at hr;refine⟨?_,hb⟩;rw[he,<-hn,a4f hr]
 obtain⟨Y,hY⟩ : ∃Y,S.extract k (k+n)=Y:=⟨_,rfl⟩
 have J1:∀w,(Instr.slice 9 (.string S) (some (.int .i64 (k:Int))) (some (.int .i64 ((k:Int)+(n:Int)))) none).run Tryz.prog w=.ok (.string Y) w:=fun w=>by
  rw[<-hY];exact Y9 S (Nat.le_add_right k n) E3 w
 have E7:Y=ba (a1H s):=by
  apply G0
  obtain⟨x,hx⟩:=b0J s.rest;rw[B5,<-hY,a7g,<-h.rest];unfold a1H
  conv=>lhs;rw[hx,<-hn]
  rw[List.take_left]
 have E8:O5 s=(s.to (S.data.toList.drop (k+n))).or (decide (n=0)):=by
  unfold O5;rw[hn,h.rest,List.drop_drop]
  congr 1
  rw[<-hn,h.rest];exact decide_eq_decide.2 List.length_eq_zero_iff.symm
 rw[E8,<-E7];have J2:Hid (Value.int .i64 ((k:Int)+(n:Int))=Value.int .i64 ((k+n:Nat):Int)):=by show _=_;simp
 have J9:k+n<=1000000:=by omega
 clear h c2 E2 hZ hY hn E8 E7;go_enter Tryz.func102,Tryz.ntmps102
 go_wp2_with fail
 go_still_tail 9,(by kernel_rfl)
 change wpList _ _ _ _ _ w.drew;have D2:=HR.out.below (i7 (b8 w.heap.size w) 1);change U5 w.drew b S v s k at D2;have G1:M3 b S v s w w.drew:=M3.of HR.out (i7 (b8 w.heap.size w) 1);generalize w.drew=w0 at *;clear c0 c1 c3 E1
 go_wp2_with fail
 refine(G8.out _).mono ?_;rintro e w1⟨rfl,E4⟩;have D3:=D2.below E4;have J3:=a8 (G1.trans (M3.of D2 E4));obtain⟨c0,c1,c2,c3⟩:=D3.cells;have E1:=D3.lt;have G4:=a8 D3;clear D2 G1 E4 D3 c2
 go_wp2_with fail
 go_quiet (fail)
 have D0:=G4.out.below (i7 (b8 w1.heap.size w1) nq);have J4:=a8 (J3.out.trans (M3.of G4.out (i7 (b8 w1.heap.size w1) nq)));have G5:=a8 D0;obtain⟨d0,d1,_,d3⟩:=D0.cells;have J6:=D0.frozen 1;have E5:=D0.lt;clear D0 c0 c1 c3 E1;generalize w1.drewN nq=w2 at *
 go_upto_region 4 with fail
 rw[J2.out];have D1:=G5.out.go E3;have G6:=a8 (J4.out.trans (M3.go G5.out E3));have G7:=a8 D1;obtain⟨q0,q1,_,q3⟩:=D1.cells;have L0:=D1.frozen 3;have J7:=D1.lt;clear D1 d0 d1 d3 J6 E5 q0 q1;generalize w2.setCell ⟨b,1,none⟩ (.int .i64 ((k+n:Nat):Int))=w3 at *;obtain⟨z,E6⟩ : ∃z,decide (n=0)=z:=⟨_,rfl⟩;have hz:((n:Int)==0)=z:=by rw[<-E6,A8,x8,decide_eq_true_iff];omega
 have D9:Hid (∀x,x=(s.bad||z)->(s.to (S.data.toList.drop (k+n))).or (decide (n=0))={ (s.to (S.data.toList.drop (k+n)))with bad:=x }):=fun x hx=>by rw[hx,E6];rfl
 clear E6;have q3':w3.cell? ⟨b,3,none⟩=some (.bool s.bad):=q3;clear q3;cases E0:s.bad with
 |true =>
  rw[E0]at q3' D9;clear E0 hz;go_wp2;go_ret;rw[D9.out true rfl];exact⟨rfl,G6.out.trans (M3.mark G7.out true)⟩
 |false =>
  rw[E0]at q3' D9;clear E0;go_wp2;go_ret;rw[D9.out z (by simp)]
  exact⟨rfl,G6.out.trans (M3.mark G7.out z)⟩
end Go.Proofs.YteinegfbpfhflaaGreatDoor
