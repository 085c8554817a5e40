/-
  The document's own reader in memory: its block; what stays. apostilleref08.Reader: sees, take. Conditions: the texts are not too long.
  apostilleref08.Reader: take, blanks, until. Conditions: the reader lies as it is; the texts are not too long.
  apostilleref08.Reader: until. Conditions: the reader lies as it is; the texts are not too long, what is looked for isn't empty.
  apostilleref08.Reader: name, full. Conditions: the reader lies as it is; the texts are not too long.
-/
import Derived.Test.YteinegfbpfhflaaGreatDoorM38
import Derived.BigQuiet
import Derived.StillTailTactics
namespace Go.Proofs.YteinegfbpfhflaaGreatDoor
open Go.RowKit
set_option linter.unusedVariables false
set_option maxRecDepth 100000
set_option maxHeartbeats 16000000
structure eR(w:World)(b:Nat)(S:ByteArray)(v:Value)(s:Rf)(k:Nat):Prop where
 le:k<=S.size
 rest:s.rest=S.data.toList.drop k
 box:w.heap[b]? = some (.cells #[.string S,.int .i64 (k:Int),v,.bool s.bad] 64 (0,0))
theorem eR.cells{w:World}{b:Nat}{S:ByteArray}{v:Value}{s:Rf}{k:Nat}(h:eR w b S v s k):w.cell? ⟨b,0,none⟩=some (.string S)/\w.cell? ⟨b,1,none⟩=some (.int .i64 (k:Int))/\w.cell? ⟨b,2,none⟩=some v/\w.cell? ⟨b,3,none⟩=some (.bool s.bad):=by
 refine⟨?_,?_,?_,?_⟩<;>rw[ai w b _ _ _ _ h.box]<;>rfl
theorem eR.frozen{w:World}{b:Nat}{S:ByteArray}{v:Value}{s:Rf}{k:Nat}(h:eR w b S v s k)(j:Nat):w.frozen? ⟨b,j,none⟩=false:=by unfold World.frozen?;rw[h.box];simp
theorem eR.lt{w:World}{b:Nat}{S:ByteArray}{v:Value}{s:Rf}{k:Nat}(h:eR w b S v s k):b<w.heap.size:=au h.box
theorem eR.below{w w':World}{b:Nat}{S:ByteArray}{v:Value}{s:Rf}{k:Nat}(h:eR w b S v s k)(hb:Below w.heap.size w w'):eR w' b S v s k:=⟨h.le,h.rest,(hb.block b h.lt).trans h.box⟩
theorem eR.len{w:World}{b:Nat}{S:ByteArray}{v:Value}{s:Rf}{k:Nat}(h:eR w b S v s k):s.rest.length=S.size-k:=by rw[h.rest,bq,<-aF]
structure dA(b:Nat)(S:ByteArray)(v:Value)(s':Rf)(w w':World):Prop where
 os:w'.os=w.os
 tape:w'.tape=w.tape
 output:w'.output=w.output
 size:w.heap.size<=w'.heap.size
 other:∀y,y<w.heap.size->y≠b->w'.heap[y]? = w.heap[y]?
 at':∃k,eR w' b S v s' k
theorem dA.trans{b:Nat}{S:ByteArray}{v v':Value}{s s':Rf}{w w1 w2:World}(h:dA b S v s w w1)(h':dA b S v' s' w1 w2):dA b S v' s' w w2 :=
 ⟨h'.os.trans h.os,h'.tape.trans h.tape,h'.output.trans h.output,ag h.size h'.size,fun y hy hb=>(h'.other y (a8 hy h.size) hb).trans (h.other y hy hb),h'.at'⟩
theorem dA.of{b:Nat}{S:ByteArray}{v:Value}{s:Rf}{k:Nat}{w w':World}(h:eR w b S v s k)(hb:Below w.heap.size w w'):dA b S v s w w':=⟨hb.os,hb.tape,hb.output,hb.size,fun y hy _=>hb.block y hy,k,h.below hb⟩
theorem dA.below{b B:Nat}{S:ByteArray}{v:Value}{s:Rf}{w w':World}(h:dA b S v s w w')(hB:B<=b)(hs:B<=w.heap.size):Below B w w':=⟨h.os,h.tape,h.output,h.size,fun y hy=>h.other y (by omega) (by omega)⟩
theorem dA.back{b:Nat}{S:ByteArray}{v:Value}{s:Rf}{w w1 w':World}(h1:Below w.heap.size w w1)(h:dA b S v s w1 w'):dA b S v s w w' :=
 ⟨h.os.trans h1.os,h.tape.trans h1.tape,h.output.trans h1.output,ag h1.size h.size,fun y hy hb=>(h.other y (a8 hy h1.size) hb).trans (h1.block y hy),h.at'⟩
theorem dA.go{w:World}{b:Nat}{S:ByteArray}{v:Value}{s:Rf}{k:Nat}(h:eR w b S v s k){j:Nat}(hj:j<=S.size):dA b S v (s.to (S.data.toList.drop j)) w (w.setCell ⟨b,1,none⟩ (.int .i64 (j:Int))) :=
 ⟨rfl,rfl,rfl,by simp[World.setCell],fun y hy hb=>ao _ _ _ _ hb,j,hj,rfl,by rw[aL h.box];rfl⟩
theorem eR.go{w:World}{b:Nat}{S:ByteArray}{v:Value}{s:Rf}{k:Nat}(h:eR w b S v s k){j:Nat}(hj:j<=S.size):eR (w.setCell ⟨b,1,none⟩ (.int .i64 (j:Int))) b S v (s.to (S.data.toList.drop j)) j:=⟨hj,rfl,by rw[aL h.box];rfl⟩
theorem dA.mark{w:World}{b:Nat}{S:ByteArray}{v:Value}{s:Rf}{k:Nat}(h:eR w b S v s k)(x:Bool):dA b S v { s with bad:=x } w (w.setCell ⟨b,3,none⟩ (.bool x)) :=
 ⟨rfl,rfl,rfl,by simp[World.setCell],fun y hy hb=>ao _ _ _ _ hb,k,h.le,h.rest,by rw[aL h.box];rfl⟩
theorem fP(S:ByteArray){k j:Nat}(h1:k<=j)(h2:j<=S.size)(w:World):(Instr.slice 9 (.string S) (some (.int .i64 (k:Int))) (some (.int .i64 (j:Int))) none).run Tryz.prog w=.ok (.string (S.extract k j)) w:=by
 simp[Instr.slice,run_underlying Tryz.underlying9,Instr.sliceBounds,Instr.sliceBound,asIntOf,h1,h2]
theorem Hu{p s:List UInt8}:(aH p s).isSome=decide (s.take p.length=p):=by
 unfold aH;by_cases h:p.isPrefixOf s=true
 ·rw[av h]
  rw[bV,List.prefix_iff_eq_take]at h;exact(ax h.symm).symm
 ·rw[am h]
  rw[bV,List.prefix_iff_eq_take]at h;exact(ap (fun e=>h e.symm)).symm
theorem qq(S:ByteArray)(k n:Nat):(S.extract k (k+n)).data.toList=(S.data.toList.drop k).take n:=by
 rw[cS,List.drop_take,Nat.add_sub_cancel_left]
theorem dP(S T:ByteArray)(b:Nat)(v:Value)(s:Rf)(k:Nat)(w:World)(h:eR w b S v s k)(hS:S.size<=1000000)(hT:T.size<=1000000) :
 Calls Tryz.prog 57 #[.pointer (some ⟨b,0,none⟩),.string T] w fun e w'=>e=.returned (.bool (bX T.data.toList s))/\dA b S v s w w':=by
 obtain⟨c0,c1,c2,c3⟩:=h.cells;have hk:=h.le;have hlt:=h.lt;have hln:=h.len;have HR:=aa h;have hx:bX T.data.toList s=decide ((S.data.toList.drop k).take T.size=T.data.toList):=by unfold bX;rw[Hu,h.rest,aF T]
 obtain⟨B,hB⟩ : ∃B,bX T.data.toList s=B:=⟨_,rfl⟩;rw[hB]at hx ⊢;clear h c2 c3 hB;by_cases hfit:(S.size:Int)-(k:Int) ≥ (T.size:Int)
 ·have hd:decide ((S.size:Int)-(k:Int) ≥ (T.size:Int))=true:=ax hfit
  obtain⟨Z,hZ⟩ : ∃Z,S.extract k (k+T.size)=Z:=⟨_,rfl⟩
  have hsl:∀w,(Instr.slice 9 (.string S) (some (.int .i64 (k:Int))) (some (.int .i64 ((k:Int)+(T.size:Int)))) none).run Tryz.prog w=.ok (.string Z) w:=fun w=>by
   rw[<-hZ];exact fP S (Nat.le_add_right k T.size) (by omega) w
  have ht:(Z.toList==T.toList)=B:=by
   rw[aq,aq,hx,<-hZ,qq];exact bm.2 (by rw[bc,decide_eq_true_iff])
  clear hx hZ hln;go_enter Tryz.func57,Tryz.ntmps57
  go_wp2_with fail
  go_quiet (fail)
  go_wp2;go_ret;exact⟨rfl,dA.of HR.out (ay (ae _ _) _)⟩
 ·have hd:decide ((S.size:Int)-(k:Int) ≥ (T.size:Int))=false:=ap hfit
  have hB0:B=false:=by
   rw[hx,bT];intro e;have:=congrArg List.length e;rw[aY,bq,<-aF,<-aF]at this;omega
  subst hB0;clear hx hln;go_enter Tryz.func57,Tryz.ntmps57
  go_wp2_with fail
  go_quiet (fail)
  go_wp2;go_ret;exact⟨rfl,dA.of HR.out (ay (ae _ _) _)⟩
theorem eT(S T:ByteArray)(b:Nat)(v:Value)(s:Rf)(k:Nat)(w:World)(h:eR w b S v s k)(hS:S.size<=1000000)(hT:T.size<=1000000) :
 Calls Tryz.prog 59 #[.pointer (some ⟨b,0,none⟩),.string T] w fun e w'=>e=.returned (.tuple #[])/\dA b S v (bI T.data.toList s) w w':=by
 have HS:=aa (dP S T b v s k w h hS hT);have HR:=aa h;have hk:=h.le;have hln:=h.len;cases hp:aH T.data.toList s.rest with
 |none =>
  rw[ek hp]at HS;rw[fa hp];clear h hp hln;go_enter Tryz.func59,Tryz.ntmps59
  go_wp2_with fail
  refine HS.out.mono ?_;rintro e w1⟨rfl,hr⟩;obtain⟨k1,hm⟩:=hr.at';obtain⟨c0,c1,c2,c3⟩:=hm.cells;have f3:=hm.frozen 3;have hlt:=hm.lt;have HM:=aa hm;have HRR:=aa hr;clear hm hr c0 c1 c2;go_wp2;refine bodyPost_ret (results_none rfl _ _ _) rfl ?_;exact⟨rfl,HRR.out.trans (dA.mark HM.out true)⟩
 |some r =>
  rw[dw hp]at HS;rw[dm hp];have hle:=ib hp
  have hr:S.data.toList.drop (k+T.size)=r:=by
   rw[<-List.drop_drop,<-h.rest,cH hp,aF T,List.drop_left]
  rw[hln,<-aF]at hle;have HRE:=aa hr;clear h hp hln hr;go_enter Tryz.func59,Tryz.ntmps59
  go_wp2_with fail
  refine HS.out.mono ?_;rintro e w1⟨rfl,hr⟩;obtain⟨k1,hm⟩:=hr.at';have hkk:k1=k∨(S.data.toList.drop k1=S.data.toList.drop k):=.inr (hm.rest.symm.trans HR.out.rest)
  have hk1:k1=k:=by
   have h1:=hm.len;have h2:=HR.out.len;have:=hm.le;omega
  subst hk1;obtain⟨c0,c1,c2,c3⟩:=hm.cells;have f1:=hm.frozen 1;have hlt:=hm.lt;have HM:=aa hm;have HRR:=aa hr;have HEQ:Hid (.int .i64 ((k1:Int)+(T.size:Int))=Value.int .i64 ((k1+T.size:Nat):Int)):=by show _=_;simp
  clear hm hr c0 c2 c3 hkk;go_wp2
  go_end0
  refine⟨rfl,?_⟩;rw[HEQ.out,<-HRE.out];exact HRR.out.trans (dA.go HM.out (by omega))
def Ed(w:World)(b:Nat)(S:ByteArray)(v:Value)(s:Rf)(k:Nat)(i:Value)(wr:World):Prop :=
 ∃n j:Nat,k+n=j/\i=.int .i64 (n:Int)/\((S.data.toList.drop k).take n).all fq=true/\eR wr b S v (s.to (S.data.toList.drop j)) j/\dA b S v (s.to (S.data.toList.drop j)) w wr
theorem eN(S:ByteArray)(b:Nat)(v:Value)(s:Rf)(k:Nat)(w:World)(h:eR w b S v s k)(hS:S.size<=1000000) :
 Calls Tryz.prog 62 #[.pointer (some ⟨b,0,none⟩)] w fun e w'=>e=.returned (.int .i64 (fN s:Nat))/\dA b S v (bG s) w w':=by
 have HR:=aa h;have hk:=h.le;obtain⟨N,hN⟩ : ∃N,S.size=N:=⟨_,rfl⟩;have hNl:S.data.toList.length=N:=by rw[<-aF];exact hN
 have HNL:=aa hNl;have HSZ:=aa hN;rw[hN]at hS hk
 have HFIN:Hid (∀n j,k+n=j->j<=N->((S.data.toList.drop k).take n).all fq=true->(S.data.toList.drop j=[]∨∃c r,S.data.toList.drop j=c::r/\fq c=false)->fN s=n/\bG s=s.to (S.data.toList.drop j)):=fun n j hj hn hall hst=>by
  subst hj
  have e:aI s.rest=S.data.toList.drop (k+n):=by
   rw[HR.out.rest];unfold aI;rw[qe hall (by rw[List.drop_drop];exact hst),List.drop_drop]
  refine⟨?_,by unfold bG;rw[e]⟩
  unfold fN;rw[e,HR.out.rest,bq,bq,HNL.out];omega
 have HST:Hid (Ed w b S v s k (.int .i64 0) w):=by
  have hs:s.to (S.data.toList.drop k)=s:=by rw[<-HR.out.rest];rfl
  refine⟨0,k,rfl,rfl,rfl,?_,?_⟩
  ·rw[hs];exact HR.out
  ·rw[hs];exact dA.of HR.out (ae _ _)
 obtain⟨M,hM⟩ : ∃M,fN s=M:=⟨_,rfl⟩;rw[hM]at HFIN ⊢;clear h hN hNl hM;go_enter Tryz.func62,Tryz.ntmps62;go_wp2
 go_loopw [3] (Ed w b S v s k) (fun i _=>N-(intOf i).toNat)
 case atStart=>exact HST.out
 case round =>
  obtain⟨n,j,hj,rfl,hall,hm,hr⟩:=hrel;obtain⟨c0,c1,c2,c3⟩:=hm.cells;have f1:=hm.frozen 1;have hle:=hm.le;have hlt':=hm.lt;rw[HSZ.out]at hle;have HM:=aa hm;have HRR:=aa hr;have HALL:=aa hall;have HJ:=aa hj;have hjn:n<=N:=by omega
  clear hm hr hall c2 c3;by_cases hlt:j<N
  ·have hkl:j<S.data.toList.length:=by rw[HNL.out];exact hlt
   have hix:=cz S hkl;have hdrop:S.data.toList.drop j=S.data.toList[j]::S.data.toList.drop (j+1):=bv hkl
   have htake:(S.data.toList.drop k).take (n+1)=(S.data.toList.drop k).take n++[S.data.toList[j]]:=by
    have h1:n<(S.data.toList.drop k).length:=by rw[bq,HNL.out];omega
    rw[aN h1,List.getElem_drop]
    congr 3
   have HBL:Hid (∀w',Calls Tryz.prog 58 #[.int .u8 (S.data.toList[j].toNat:Int)] w' fun e w''=>e=.returned (.bool (fq S.data.toList[j]))/\w''=w'):=fun w'=>by
    have:=gW (S.data.toList[j].toNat:Int) w';rw[gj]at this;exact this
   have HT:=aa htake;have HDR:=aa hdrop;have hsz:=HSZ.out;have hd:decide ((j:Int)<(S.size:Int))=true:=ax (by rw[hsz];omega)
   clear htake hdrop hj;generalize S.data.toList[j]=c at *;cases hc:fq c with
   |true =>
    rw[hc]at HBL
    have HAL2:Hid (((S.data.toList.drop k).take (n+1)).all fq=true):=by
     show _=true
     rw[HT.out,List.all_append,HALL.out];simp[hc]
    clear hc
    go_wp2_with fail
    go_quiet ((go_at_call 58;exact Calls.quiet_of_same (HBL.out _)))
    have HEQ:Hid (Value.int .i64 ((j:Int)+1)=Value.int .i64 ((j+1:Nat):Int)):=by show _=_;simp
    go_wp2
    go_roundw
    case rel =>
     rw[HEQ.out];have hm1:=HM.out.below (ay (ae wr.heap.size wr) nq);have hj1:=HJ.out;exact⟨n+1,j+1,by omega,by go_num,HAL2.out,hm1.go (by rw[HSZ.out];omega),HRR.out.trans ((dA.of HM.out (ay (ae wr.heap.size wr) nq)).trans (dA.go hm1 (by rw[HSZ.out];omega)))⟩
    case measure=>have:=HJ.out;simp[intOf];omega
   |false =>
    obtain⟨e1,e2⟩:=HFIN.out n j HJ.out hle HALL.out (.inr ⟨c,_,HDR.out,hc⟩);rw[hc]at HBL;clear hc;subst e1;have HE:=aa e2;clear e2
    go_wp2_with fail
    go_quiet ((go_at_call 58;exact Calls.quiet_of_same (HBL.out _)))
    go_wp2;go_ret;refine⟨rfl,?_⟩;rw[HE.out];exact HRR.out.trans (dA.of HM.out (ay (ae wr.heap.size wr) _))
  ·have hje:j=N:=by omega
   obtain⟨e1,e2⟩:=HFIN.out n j HJ.out hle HALL.out (.inl (List.drop_eq_nil_of_le (by rw[HNL.out];omega)))
   have hsz:=HSZ.out;have hd:decide ((j:Int)<(S.size:Int))=false:=ap (by rw[hsz];omega)
   subst e1;have HE:=aa e2;clear e2
   go_wp2_with fail
   go_quiet (fail)
   go_wp2;go_ret;refine⟨rfl,?_⟩;rw[HE.out];exact HRR.out.trans (dA.of HM.out (ay (ae wr.heap.size wr) _))
def Hi(w:World)(S:ByteArray)(t:List UInt8)(k:Nat)(i:Value)(wr:World):Prop :=
 ∃j:Nat,k<=j/\j<=S.size/\i=.int .i64 (j:Int)/\cW t (S.data.toList.drop k)=(cW t (S.data.toList.drop j)).map (fun q=>((S.data.toList.drop k).take (j-k)++q.1,q.2))/\wr=w
theorem Dy{t s:List UInt8}(h:s.length<t.length):cW t s=none:=by
 cases hc:cW t s with
 |none=>rfl
 |some q =>
  obtain⟨p,r⟩:=q;have:=dW hc;omega
theorem Dz{c:UInt8}{t s:List UInt8}(h:s.take (c::t).length=c::t):cW (c::t) s=some ([],s.drop (c::t).length):=by
 cases s with
 |nil=>simp at h
 |cons d s =>
  rw[kq,av];rw[bV,List.prefix_iff_eq_take];exact h.symm
theorem Bj{c:UInt8}{t:List UInt8}{d:UInt8}{s:List UInt8}(h:(d::s).take (c::t).length≠c::t):cW (c::t) (d::s)=(cW (c::t) s).map fun q=>(d::q.1,q.2):=by
 rw[kq,am];rw[bV,List.prefix_iff_eq_take];exact fun e=>h e.symm
theorem iY(S T:ByteArray)(c:UInt8)(t:List UInt8)(hT:T.data.toList=c::t)(b:Nat)(v:Value)(s:Rf)(k:Nat)(w:World)(h:eR w b S v s k)(hS:S.size<=1000000)(hTs:T.size<=1000000) :
 Calls Tryz.prog 101 #[.pointer (some ⟨b,0,none⟩),.string T] w fun e w'=>e=.returned (.string (ba (cR T.data.toList s).1))/\dA b S v (cR T.data.toList s).2 w w':=by
 have HR:=aa h;have hk:=h.le;obtain⟨c0,c1,c2,c3⟩:=h.cells;have hlt:=h.lt;have hf1:=h.frozen 1;have hf3:=h.frozen 3;have HTT:=aa hT;have HTL:Hid ((c::t).length=T.size):=by show _=_;rw[<-hT,<-aF]
 have HSL:Hid (S.data.toList.length=S.size):=by show _=_;rw[<-aF]
 have hT1:1<=T.size:=by rw[<-HTL.out];simp
 rw[hT];have HU0:Hid (cW (c::t) (S.data.toList.drop k)=none->cR (c::t) s=([],s.fail)):=fun h0=>ij (by rw[HR.out.rest];exact h0)
 have HU1:Hid (∀p r,cW (c::t) (S.data.toList.drop k)=some (p,r)->cR (c::t) s=(p,s.to r)):=fun p r h0=>gG (by rw[HR.out.rest];exact h0)
 obtain⟨R,hRR⟩ : ∃R,cR (c::t) s=R:=⟨_,rfl⟩;rw[hRR]at HU0 HU1 ⊢;clear h c2 hT hRR;go_enter Tryz.func101,Tryz.ntmps101;go_wp2
 go_loopw [5] (Hi w S (c::t) k) (fun i _=>S.size+1-(intOf i).toNat)
 case atStart =>
  refine⟨k,af _,hk,rfl,?_,rfl⟩;rw[Nat.sub_self,List.take_zero];cases cW (c::t) (S.data.toList.drop k)<;>rfl
 case round =>
  obtain⟨j,hkj,hj,rfl,hcut,rfl⟩:=hrel;have HC:=aa hcut;clear hcut;by_cases hfit:(j:Int)+(T.size:Int)<=(S.size:Int)
  ·have hjs:j+T.size<=S.size:=by omega
   obtain⟨Z,hZ⟩ : ∃Z,S.extract j (j+T.size)=Z:=⟨_,rfl⟩
   have hsl:∀w,(Instr.slice 9 (.string S) (some (.int .i64 (j:Int))) (some (.int .i64 ((j:Int)+(T.size:Int)))) none).run Tryz.prog w=.ok (.string Z) w:=fun w=>by
    rw[<-hZ];exact fP S (Nat.le_add_right j T.size) hjs w
   have hZl:Z.data.toList=(S.data.toList.drop j).take T.size:=by rw[<-hZ,qq]
   by_cases hq:(S.data.toList.drop j).take T.size=c::t
   ·have ht:(Z.toList==T.toList)=true:=by rw[aq,aq,hZl,hq,HTT.out];simp
    obtain⟨Y,hY⟩ : ∃Y,S.extract k j=Y:=⟨_,rfl⟩
    have hsl2:∀w,(Instr.slice 9 (.string S) (some (.int .i64 (k:Int))) (some (.int .i64 (j:Int))) none).run Tryz.prog w=.ok (.string Y) w:=fun w=>by
     rw[<-hY];exact fP S hkj hj w
    have hR:R=((S.data.toList.drop k).take (j-k),s.to (S.data.toList.drop (j+T.size))):=by
     refine HU1.out _ _ ?_;rw[HC.out,Dz (by rw[HTL.out];exact hq),HTL.out,List.drop_drop]
     simp
    have hYb:Value.string Y=Value.string (ba ((S.data.toList.drop k).take (j-k))):=by
     congr 1
     apply cp
     rw[bp,<-hY,cS,List.drop_take]
    have HE:=aa hR;have HYB:=aa hYb;have HEQ:Hid (Value.int .i64 ((j:Int)+(T.size:Int))=Value.int .i64 ((j+T.size:Nat):Int)):=by show _=_;simp
    clear hq hZ hZl hR hYb hY
    go_wp2_with fail
    go_quiet (fail)
    go_wp2;go_ret;rw[HE.out,HEQ.out];have hm1:=HR.out.below (ay (ae wr.heap.size wr) nq);exact⟨by rw[HYB.out];rfl,(dA.of HR.out (ay (ae wr.heap.size wr) nq)).trans (dA.go hm1 hjs)⟩
   ·have ht:(Z.toList==T.toList)=false:=by rw[aq,aq,hZl,HTT.out,ak];exact hq
    have hjl:j<S.data.toList.length:=by rw[HSL.out];omega
    have hN:cW (c::t) (S.data.toList.drop k)=(cW (c::t) (S.data.toList.drop (j+1))).map (fun q=>((S.data.toList.drop k).take (j+1-k)++q.1,q.2)):=by
     rw[HC.out,bv hjl,Bj (by rw[HTL.out,<-bv hjl];exact hq),Option.map_map]
     have e:(S.data.toList.drop k).take (j+1-k)=(S.data.toList.drop k).take (j-k)++[S.data.toList[j]]:=by
      have h1:j-k<(S.data.toList.drop k).length:=by rw[bq];omega
      rw[show j+1-k=(j-k)+1 by omega,aN h1,List.getElem_drop]
      congr 3;omega
     rw[e]
     congr 1
     funext q
     simp
    have HN:=aa hN;clear hq hZ hZl hN hjl;go_wp2
    go_roundw
    case rel=>exact⟨j+1,by omega,by omega,by go_num,HN.out,rfl⟩
    case measure=>simp[intOf];omega
  ·have hN:cW (c::t) (S.data.toList.drop j)=none:=Dy (by rw[bq,HSL.out,HTL.out];omega)
   have hR:R=([],s.fail):=HU0.out (by rw[HC.out,hN];rfl)
   have HE:=aa hR;clear hN hR;go_wp2;go_ret;rw[HE.out];exact⟨rfl,dA.mark HR.out true⟩
theorem wY(S:ByteArray){k:Nat}(h:k<=S.size)(w:World):(Instr.slice 9 (.string S) (some (.int .i64 (k:Int))) none none).run Tryz.prog w=.ok (.string (S.extract k S.size)) w:=by
 simp[Instr.slice,run_underlying Tryz.underlying9,Instr.sliceBounds,Instr.sliceBound,asIntOf,h]
theorem nh(S:ByteArray)(b:Nat)(v:Value)(s:Rf)(k:Nat)(w:World)(h:eR w b S v s k)(hS:S.size<=1000000) :
 Calls Tryz.prog 102 #[.pointer (some ⟨b,0,none⟩)] w fun e w'=>e=.returned (.string (ba (iR s)))/\dA b S v (dR s) w w':=by
 have HR:=aa h;have hk:=h.le;obtain⟨c0,c1,c2,c3⟩:=h.cells;have hlt:=h.lt;obtain⟨Z,hZ⟩ : ∃Z,S.extract k S.size=Z:=⟨_,rfl⟩;have hsl:∀w,(Instr.slice 9 (.string S) (some (.int .i64 (k:Int))) none none).run Tryz.prog w=.ok (.string Z) w:=fun w=>by rw[<-hZ];exact wY S hk w
 have hZl:Z.data.toList=s.rest:=by
  rw[<-hZ,cS,h.rest,aF,cL]
 obtain⟨n,hn⟩ : ∃n,(qC s.rest).length=n:=⟨_,rfl⟩
 have hnl:k+n<=S.size:=by
  have h1:=mi s.rest;have h2:=h.len;omega
 have HLG:Hid (∀w',Calls Tryz.prog 150 #[.string Z] w' fun e w''=>e=.returned (.int .i64 (n:Int))/\Below w'.heap.size w' w''):=fun w'=>by
  have hZs:Z.size<=2000000:=by rw[aF,hZl];have:=h.len;omega
  refine(nK Z hZs w').mono ?_;rintro e w''⟨⟨l,x,hr,he⟩,hb⟩;rw[hZl]at hr;refine⟨?_,hb⟩;rw[he,<-hn,mh hr]
 obtain⟨Y,hY⟩ : ∃Y,S.extract k (k+n)=Y:=⟨_,rfl⟩
 have hsl2:∀w,(Instr.slice 9 (.string S) (some (.int .i64 (k:Int))) (some (.int .i64 ((k:Int)+(n:Int)))) none).run Tryz.prog w=.ok (.string Y) w:=fun w=>by
  rw[<-hY];exact fP S (Nat.le_add_right k n) hnl w
 have hYb:Y=ba (iR s):=by
  apply cp
  obtain⟨x,hx⟩:=vf s.rest;rw[bp,<-hY,qq,<-h.rest];unfold iR
  conv=>lhs;rw[hx,<-hn]
  rw[List.take_left]
 have hst:dR s=(s.to (S.data.toList.drop (k+n))).or (decide (n=0)):=by
  unfold dR;rw[hn,h.rest,List.drop_drop]
  congr 1
  rw[<-hn,h.rest];exact decide_eq_decide.2 List.length_eq_zero_iff.symm
 rw[hst,<-hYb];have HEQ:Hid (Value.int .i64 ((k:Int)+(n:Int))=Value.int .i64 ((k+n:Nat):Int)):=by show _=_;simp
 have hkn:k+n<=1000000:=by omega
 clear h c2 hZl hZ hY hn hst hYb;go_enter Tryz.func102,Tryz.ntmps102
 go_wp2_with fail
 go_still_tail 9,(by kernel_rfl)
 change wpList _ _ _ _ _ w.drew;have hm0:=HR.out.below (ay (ae w.heap.size w) 1);change eR w.drew b S v s k at hm0;have hr0:dA b S v s w w.drew:=dA.of HR.out (ay (ae w.heap.size w) 1);generalize w.drew=w0 at *;clear c0 c1 c3 hlt
 go_wp2_with fail
 refine(HLG.out _).mono ?_;rintro e w1⟨rfl,hb1⟩;have hm1:=hm0.below hb1;have HR1:=aa (hr0.trans (dA.of hm0 hb1));obtain⟨c0,c1,c2,c3⟩:=hm1.cells;have hlt:=hm1.lt;have HM1:=aa hm1;clear hm0 hr0 hb1 hm1 c2
 go_wp2_with fail
 go_quiet (fail)
 have hm2:=HM1.out.below (ay (ae w1.heap.size w1) nq);have HR2:=aa (HR1.out.trans (dA.of HM1.out (ay (ae w1.heap.size w1) nq)));have HM2:=aa hm2;obtain⟨d0,d1,_,d3⟩:=hm2.cells;have hf1:=hm2.frozen 1;have hlt2:=hm2.lt;clear hm2 c0 c1 c3 hlt;generalize w1.drewN nq=w2 at *
 go_upto_region 4 with fail
 rw[HEQ.out];have hm3:=HM2.out.go hnl;have HR3:=aa (HR2.out.trans (dA.go HM2.out hnl));have HM3:=aa hm3;obtain⟨q0,q1,_,q3⟩:=hm3.cells;have hf3:=hm3.frozen 3;have hlt3:=hm3.lt;clear hm3 d0 d1 d3 hf1 hlt2 q0 q1;generalize w2.setCell ⟨b,1,none⟩ (.int .i64 ((k+n:Nat):Int))=w3 at *;obtain⟨z,hz0⟩ : ∃z,decide (n=0)=z:=⟨_,rfl⟩;have hz:((n:Int)==0)=z:=by rw[<-hz0,bm,bc,decide_eq_true_iff];omega
 have HOR:Hid (∀x,x=(s.bad||z)->(s.to (S.data.toList.drop (k+n))).or (decide (n=0))={ (s.to (S.data.toList.drop (k+n)))with bad:=x }):=fun x hx=>by rw[hx,hz0];rfl
 clear hz0;have q3':w3.cell? ⟨b,3,none⟩=some (.bool s.bad):=q3;clear q3;cases hbd:s.bad with
 |true =>
  rw[hbd]at q3' HOR;clear hbd hz;go_wp2;go_ret;rw[HOR.out true rfl];exact⟨rfl,HR3.out.trans (dA.mark HM3.out true)⟩
 |false =>
  rw[hbd]at q3' HOR;clear hbd;go_wp2;go_ret;rw[HOR.out z (by simp)]
  exact⟨rfl,HR3.out.trans (dA.mark HM3.out z)⟩
end Go.Proofs.YteinegfbpfhflaaGreatDoor
