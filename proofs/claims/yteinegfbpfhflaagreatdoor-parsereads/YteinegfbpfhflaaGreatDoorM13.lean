/-
  doc.copies of declarations and of attributes: lists in new memory. Conditions: the lists lie as they are; there are not too many, the texts are not too long.
  parse.cursor: what of a text isn't read yet, in a cell; skip, blanks, through, equals, quoted. Conditions: the texts are not too long.
  strings.Cut at a text; parse.cursor: through, equals, quoted. Conditions: the texts are not too long; internal/bytealg.MaxLen holds some number.
  parse.cursor: equals, quoted. Conditions: the texts are not too long; internal/bytealg.MaxLen holds some number.
-/
import Derived.Test.YteinegfbpfhflaaGreatDoorM11
import Derived.Test.YteinegfbpfhflaaGreatDoorM12
import Derived.Test.YteinegfbpfhflaaGreatDoorM09
import Derived.Test.YteinegfbpfhflaaGreatDoorM10
import Derived.Lib.IndexMore
namespace Go.Proofs.YteinegfbpfhflaaGreatDoor
open Go.RowKit
set_option linter.unusedVariables false
set_option maxRecDepth 100000
set_option maxHeartbeats 8000000
def cU(w:World)(B e:Nat)(v:Value)(n:Nat)(cs:List Value):Prop :=
 (n=0/\v=.slice none 0 0)∨∃g,v=.slice (some ⟨g,0,none⟩) n n/\B<=g/\w.heap[g]? = some (.cells cs.toArray e (0,0))
theorem cU.later{w w':World}{B e n:Nat}{v:Value}{cs:List Value}(h:cU w B e v n cs)(hb:Below w.heap.size w w'):cU w' B e v n cs:=by
 rcases h with h|⟨g,h1,h2,h3⟩
 ·exact .inl h
 ·exact .inr ⟨g,h1,h2,(hb.block g (au h3)).trans h3⟩
theorem cU.mono{w:World}{B B' e n:Nat}{v:Value}{cs:List Value}(h:cU w B e v n cs)(hb:B'<=B):cU w B' e v n cs:=by
 rcases h with h|⟨g,h1,h2,h3⟩
 ·exact .inl h
 ·exact .inr ⟨g,h1,by omega,h3⟩
theorem cU.at{w:World}{B e n:Nat}{v:Value}{cs:List Value}(h:cU w B e v n cs)(hn:n<=9223372036854775807)(h0:n=0->cs=[]):em w w.heap.size v n cs:=by
 rcases h with⟨rfl,rfl⟩|⟨g,rfl,_,h3⟩
 ·exact⟨none,0,rfl,af _,by omega,fun hne=>absurd (h0 rfl) hne⟩
 ·refine⟨some ⟨g,0,none⟩,n,rfl,af _,hn,fun _=>⟨g,0,rfl,au h3,fun j hj => ?_⟩⟩
  rw[ci,ai w g j _ _ _ h3];simp[hj]
theorem hH{cur:Array Value}{cs:List Value}{m:Nat}{a:Value}(h:cur.toList.take m=cs.take m)(hm:m<cur.size)(e:cs[m]? = some a):(cur.setIfInBounds m a).toList.take (m+1)=cs.take (m+1):=by
 apply List.ext_getElem?
 intro j;rw[List.getElem?_take,List.getElem?_take];by_cases hj:j<m+1
 ·rw[av hj,av hj,bi,Array.getElem?_setIfInBounds]
  by_cases he:m=j
  ·subst he;rw[av rfl,av hm,e]
  ·rw[am he,<-bi]
   have h1:=congrArg (·[j]?) h
   simp only[List.getElem?_take]at h1
   rwa [av (by omega),av (by omega)]at h1
 ·rw[am hj,am hj]
def zw(w:World)(g e n c:Nat)(cs:List Value)(i:Value)(wr:World):Prop :=
 ∃(k:Nat) (cur:Array Value),k<=n/\i=.int .i64 k/\wr.heap[g]? = some (.cells cur e (0,0))/\cur.size=n*c/\cur.toList.take (k*c)=cs.take (k*c)/\Below w.heap.size w wr
theorem gP:(Tryz.prog.info? 48).map (fun i=>(i.zero,i.size,i.bytes))=some (some (.agg #[.string ⟨#[]⟩,.string ⟨#[]⟩]),2,32):=by kernel_rfl
theorem vW(ds:List Dc)(v:Value)(w:World)(hv:gL w w.heap.size v ds)(hn:ds.length<=2000000)(hs:∀d∈ds,d.p.size<=2000000/\d.u.size<=2000000) :
 Calls Tryz.prog 70 #[v,.func (.func 71) #[] #[]] w fun e w' => ∃v',e=.returned v'/\cU w' w.heap.size 48 v' ds.length (ds.flatMap jP)/\Below w.heap.size w w':=by
 have HV:Hid (gL w w.heap.size v ds):=hv;obtain⟨A,cap,rfl,hc1,hc2,_⟩:=hv;obtain⟨n,hnE⟩ : ∃n,ds.length=n:=⟨_,rfl⟩;have HN:=aa hnE;rw[hnE]at hn hc1 ⊢;clear hnE;rcases bw n with h0|h0
 ·subst h0
  go_enter Tryz.func70,Tryz.ntmps70;go_wp2;go_ret;exact⟨_,rfl,.inl ⟨rfl,rfl⟩,ae _ _⟩
 ·obtain⟨i0,hi,hz0,hz1,hz2⟩:=info_parts gP
  have hnz:((n:Int)==0)=false:=by rw[ak];omega
  obtain⟨M,hM⟩ : ∃M,M=madeCells (Value.agg #[.string ⟨#[]⟩,.string ⟨#[]⟩]).cells (((n:Nat):Int).toNat*i0.size):=⟨_,rfl⟩;have hMs:M.size=n*2:=by rw[hM,size_madeCells,hz1];simp
  have hmk:∀W:World,(Instr.makeSlice 39 (.int .i64 (n:Int)) (.int .i64 (n:Int))).run Tryz.prog W=.ok (.slice (some ⟨W.heap.size,0,none⟩) n n) (W.alloc (.cells M 48)):=fun W=>by
   have h:=run_make (P:=Tryz.prog) W 39 48 i0 _ Tryz.underlying39 hi hz0 .i64 .i64 (n:Int) (n:Int) (by omega) (by omega) (by rw[hz2];omega) (by omega)
   rw[<-hM]at h;simpa using h
  clear hM;obtain⟨q,hqE⟩ : ∃q,w.heap.size=q:=⟨_,rfl⟩;have HQE:=aa hqE;have HMS:=aa hMs;have hwl:w.heap.size<(w.alloc (.cells M 48)).heap.size:=by simp
  clear hqE hMs;go_enter Tryz.func70,Tryz.ntmps70;go_wp2;clear hmk
  go_loopw [16] (zw w w.heap.size 48 n 2 (ds.flatMap jP)) (fun i _=>n-(intOf i).toNat)
  case atStart=>exact⟨0,M,aM _,rfl,ar w _,HMS.out,by simp,(ae _ _).alloc (af _) _⟩
  case round =>
   obtain⟨k,cur,hk,rfl,hcur,hcs,htk,hb⟩:=hrel;have HTK:=aa htk;clear htk;by_cases hlt:k<n
   ·have hkl:k<ds.length:=by rw[HN.out];exact hlt
    obtain⟨b,o,cap',e,_,_,hbB,hcell⟩:=gL.open (em.below HV.out hb) (by omega)
    simp only[aK]at e;obtain⟨rfl,_,rfl⟩:=e;obtain⟨d0,d1⟩:=hcell k hkl;have hsd:=hs _ (aJ hkl);have HCP:=aa (fun w'=>tL ds[k].p ds[k].u hsd.1 hsd.2 w');have hkz:(k:Int)<(n:Int):=by omega
    have HFL:Hid (∀j (hj:j<2),(ds.flatMap jP)[k*2+j]? = (jP ds[k])[j]?):=fun j hj=>ei (f:=jP) (c:=2) (fun _=>rfl) ds k j hkl hj;generalize ds[k]=x at *;clear hcell
    go_wp2_with fail
    refine(HCP.out _).mono ?_;rintro e w1⟨rfl,hb1⟩;have hbw:=bR hb1;have hcur1:w1.heap[w.heap.size]? = some (.cells cur 48 (0,0)):=(hbw.block _ (au hcur)).trans hcur;have hfz:∀j,w1.frozen? ⟨w.heap.size,j,none⟩=false:=fun j=>by unfold World.frozen?;rw[hcur1];simp
    have g0:w1.cell? ⟨w.heap.size,k*2,none⟩=some cur[k*2]:=by rw[ai w1 w.heap.size _ _ _ _ hcur1];exact aX (by omega)
    have g1:w1.cell? ⟨w.heap.size,k*2+1,none⟩=some cur[k*2+1]:=by rw[ai w1 w.heap.size _ _ _ _ hcur1];exact aX (by omega)
    have HNX:Hid (zw w w.heap.size 48 n 2 (ds.flatMap jP) (.int .i64 ((k+1:Nat):Int)) (((w1.setCell ⟨w.heap.size,k*2,none⟩ (.string x.p)).setCell ⟨w.heap.size,k*2+1,none⟩ (.string x.u)))):=by
     refine⟨k+1,_,hlt,rfl,aL (aL (hcur1)),by simpa using hcs,?_,(((hb.trans (hbw.mono hb.size)).setCell (p:=⟨w.heap.size,k*2,none⟩) (af _) _).setCell (p:=⟨w.heap.size,k*2+1,none⟩) (af _) _)⟩
     rw[show(k+1)*2=k*2+2 by omega]
     have f0:=HFL.out 0 (by omega)
     have f1:=HFL.out 1 (by omega)
     rw[Nat.add_zero]at f0;exact hH (hH (HTK.out) (by first|omega|(simp;omega)) f0) (by first|omega|(simp;omega)) f1
    clear hbw hb1;go_wp2
    go_roundw
    case rel=>exact(show Value.int .i64 ((k+1:Nat):Int)=_ by go_num) ▸ HNX.out
    case measure=>simp[intOf];omega
   ·have hkn:k=n:=by omega
    subst hkn;have hkz:¬(k:Int)<(k:Int):=by omega
    have hfin:cur=(ds.flatMap jP).toArray:=by
     have h:=HTK.out;rw[bC (by rw[Array.length_toList];omega),bC (by rw[dF (f:=jP) (c:=2) (fun _=>rfl),HN.out];exact af _)]at h
     rw[<-h]
    have HF:Hid (wr.heap[w.heap.size]? = some (.cells (ds.flatMap jP).toArray 48 (0,0))):=by rw[<-hfin];exact hcur
    clear hfin hcur;go_wp2;go_ret;exact⟨_,rfl,.inr ⟨_,rfl,af _,HF.out⟩,hb⟩
theorem jQ:(Tryz.prog.info? 73).map (fun i=>(i.zero,i.size,i.bytes))=some (some (.agg #[.string ⟨#[]⟩,.string ⟨#[]⟩,.string ⟨#[]⟩,.string ⟨#[]⟩]),4,64):=by kernel_rfl
theorem wD(ats:List At)(v:Value)(w:World)(hv:kE w w.heap.size v ats)(hn:ats.length<=2000000)(hs:∀a∈ats,a.p.size<=2000000/\a.l.size<=2000000/\a.u.size<=2000000/\a.v.size<=2000000) :
 Calls Tryz.prog 72 #[v,.func (.func 73) #[] #[]] w fun e w' => ∃v',e=.returned v'/\cU w' w.heap.size 73 v' ats.length (ats.flatMap jt)/\Below w.heap.size w w':=by
 have HV:Hid (kE w w.heap.size v ats):=hv;obtain⟨A,cap,rfl,hc1,hc2,_⟩:=hv;obtain⟨n,hnE⟩ : ∃n,ats.length=n:=⟨_,rfl⟩;have HN:=aa hnE;rw[hnE]at hn hc1 ⊢;clear hnE;rcases bw n with h0|h0
 ·subst h0
  go_enter Tryz.func72,Tryz.ntmps72;go_wp2;go_ret;exact⟨_,rfl,.inl ⟨rfl,rfl⟩,ae _ _⟩
 ·obtain⟨i0,hi,hz0,hz1,hz2⟩:=info_parts jQ
  have hnz:((n:Int)==0)=false:=by rw[ak];omega
  obtain⟨M,hM⟩ : ∃M,M=madeCells (Value.agg #[.string ⟨#[]⟩,.string ⟨#[]⟩,.string ⟨#[]⟩,.string ⟨#[]⟩]).cells (((n:Nat):Int).toNat*i0.size):=⟨_,rfl⟩;have hMs:M.size=n*4:=by rw[hM,size_madeCells,hz1];simp
  have hmk:∀W:World,(Instr.makeSlice 40 (.int .i64 (n:Int)) (.int .i64 (n:Int))).run Tryz.prog W=.ok (.slice (some ⟨W.heap.size,0,none⟩) n n) (W.alloc (.cells M 73)):=fun W=>by
   have h:=run_make (P:=Tryz.prog) W 40 73 i0 _ Tryz.underlying40 hi hz0 .i64 .i64 (n:Int) (n:Int) (by omega) (by omega) (by rw[hz2];omega) (by omega)
   rw[<-hM]at h;simpa using h
  clear hM;obtain⟨q,hqE⟩ : ∃q,w.heap.size=q:=⟨_,rfl⟩;have HQE:=aa hqE;have HMS:=aa hMs;have hwl:w.heap.size<(w.alloc (.cells M 73)).heap.size:=by simp
  clear hqE hMs;go_enter Tryz.func72,Tryz.ntmps72;go_wp2;clear hmk
  go_loopw [16] (zw w w.heap.size 73 n 4 (ats.flatMap jt)) (fun i _=>n-(intOf i).toNat)
  case atStart=>exact⟨0,M,aM _,rfl,ar w _,HMS.out,by simp,(ae _ _).alloc (af _) _⟩
  case round =>
   obtain⟨k,cur,hk,rfl,hcur,hcs,htk,hb⟩:=hrel;have HTK:=aa htk;clear htk;by_cases hlt:k<n
   ·have hkl:k<ats.length:=by rw[HN.out];exact hlt
    obtain⟨b,o,cap',e,_,_,hbB,hcell⟩:=kE.open (em.below HV.out hb) (by omega)
    simp only[aK]at e;obtain⟨rfl,_,rfl⟩:=e;obtain⟨d0,d1,d2,d3⟩:=hcell k hkl;have hsd:=hs _ (aJ hkl);have HCP:=aa (fun w'=>tV ats[k].p ats[k].l ats[k].u ats[k].v hsd.1 hsd.2.1 hsd.2.2.1 hsd.2.2.2 w');have hkz:(k:Int)<(n:Int):=by omega
    have HFL:Hid (∀j (hj:j<4),(ats.flatMap jt)[k*4+j]? = (jt ats[k])[j]?):=fun j hj=>ei (f:=jt) (c:=4) (fun _=>rfl) ats k j hkl hj;generalize ats[k]=x at *;clear hcell
    go_wp2_with fail
    refine(HCP.out _).mono ?_;rintro e w1⟨rfl,hb1⟩;have hbw:=bR hb1;have hcur1:w1.heap[w.heap.size]? = some (.cells cur 73 (0,0)):=(hbw.block _ (au hcur)).trans hcur;have hfz:∀j,w1.frozen? ⟨w.heap.size,j,none⟩=false:=fun j=>by unfold World.frozen?;rw[hcur1];simp
    have g0:w1.cell? ⟨w.heap.size,k*4,none⟩=some cur[k*4]:=by rw[ai w1 w.heap.size _ _ _ _ hcur1];exact aX (by omega)
    have g1:w1.cell? ⟨w.heap.size,k*4+1,none⟩=some cur[k*4+1]:=by rw[ai w1 w.heap.size _ _ _ _ hcur1];exact aX (by omega)
    have g2:w1.cell? ⟨w.heap.size,k*4+2,none⟩=some cur[k*4+2]:=by rw[ai w1 w.heap.size _ _ _ _ hcur1];exact aX (by omega)
    have g3:w1.cell? ⟨w.heap.size,k*4+3,none⟩=some cur[k*4+3]:=by rw[ai w1 w.heap.size _ _ _ _ hcur1];exact aX (by omega)
    have HNX:Hid (zw w w.heap.size 73 n 4 (ats.flatMap jt) (.int .i64 ((k+1:Nat):Int)) (((((w1.setCell ⟨w.heap.size,k*4,none⟩ (.string x.p)).setCell ⟨w.heap.size,k*4+1,none⟩ (.string x.l)).setCell ⟨w.heap.size,k*4+2,none⟩ (.string x.u)).setCell ⟨w.heap.size,k*4+3,none⟩ (.string x.v)))):=by
     refine⟨k+1,_,hlt,rfl,aL (aL (aL (aL (hcur1)))),by simpa using hcs,?_,(((((hb.trans (hbw.mono hb.size)).setCell (p:=⟨w.heap.size,k*4,none⟩) (af _) _).setCell (p:=⟨w.heap.size,k*4+1,none⟩) (af _) _).setCell (p:=⟨w.heap.size,k*4+2,none⟩) (af _) _).setCell (p:=⟨w.heap.size,k*4+3,none⟩) (af _) _)⟩
     rw[show(k+1)*4=k*4+4 by omega]
     have f0:=HFL.out 0 (by omega)
     have f1:=HFL.out 1 (by omega)
     have f2:=HFL.out 2 (by omega)
     have f3:=HFL.out 3 (by omega)
     rw[Nat.add_zero]at f0;exact hH (hH (hH (hH (HTK.out) (by first|omega|(simp;omega)) f0) (by first|omega|(simp;omega)) f1) (by first|omega|(simp;omega)) f2) (by first|omega|(simp;omega)) f3
    clear hbw hb1;go_wp2
    go_roundw
    case rel=>exact(show Value.int .i64 ((k+1:Nat):Int)=_ by go_num) ▸ HNX.out
    case measure=>simp[intOf];omega
   ·have hkn:k=n:=by omega
    subst hkn;have hkz:¬(k:Int)<(k:Int):=by omega
    have hfin:cur=(ats.flatMap jt).toArray:=by
     have h:=HTK.out;rw[bC (by rw[Array.length_toList];omega),bC (by rw[dF (f:=jt) (c:=4) (fun _=>rfl),HN.out];exact af _)]at h
     rw[<-h]
    have HF:Hid (wr.heap[w.heap.size]? = some (.cells (ats.flatMap jt).toArray 73 (0,0))):=by rw[<-hfin];exact hcur
    clear hfin hcur;go_wp2;go_ret;exact⟨_,rfl,.inr ⟨_,rfl,af _,HF.out⟩,hb⟩
def aG(w:World)(b:Nat)(S:ByteArray):Prop:=∃cs t,w.heap[b]? = some (.cells cs t (0,0))/\cs[0]? = some (.string S)
structure dK(b:Nat)(R:ByteArray)(w w':World):Prop where
 os:w'.os=w.os
 tape:w'.tape=w.tape
 output:w'.output=w.output
 size:w.heap.size<=w'.heap.size
 other:∀y,y<w.heap.size->y≠b->w'.heap[y]? = w.heap[y]?
 cell:∀cs t,w.heap[b]? = some (.cells cs t (0,0))->w'.heap[b]? = some (.cells (cs.setIfInBounds 0 (.string R)) t (0,0))
theorem aG.cell{w:World}{b:Nat}{S:ByteArray}(h:aG w b S):w.cell? ⟨b,0,none⟩=some (.string S):=by
 obtain⟨cs,t,h1,h2⟩:=h;rw[ai w b 0 _ _ _ h1];exact h2
theorem aG.frozen{w:World}{b:Nat}{S:ByteArray}(h:aG w b S):w.frozen? ⟨b,0,none⟩=false:=by
 obtain⟨cs,t,h1,h2⟩:=h;unfold World.frozen?;rw[h1];simp
theorem aG.lt{w:World}{b:Nat}{S:ByteArray}(h:aG w b S):b<w.heap.size:=by
 obtain⟨cs,t,h1,h2⟩:=h;exact au h1
theorem aG.below{w w':World}{b:Nat}{S:ByteArray}(h:aG w b S)(hb:Below w.heap.size w w'):aG w' b S:=by
 obtain⟨cs,t,h1,h2⟩:=h;exact⟨cs,t,(hb.block b (au h1)).trans h1,h2⟩
theorem dK.trans{b:Nat}{R R':ByteArray}{w w1 w2:World}(h:dK b R w w1)(h':dK b R' w1 w2):dK b R' w w2:=by
 refine⟨h'.os.trans h.os,h'.tape.trans h.tape,h'.output.trans h.output,ag h.size h'.size,fun y hy hb=>(h'.other y (a8 hy h.size) hb).trans (h.other y hy hb),fun cs t hc => ?_⟩;rw[h'.cell _ _ (h.cell cs t hc)]
 congr 2
 apply Array.ext_getElem?
 intro i;simp only[Array.getElem?_setIfInBounds,Array.size_setIfInBounds];by_cases hi:0=i
 ·rw[av hi,av hi]
 ·rw[am hi,am hi,am hi]
theorem dK.at{b:Nat}{R S:ByteArray}{w w':World}(h:dK b R w w')(hS:aG w b S):aG w' b R:=by
 obtain⟨cs,t,h1,h2⟩:=hS;refine⟨_,t,h.cell cs t h1,?_⟩;have:=(Array.getElem?_eq_some_iff.1 h2).1;simp[this]
theorem dK.below{b B:Nat}{R:ByteArray}{w w':World}(h:dK b R w w')(hB:B<=b)(hs:B<=w.heap.size):Below B w w':=⟨h.os,h.tape,h.output,h.size,fun y hy=>h.other y (by omega) (by omega)⟩
theorem dK.of_below{b:Nat}{S:ByteArray}{w w':World}(hS:aG w b S)(h:Below w.heap.size w w'):dK b S w w':=by
 obtain⟨cs,t,h1,h2⟩:=hS;refine⟨h.os,h.tape,h.output,h.size,fun y hy _=>h.block y hy,fun cs' t' hc => ?_⟩;rw[h1]at hc;simp only[al,Obj.cells.injEq]at hc;obtain⟨rfl,rfl,_⟩:=hc;rw[h.block b (au h1),h1]
 congr 2
 apply Array.ext_getElem?
 intro i;rw[Array.getElem?_setIfInBounds];by_cases hi:0=i
 ·subst hi
  rw[av rfl,av (Array.getElem?_eq_some_iff.1 h2).1,h2]
 ·rw[am hi]
theorem dK.refl{b:Nat}{S:ByteArray}{w:World}(hS:aG w b S):dK b S w w:=dK.of_below hS (ae _ _)
theorem dK.set{b:Nat}{S:ByteArray}{w:World}(hS:aG w b S)(R:ByteArray):dK b R w (w.setCell ⟨b,0,none⟩ (.string R)):=by
 refine⟨rfl,rfl,rfl,by simp[World.setCell],fun y hy hb=>ao _ _ _ _ hb,fun cs t h=>aL h⟩
theorem Cg(S R p:ByteArray)(b:Nat)(w:World)(h:aG w b S)(hp:S.data.toList=p.data.toList++R.data.toList):Calls Tryz.prog 82 #[.pointer (some ⟨b,0,none⟩),.string p] w fun e w'=>e=.returned (.bool true)/\dK b R w w':=by
 have HP:=aa (sO S R p hp w);have c0:=h.cell;have f0:=h.frozen;have HS:=aa (dK.set h R);clear hp h;go_enter Tryz.func82,Tryz.ntmps82
 go_wp2_with fail
 refine HP.out.mono ?_;rintro e w1⟨rfl,hw⟩;rw[hw];clear hw;go_wp2;go_ret;exact⟨rfl,HS.out⟩
theorem zP(S p:ByteArray)(b:Nat)(w:World)(h:aG w b S)(hp:¬∃r,S.data.toList=p.data.toList++r):Calls Tryz.prog 82 #[.pointer (some ⟨b,0,none⟩),.string p] w fun e w'=>e=.returned (.bool false)/\dK b S w w':=by
 have HP:=aa (i7 S p hp w);have c0:=h.cell;have f0:=h.frozen;have HS:=aa (dK.set h S);clear hp h;go_enter Tryz.func82,Tryz.ntmps82
 go_wp2_with fail
 refine HP.out.mono ?_;rintro e w1⟨rfl,hw⟩;rw[hw];clear hw;go_wp2;go_ret;exact⟨rfl,HS.out⟩
def Ec(w:World)(s:List UInt8)(i:Value)(wr:World):Prop:=∃k:Nat,k<=s.length/\i=.int .i64 (k:Int)/\(s.take k).all fq=true/\wr=w
theorem qe{s:List UInt8}{k:Nat}{p:UInt8->Bool}(h:(s.take k).all p=true)(h':s.drop k=[]∨∃c r,s.drop k=c::r/\p c=false):s.dropWhile p=s.drop k:=by
 induction s generalizing k with
 |nil=>simp
 |cons x s ih =>
  cases k with
  |zero =>
   rcases h' with h'|⟨c,r,h',hc⟩
   ·cases h'
   ·rw[List.drop_zero]at h'
    injection h' with h1 h2
    subst h1;rw[List.drop_zero,List.dropWhile_cons,hc];rfl
  |succ k =>
   rw[List.take_succ_cons,List.all_cons,aO]at h;rw[List.dropWhile_cons,h.1,av rfl,List.drop_succ_cons];exact ih h.2 h'
theorem xZ(S R:ByteArray)(b:Nat)(w:World)(h:aG w b S)(hS:S.size<=2000000)(hR:R.data.toList=S.data.toList.dropWhile fq)(B:Bool)(hB:B=decide (R.size<S.size)):Calls Tryz.prog 87 #[.pointer (some ⟨b,0,none⟩)] w fun e w'=>e=.returned (.bool B)/\dK b R w w':=by
 have c0:=h.cell;have f0:=h.frozen;have HS:=aa (dK.set h R);obtain⟨n,hn⟩ : ∃n,S.size=n:=⟨_,rfl⟩;have hnl:S.data.toList.length=n:=by rw[<-aF];exact hn
 have HNL:=aa hnl;have HR:=aa hR;have HB:=aa hB;clear h hnl hR hB;go_enter Tryz.func87,Tryz.ntmps87;go_wp2
 go_loopw [3] (Ec w S.data.toList) (fun i _=>n-(intOf i).toNat)
 case atStart=>exact⟨0,aM _,rfl,rfl,rfl⟩
 case round =>
  obtain⟨k,hk,rfl,hall,hw⟩:=hrel;subst hw;have HALL:=aa hall;rw[HNL.out]at hk;clear hall
  have fin:∀(h':S.data.toList.drop k=[]∨∃c r,S.data.toList.drop k=c::r/\fq c=false),S.extract k n=R/\B=decide (0<k):=fun h'=>by
   have h1:=qe HALL.out h'
   have e:S.extract k n=R:=by
    apply cp
    rw[cS,HR.out,h1,<-HNL.out,cL]
   rw[HB.out];refine⟨e,decide_eq_decide.2 ?_⟩;rw[aF,aF,HR.out,h1,bq,HNL.out];omega
  by_cases hlt:k<n
  ·have hkl:k<S.data.toList.length:=by rw[HNL.out];exact hlt
   have hix:=cz S hkl;have hkz:(k:Int)<(n:Int):=by omega
   have hdrop:S.data.toList.drop k=S.data.toList[k]::S.data.toList.drop (k+1):=bv hkl;have htake:S.data.toList.take (k+1)=S.data.toList.take k++[S.data.toList[k]]:=aN hkl;have HBL:=aa (fun w'=>gB (S.data.toList[k].toNat:Int) w');rw[gj]at HBL;have HT:=aa htake;have HDR:=aa hdrop;clear htake hdrop;generalize S.data.toList[k]=c at *;cases hc:fq c with
   |true =>
    rw[hc]at HBL;have HRL:Hid (Ec wr S.data.toList (.int .i64 ((k+1:Nat):Int)) wr):=⟨k+1,by rw[HNL.out];exact hlt,rfl,by rw[HT.out,List.all_append,HALL.out];simp[hc],rfl⟩
    clear hc fin
    go_wp2_with fail
    refine(HBL.out _).mono ?_;rintro e w1⟨rfl,hw⟩;rw[hw];clear hw;go_wp2
    go_roundw
    case rel=>exact(show Value.int .i64 ((k+1:Nat):Int)=_ by go_num) ▸ HRL.out
    case measure=>simp[intOf];omega
   |false =>
    obtain⟨hex,hdc⟩:=fin (.inr ⟨c,_,HDR.out,hc⟩);clear HB;subst hdc;rw[hc]at HBL;clear hc fin
    go_wp2_with fail
    refine(HBL.out _).mono ?_;rintro e w1⟨rfl,hw⟩;rw[hw];clear hw;have hk0:(0:Int)<=(k:Int):=by omega
    go_wp2;go_ret;exact⟨rfl,HS.out⟩
  ·have hkn:k=n:=by omega
   obtain⟨hex,hdc⟩:=fin (.inl (List.drop_eq_nil_of_le (by rw[HNL.out];omega)))
   have hkz:¬(k:Int)<(n:Int):=by omega
   have he:R=ByteArray.empty:=by rw[<-hex,hkn];apply cp;rw[cS];rw[List.drop_eq_nil_of_le (by rw[aY];omega)];rfl
   clear fin HB HR hex;subst hdc;subst he;go_wp2;go_ret;exact⟨rfl,HS.out⟩
def cW(t s:List UInt8):Option (List UInt8×List UInt8):=if 0<=Lib.index s t then some (s.take (Lib.index s t).toNat,s.drop ((Lib.index s t).toNat+t.length))else none
theorem ig{t s p r:List UInt8}(h:cW t s=some (p,r)):∃n:Nat,Lib.index s t=n/\n+t.length<=s.length/\p=s.take n/\r=s.drop (n+t.length):=by
 unfold cW at h
 split at h
 ·next h0 =>
  simp only[al,Prod.mk.injEq]at h;have:=Lib.index_room s t h0;refine⟨(Lib.index s t).toNat,by omega,by omega,h.1.symm,h.2.symm⟩
 ·cases h
theorem Bl{t s:List UInt8}(h:cW t s=none):Lib.index s t = -1:=by
 unfold cW at h
 split at h
 ·cases h
 ·have:=Lib.index_ge s t;omega
theorem vg(S T P R:ByteArray)(hlen:S.size<=1000000)(h:cW T.data.toList S.data.toList=some (P.data.toList,R.data.toList))(w:World)(hm:cD w):Calls Tryz.prog 190 #[.string S,.string T] w fun e w'=>e=.returned (.tuple #[.string P,.string R,.bool true])/\Below w.heap.size w w':=by
 obtain⟨n,h1,h2,h3,h4⟩:=ig h;have HI:=aa (ly S T w hm (by omega))
 rw[h1]at HI;rw[<-aF,<-aF]at h2;have e1:S.extract 0 n=P:=by apply cp;rw[cS,h3];simp
 have e2:S.extract (n+T.size) S.size=R:=by apply cp;rw[cS,aF,aF,cL,h4]
 obtain⟨m,hm⟩ : ∃m,T.size=m:=⟨_,rfl⟩;obtain⟨k,hk⟩ : ∃k,S.size=k:=⟨_,rfl⟩;rw[hm]at h2 e2;rw[hk]at h2 e2 hlen;have c1:(n:Int)<=(k:Int):=by omega
 have c2:(n:Int)+(m:Int)<=(k:Int):=by omega
 have c4:(0:Int)<=(n:Int)+(m:Int):=by omega
 have c3:(0:Int)<=(n:Int):=by omega
 have c5:((n:Int)+(m:Int)).toNat=n+m:=by omega
 clear h h1 h3 h4;go_enter Tryz.func190,Tryz.ntmps190
 go_wp2_with fail
 refine HI.out.mono ?_;rintro e w'⟨rfl,hw⟩;rw[hw];clear hw
 go_wp2_with fail
 go_quiet (fail)
 go_wp2
 go_ret3
 exact⟨rfl,ay (ae _ _) _⟩
theorem ti(S T:ByteArray)(hlen:S.size<=1000000)(h:cW T.data.toList S.data.toList=none)(w:World)(hm:cD w):Calls Tryz.prog 190 #[.string S,.string T] w fun e w'=>e=.returned (.tuple #[.string S,.string ⟨#[]⟩,.bool false])/\Below w.heap.size w w':=by
 have HI:=aa (ly S T w hm (by omega))
 rw[Bl h]at HI;clear h;go_enter Tryz.func190,Tryz.ntmps190
 go_wp2_with fail
 refine HI.out.mono ?_;rintro e w'⟨rfl,hw⟩;rw[hw];clear hw;go_wp2
 go_ret3
 exact⟨rfl,ae _ _⟩
theorem FE(S T P R:ByteArray)(hlen:S.size<=1000000)(h:cW T.data.toList S.data.toList=some (P.data.toList,R.data.toList))(w:World)(hm:cD w):Calls Tryz.prog 166 #[.string S,.string T] w fun e w'=>e=.returned (.tuple #[.string P,.string R,.bool true])/\Below w.heap.size w w':=by
 have HC:=aa (vg S T P R hlen h w hm);clear h hm;go_enter Tryz.func166,Tryz.ntmps166
 go_wp2_with fail
 refine HC.out.mono ?_;rintro e w'⟨rfl,hb⟩;go_wp2
 go_ret3
 exact⟨rfl,hb⟩
theorem Dx(S T:ByteArray)(hlen:S.size<=1000000)(h:cW T.data.toList S.data.toList=none)(w:World)(hm:cD w):Calls Tryz.prog 166 #[.string S,.string T] w fun e w'=>e=.returned (.tuple #[.string S,.string ⟨#[]⟩,.bool false])/\Below w.heap.size w w':=by
 have HC:=aa (ti S T hlen h w hm);clear h hm;go_enter Tryz.func166,Tryz.ntmps166
 go_wp2_with fail
 refine HC.out.mono ?_;rintro e w'⟨rfl,hb⟩;go_wp2
 go_ret3
 exact⟨rfl,hb⟩
theorem uq(S T P R:ByteArray)(b:Nat)(w:World)(hS:aG w b S)(hm:cD w)(hlen:S.size<=1000000)(h:cW T.data.toList S.data.toList=some (P.data.toList,R.data.toList)):Calls Tryz.prog 127 #[.pointer (some ⟨b,0,none⟩),.string T] w fun e w'=>e=.returned (.tuple #[.string P,.bool true])/\dK b R w w':=by
 have HC:=aa (FE S T P R hlen h w hm);have HS:=aa hS;have c0:=hS.cell;clear h hS hm;go_enter Tryz.func127,Tryz.ntmps127
 go_wp2_with fail
 refine HC.out.mono ?_;rintro e w1⟨rfl,hb⟩;have hc1:=HS.out.below hb;have c1:=hc1.cell;have f1:=hc1.frozen;have HR:=aa ((dK.of_below HS.out hb).trans (dK.set hc1 R));clear hc1;go_wp2
 go_ret2
 exact⟨rfl,HR.out⟩
theorem so(S T:ByteArray)(b:Nat)(w:World)(hS:aG w b S)(hm:cD w)(hlen:S.size<=1000000)(h:cW T.data.toList S.data.toList=none):Calls Tryz.prog 127 #[.pointer (some ⟨b,0,none⟩),.string T] w fun e w'=>e=.returned (.tuple #[.string ⟨#[]⟩,.bool false])/\dK b S w w':=by
 have HC:=aa (Dx S T hlen h w hm);have HS:=aa hS;have c0:=hS.cell;clear h hS hm;go_enter Tryz.func127,Tryz.ntmps127
 go_wp2_with fail
 refine HC.out.mono ?_;rintro e w1⟨rfl,hb⟩;have HR:=aa (dK.of_below HS.out hb);go_wp2
 go_ret2
 exact⟨rfl,HR.out⟩
def aI(s:List UInt8):List UInt8:=s.dropWhile fq
def ba(l:List UInt8):ByteArray:=⟨l.toArray⟩
theorem bp(l:List UInt8):(ba l).data.toList=l:=by simp[ba]
theorem kZ(S:ByteArray):ba S.data.toList=S:=by simp[ba]
theorem cV(l:List UInt8):(ba l).size=l.length:=by rw[aF,bp]
theorem cB(s:List UInt8):(aI s).length<=s.length:=(List.dropWhile_sublist fq).length_le
def aH(p s:List UInt8):Option (List UInt8):=if p.isPrefixOf s then some (s.drop p.length)else none
theorem cH{p s r:List UInt8}(h:aH p s=some r):s=p++r:=by
 unfold aH at h
 split at h
 ·next h1 =>
  rw[bV]at h1;obtain⟨t,rfl⟩:=h1;simp only[List.drop_left,al]at h;rw[h]
 ·cases h
theorem zU{p s:List UInt8}(h:aH p s=none):¬∃r,s=p++r:=by
 unfold aH at h
 split at h
 ·cases h
 ·next h1 =>
  rintro⟨r,rfl⟩;exact h1 (by rw[bV];exact ce _ _)
theorem bW(s p r:List UInt8)(b:Nat)(w:World)(h:aG w b (ba s))(hp:aH p s=some r):Calls Tryz.prog 82 #[.pointer (some ⟨b,0,none⟩),.string (ba p)] w fun e w'=>e=.returned (.bool true)/\dK b (ba r) w w' :=
 Cg _ _ _ b w h (by rw[bp,bp,bp];exact cH hp)
theorem dc(s p:List UInt8)(b:Nat)(w:World)(h:aG w b (ba s))(hp:aH p s=none):Calls Tryz.prog 82 #[.pointer (some ⟨b,0,none⟩),.string (ba p)] w fun e w'=>e=.returned (.bool false)/\dK b (ba s) w w' :=
 zP _ _ b w h (by rw[bp,bp];exact zU hp)
theorem bP(s:List UInt8)(b:Nat)(w:World)(h:aG w b (ba s))(hl:s.length<=1000000):Calls Tryz.prog 87 #[.pointer (some ⟨b,0,none⟩)] w fun e w'=>e=.returned (.bool (decide ((aI s).length<s.length)))/\dK b (ba (aI s)) w w' :=
 xZ _ _ b w h (by rw[cV];omega) (by rw[bp,bp];rfl) _ (by rw[cV,cV])
theorem fV(s t p r:List UInt8)(b:Nat)(w:World)(h:aG w b (ba s))(hm:cD w)(hl:s.length<=1000000)(hc:cW t s=some (p,r)):Calls Tryz.prog 127 #[.pointer (some ⟨b,0,none⟩),.string (ba t)] w fun e w'=>e=.returned (.tuple #[.string (ba p),.bool true])/\dK b (ba r) w w' :=
 uq _ _ _ _ b w h hm (by rw[cV];omega) (by rw[bp,bp,bp,bp];exact hc)
theorem fW(s t:List UInt8)(b:Nat)(w:World)(h:aG w b (ba s))(hm:cD w)(hl:s.length<=1000000)(hc:cW t s=none):Calls Tryz.prog 127 #[.pointer (some ⟨b,0,none⟩),.string (ba t)] w fun e w'=>e=.returned (.tuple #[.string ⟨#[]⟩,.bool false])/\dK b (ba s) w w' :=
 so _ _ b w h hm (by rw[cV];omega) (by rw[bp,bp];exact hc)
theorem dK.max{b:Nat}{R S:ByteArray}{w w':World}(h:dK b R w w')(hm:cD w)(hS:aG w b S):cD w':=by
 obtain⟨m,hm⟩:=hm
 have hne : 2≠b:=fun e=>by
  have:=hS.cell;rw[<-e,hm]at this;simp at this
 have hlt : 2 < w.heap.size:=cD.lt ⟨m,hm⟩;exact⟨m,(World.cell?_of_block (h.other _ hlt hne)).trans hm⟩
def fe(s:List UInt8):Option (List UInt8):=(aH [61] (aI s)).map aI
theorem cx{p s r:List UInt8}(h:aH p s=some r):r.length<=s.length:=by rw[cH h,aj];omega
theorem dr(s r:List UInt8)(b:Nat)(w:World)(h:aG w b (ba s))(hl:s.length<=1000000)(he:fe s=some r):Calls Tryz.prog 123 #[.pointer (some ⟨b,0,none⟩)] w fun e w'=>e=.returned (.bool true)/\dK b (ba r) w w':=by
 have H1:=aa (bP s b w h hl);have hl1:=cB s;unfold fe at he;obtain⟨q,hq,rfl⟩:=Option.map_eq_some_iff.1 he;have hlq:=cx hq;have H2:Hid (∀w',aG w' b (ba (aI s))->_):=fun w' h'=>bW (aI s) [61] q b w' h' hq;have H3:Hid (∀w',aG w' b (ba q)->_):=fun w' h'=>bP q b w' h' (by omega)
 have HS:=aa h;clear he hq hl1 hlq hl h;generalize decide ((aI s).length<s.length)=B1 at *;generalize decide ((aI q).length<q.length)=B2 at *;generalize aI q=r at *;generalize aI s=s1 at *;go_enter Tryz.func123,Tryz.ntmps123
 go_wp2_with fail
 refine H1.out.mono ?_;rintro e w1⟨rfl,hc1⟩;have HC1:=aa hc1;clear hc1
 go_wp2_with fail
 refine(H2.out _ (HC1.out.at HS.out)).mono ?_;rintro e w2⟨rfl,hc2⟩;have HC2:=aa (HC1.out.trans hc2);clear hc2
 go_wp2_with fail
 refine(H3.out _ (HC2.out.at HS.out)).mono ?_;rintro e w3⟨rfl,hc3⟩;have HC3:=aa (HC2.out.trans hc3);clear hc3;go_wp2;go_ret;exact⟨rfl,HC3.out⟩
theorem iI(s:List UInt8)(b:Nat)(w:World)(h:aG w b (ba s))(hl:s.length<=1000000)(he:fe s=none):Calls Tryz.prog 123 #[.pointer (some ⟨b,0,none⟩)] w fun e w'=>e=.returned (.bool false)/\∃r,r.length<=s.length/\dK b (ba r) w w':=by
 have H1:=aa (bP s b w h hl);have hl1:=cB s;unfold fe at he;have hq:aH [61] (aI s)=none:=by simpa using he
 have H2:Hid (∀w',aG w' b (ba (aI s))->_):=fun w' h'=>dc (aI s) [61] b w' h' hq;have H3:Hid (∀w',aG w' b (ba (aI s))->_):=fun w' h'=>bP (aI s) b w' h' (by omega)
 have HS:=aa h;have HL:Hid ((aI (aI s)).length<=s.length):=by have:=cB (aI s);show _<=_;omega
 clear he hq hl1 hl h;generalize decide ((aI s).length<s.length)=B1 at *;generalize decide ((aI (aI s)).length<(aI s).length)=B2 at *;generalize aI (aI s)=r at *;generalize aI s=s1 at *;go_enter Tryz.func123,Tryz.ntmps123
 go_wp2_with fail
 refine H1.out.mono ?_;rintro e w1⟨rfl,hc1⟩;have HC1:=aa hc1;clear hc1
 go_wp2_with fail
 refine(H2.out _ (HC1.out.at HS.out)).mono ?_;rintro e w2⟨rfl,hc2⟩;have HC2:=aa (HC1.out.trans hc2);clear hc2
 go_wp2_with fail
 refine(H3.out _ (HC2.out.at HS.out)).mono ?_;rintro e w3⟨rfl,hc3⟩;have HC3:=aa (HC2.out.trans hc3);clear hc3;go_wp2;go_ret;exact⟨rfl,r,HL.out,HC3.out⟩
def e9(s:List UInt8):Option (List UInt8×List UInt8) :=
 match aH [39] s with
 |some r=>cW [39] r
 |none=>match aH [34] s with
  |some r=>cW [34] r
  |none=>none
theorem dW{t s p r:List UInt8}(h:cW t s=some (p,r)):p.length<=s.length/\r.length<=s.length/\p.length+t.length+r.length=s.length:=by
 obtain⟨n,_,h2,rfl,rfl⟩:=ig h;rw[aY,bq];omega
theorem eL(s p r:List UInt8)(b:Nat)(w:World)(h:aG w b (ba s))(hm:cD w)(hl:s.length<=1000000)(hq:e9 s=some (p,r)):Calls Tryz.prog 124 #[.pointer (some ⟨b,0,none⟩)] w fun e w'=>e=.returned (.tuple #[.string (ba p),.bool true])/\dK b (ba r) w w':=by
 have HS:=aa h;have HM:=aa hm;unfold e9 at hq;cases h1:aH [39] s with
 |some r1 =>
  rw[h1]at hq;have hr:=cx h1;have H1:=aa (bW s [39] r1 b w h h1);have H2:Hid (∀w',aG w' b (ba r1)->cD w'->_):=fun w' h' hm'=>fV r1 [39] p r b w' h' hm' (by omega) hq
  clear hq h1 hr hl h hm;go_enter Tryz.func124,Tryz.ntmps124
  go_wp2_with fail
  refine H1.out.mono ?_;rintro e w1⟨rfl,hc1⟩;have HC1:=aa hc1;clear hc1
  go_wp2_with fail
  refine(H2.out _ (HC1.out.at HS.out) (HC1.out.max HM.out HS.out)).mono ?_;rintro e w2⟨rfl,hc2⟩;have HC2:=aa (HC1.out.trans hc2);clear hc2;go_wp2
  go_ret2
  exact⟨rfl,HC2.out⟩
 |none =>
  rw[h1]at hq;have H1:=aa (dc s [39] b w h h1);cases h2:aH [34] s with
  |none=>rw[h2]at hq;cases hq
  |some r1 =>
   rw[h2]at hq;have hr:=cx h2;have H2:Hid (∀w',aG w' b (ba s)->_):=fun w' h'=>bW s [34] r1 b w' h' h2;have H3:Hid (∀w',aG w' b (ba r1)->cD w'->_):=fun w' h' hm'=>fV r1 [34] p r b w' h' hm' (by omega) hq
   clear hq h1 h2 hr hl h hm;go_enter Tryz.func124,Tryz.ntmps124
   go_wp2_with fail
   refine H1.out.mono ?_;rintro e w1⟨rfl,hc1⟩;have HC1:=aa hc1;clear hc1
   go_wp2_with fail
   refine(H2.out _ (HC1.out.at HS.out)).mono ?_;rintro e w2⟨rfl,hc2⟩;have HC2:=aa (HC1.out.trans hc2);clear hc2
   go_wp2_with fail
   refine(H3.out _ (HC2.out.at HS.out) (HC2.out.max HM.out HS.out)).mono ?_;rintro e w3⟨rfl,hc3⟩;have HC3:=aa (HC2.out.trans hc3);clear hc3;go_wp2
   go_ret2
   exact⟨rfl,HC3.out⟩
end Go.Proofs.YteinegfbpfhflaaGreatDoor
