/-
  doc.copies of declarations and of attributes: lists in new memory. Conditions: the lists lie as they are; there are not too many, the texts are not too long.
  parse.cursor: what of a text isn't read yet, in a cell; skip, blanks, through, equals, quoted. Conditions: the texts are not too long.
  strings.Cut at a text; parse.cursor: through, equals, quoted. Conditions: the texts are not too long; internal/bytealg.MaxLen holds some number.
  parse.cursor: equals, quoted. Conditions: the texts are not too long; internal/bytealg.MaxLen holds some number.
-/
import Derived.Test.YtlgcigmolfhamaaGreatDoorK11
import Derived.Test.YtlgcigmolfhamaaGreatDoorK12
import Derived.Test.YtlgcigmolfhamaaGreatDoorK09
import Derived.Test.YtlgcigmolfhamaaGreatDoorK10
import Derived.Lib.IndexMore
namespace Go.Proofs.YtlgcigmolfhamaaGreatDoor
open Go.RowKit
set_option linter.unusedVariables false
set_option maxRecDepth 100000
set_option maxHeartbeats 8000000
def J8(w:World)(B e:Nat)(v:Value)(n:Nat)(cs:List Value):Prop :=
 (n=0/\v=.slice none 0 0)∨∃g,v=.slice (some ⟨g,0,none⟩) n n/\B<=g/\w.heap[g]? = some (.cells cs.toArray e (0,0))
theorem J8.later{w w':World}{B e n:Nat}{v:Value}{cs:List Value}(h:J8 w B e v n cs)(hb:Below w.heap.size w w'):J8 w' B e v n cs:=by
 rcases h with h|⟨g,h1,h2,h3⟩
 ·exact .inl h
 ·exact .inr ⟨g,h1,h2,(hb.block g (i3 h3)).trans h3⟩
theorem J8.mono{w:World}{B B' e n:Nat}{v:Value}{cs:List Value}(h:J8 w B e v n cs)(hb:B'<=B):J8 w B' e v n cs:=by
 rcases h with h|⟨g,h1,h2,h3⟩
 ·exact .inl h
 ·exact .inr ⟨g,h1,by omega,h3⟩
theorem J8.at{w:World}{B e n:Nat}{v:Value}{cs:List Value}(h:J8 w B e v n cs)(hn:n<=9223372036854775807)(h0:n=0->cs=[]):R1 w w.heap.size v n cs:=by
 rcases h with⟨rfl,rfl⟩|⟨g,rfl,_,h3⟩
 ·exact⟨none,0,rfl,c9 _,by omega,fun D0=>absurd (h0 rfl) D0⟩
 ·refine⟨some ⟨g,0,none⟩,n,rfl,c9 _,hn,fun _=>⟨g,0,rfl,i3 h3,fun j hj => ?_⟩⟩
  rw[F5,d9 w g j _ _ _ h3];simp[hj]
theorem a06{cur:Array Value}{cs:List Value}{m:Nat}{a:Value}(h:cur.toList.take m=cs.take m)(hm:m<cur.size)(e:cs[m]? = some a):(cur.setIfInBounds m a).toList.take (m+1)=cs.take (m+1):=by
 apply List.ext_getElem?
 intro j;rw[List.getElem?_take,List.getElem?_take];by_cases hj:j<m+1
 ·rw[g8 hj,g8 hj,A9,Array.getElem?_setIfInBounds]
  by_cases he:m=j
  ·subst he;rw[g8 rfl,g8 hm,e]
  ·rw[f6 he,<-A9]
   have h1:=congrArg (·[j]?) h
   simp only[List.getElem?_take]at h1
   rwa [g8 (by omega),g8 (by omega)]at h1
 ·rw[f6 hj,f6 hj]
def b3Z(w:World)(g e n c:Nat)(cs:List Value)(i:Value)(wr:World):Prop :=
 ∃(k:Nat) (cur:Array Value),k<=n/\i=.int .i64 k/\wr.heap[g]? = some (.cells cur e (0,0))/\cur.size=n*c/\cur.toList.take (k*c)=cs.take (k*c)/\Below w.heap.size w wr
theorem a0W:(Tryz.prog.info? 34).map (fun i=>(i.zero,i.size,i.bytes))=some (some (.agg #[.string ⟨#[]⟩,.string ⟨#[]⟩]),2,32):=by kernel_rfl
theorem b1h(ds:List Dc)(v:Value)(w:World)(hv:a0P w w.heap.size v ds)(hn:ds.length<=2000000)(hs:∀d∈ds,d.p.size<=2000000/\d.u.size<=2000000) :
 Calls Tryz.prog 102 #[v,.func (.func 103) #[] #[]] w fun e w' => ∃v',e=.returned v'/\J8 w' w.heap.size 34 v' ds.length (ds.flatMap C1)/\Below w.heap.size w w':=by
 have HV:Hid (a0P w w.heap.size v ds):=hv;obtain⟨A,cap,rfl,G4,J6,_⟩:=hv;obtain⟨n,D9⟩ : ∃n,ds.length=n:=⟨_,rfl⟩;have HN:=a8 D9;rw[D9]at hn G4 ⊢;clear D9;rcases B9 n with h0|h0
 ·subst h0
  go_enter Tryz.func102,Tryz.ntmps102;go_wp2;go_ret;exact⟨_,rfl,.inl ⟨rfl,rfl⟩,b8 _ _⟩
 ·obtain⟨i0,hi,G5,G6,G7⟩:=info_parts a0W
  have J7:((n:Int)==0)=false:=by rw[e9];omega
  obtain⟨M,hM⟩ : ∃M,M=madeCells (Value.agg #[.string ⟨#[]⟩,.string ⟨#[]⟩]).cells (((n:Nat):Int).toNat*i0.size):=⟨_,rfl⟩;have E2:M.size=n*2:=by rw[hM,size_madeCells,G6];simp
  have G8:∀W:World,(Instr.makeSlice 31 (.int .i64 (n:Int)) (.int .i64 (n:Int))).run Tryz.prog W=.ok (.slice (some ⟨W.heap.size,0,none⟩) n n) (W.alloc (.cells M 34)):=fun W=>by
   have h:=run_make (P:=Tryz.prog) W 31 34 i0 _ Tryz.underlying31 hi G5 .i64 .i64 (n:Int) (n:Int) (by omega) (by omega) (by rw[G7];omega) (by omega)
   rw[<-hM]at h;simpa using h
  clear hM;obtain⟨q,E3⟩ : ∃q,w.heap.size=q:=⟨_,rfl⟩;have J9:=a8 E3;have G9:=a8 E2;have L0:w.heap.size<(w.alloc (.cells M 34)).heap.size:=by simp
  clear E3 E2;go_enter Tryz.func102,Tryz.ntmps102;go_wp2;clear G8
  go_loopw [16] (b3Z w w.heap.size 34 n 2 (ds.flatMap C1)) (fun i _=>n-(intOf i).toNat)
  case atStart=>exact⟨0,M,o4 _,rfl,g9 w _,G9.out,by simp,(b8 _ _).alloc (c9 _) _⟩
  case round =>
   obtain⟨k,cur,hk,rfl,D1,J1,E4,hb⟩:=hrel;have E5:=a8 E4;clear E4;by_cases E6:k<n
   ·have E0:k<ds.length:=by rw[HN.out];exact E6
    obtain⟨b,o,cap',e,_,_,L1,D2⟩:=a0P.open (R1.below HV.out hb) (by omega)
    simp only[o5]at e;obtain⟨rfl,_,rfl⟩:=e;obtain⟨d0,d1⟩:=D2 k E0;have E7:=hs _ (o0 E0);have J2:=a8 (fun w'=>a9y ds[k].p ds[k].u E7.1 E7.2 w');have J3:(k:Int)<(n:Int):=by omega
    have G0:Hid (∀j (hj:j<2),(ds.flatMap C1)[k*2+j]? = (C1 ds[k])[j]?):=fun j hj=>Q6 (f:=C1) (c:=2) (fun _=>rfl) ds k j E0 hj;generalize ds[k]=x at *;clear D2
    go_wp2_with fail
    refine(J2.out _).mono ?_;rintro e w1⟨rfl,G1⟩;have E1:=E8 G1;have D0:w1.heap[w.heap.size]? = some (.cells cur 34 (0,0)):=(E1.block _ (i3 D1)).trans D1;have L2:∀j,w1.frozen? ⟨w.heap.size,j,none⟩=false:=fun j=>by unfold World.frozen?;rw[D0];simp
    have g0:w1.cell? ⟨w.heap.size,k*2,none⟩=some cur[k*2]:=by rw[d9 w1 w.heap.size _ _ _ _ D0];exact r9 (by omega)
    have g1:w1.cell? ⟨w.heap.size,k*2+1,none⟩=some cur[k*2+1]:=by rw[d9 w1 w.heap.size _ _ _ _ D0];exact r9 (by omega)
    have J4:Hid (b3Z w w.heap.size 34 n 2 (ds.flatMap C1) (.int .i64 ((k+1:Nat):Int)) (((w1.setCell ⟨w.heap.size,k*2,none⟩ (.string x.p)).setCell ⟨w.heap.size,k*2+1,none⟩ (.string x.u)))):=by
     refine⟨k+1,_,E6,rfl,o8 (o8 (D0)),by simpa using J1,?_,(((hb.trans (E1.mono hb.size)).setCell (p:=⟨w.heap.size,k*2,none⟩) (c9 _) _).setCell (p:=⟨w.heap.size,k*2+1,none⟩) (c9 _) _)⟩
     rw[show(k+1)*2=k*2+2 by omega]
     have f0:=G0.out 0 (by omega)
     have f1:=G0.out 1 (by omega)
     rw[Nat.add_zero]at f0;exact a06 (a06 (E5.out) (by first|omega|(simp;omega)) f0) (by first|omega|(simp;omega)) f1
    clear E1 G1;go_wp2
    go_roundw
    case rel=>exact(show Value.int .i64 ((k+1:Nat):Int)=_ by go_num) ▸ J4.out
    case measure=>simp[intOf];omega
   ·have J5:k=n:=by omega
    subst J5;have J3:¬(k:Int)<(k:Int):=by omega
    have D3:cur=(ds.flatMap C1).toArray:=by
     have h:=E5.out;rw[C0 (by rw[Array.length_toList];omega),C0 (by rw[N2 (f:=C1) (c:=2) (fun _=>rfl),HN.out];exact c9 _)]at h
     rw[<-h]
    have HF:Hid (wr.heap[w.heap.size]? = some (.cells (ds.flatMap C1).toArray 34 (0,0))):=by rw[<-D3];exact D1
    clear D3 D1;go_wp2;go_ret;exact⟨_,rfl,.inr ⟨_,rfl,c9 _,HF.out⟩,hb⟩
theorem a2u:(Tryz.prog.info? 103).map (fun i=>(i.zero,i.size,i.bytes))=some (some (.agg #[.string ⟨#[]⟩,.string ⟨#[]⟩,.string ⟨#[]⟩,.string ⟨#[]⟩]),4,64):=by kernel_rfl
theorem b1B(ats:List At)(v:Value)(w:World)(hv:a23 w w.heap.size v ats)(hn:ats.length<=2000000)(hs:∀a∈ats,a.p.size<=2000000/\a.l.size<=2000000/\a.u.size<=2000000/\a.v.size<=2000000) :
 Calls Tryz.prog 104 #[v,.func (.func 105) #[] #[]] w fun e w' => ∃v',e=.returned v'/\J8 w' w.heap.size 103 v' ats.length (ats.flatMap atC)/\Below w.heap.size w w':=by
 have HV:Hid (a23 w w.heap.size v ats):=hv;obtain⟨A,cap,rfl,G4,J6,_⟩:=hv;obtain⟨n,E1⟩ : ∃n,ats.length=n:=⟨_,rfl⟩;have HN:=a8 E1;rw[E1]at hn G4 ⊢;clear E1;rcases B9 n with h0|h0
 ·subst h0
  go_enter Tryz.func104,Tryz.ntmps104;go_wp2;go_ret;exact⟨_,rfl,.inl ⟨rfl,rfl⟩,b8 _ _⟩
 ·obtain⟨i0,hi,G5,G6,G7⟩:=info_parts a2u
  have J7:((n:Int)==0)=false:=by rw[e9];omega
  obtain⟨M,hM⟩ : ∃M,M=madeCells (Value.agg #[.string ⟨#[]⟩,.string ⟨#[]⟩,.string ⟨#[]⟩,.string ⟨#[]⟩]).cells (((n:Nat):Int).toNat*i0.size):=⟨_,rfl⟩;have E4:M.size=n*4:=by rw[hM,size_madeCells,G6];simp
  have G8:∀W:World,(Instr.makeSlice 44 (.int .i64 (n:Int)) (.int .i64 (n:Int))).run Tryz.prog W=.ok (.slice (some ⟨W.heap.size,0,none⟩) n n) (W.alloc (.cells M 103)):=fun W=>by
   have h:=run_make (P:=Tryz.prog) W 44 103 i0 _ Tryz.underlying44 hi G5 .i64 .i64 (n:Int) (n:Int) (by omega) (by omega) (by rw[G7];omega) (by omega)
   rw[<-hM]at h;simpa using h
  clear hM;obtain⟨q,E5⟩ : ∃q,w.heap.size=q:=⟨_,rfl⟩;have J9:=a8 E5;have G9:=a8 E4;have L0:w.heap.size<(w.alloc (.cells M 103)).heap.size:=by simp
  clear E5 E4;go_enter Tryz.func104,Tryz.ntmps104;go_wp2;clear G8
  go_loopw [16] (b3Z w w.heap.size 103 n 4 (ats.flatMap atC)) (fun i _=>n-(intOf i).toNat)
  case atStart=>exact⟨0,M,o4 _,rfl,g9 w _,G9.out,by simp,(b8 _ _).alloc (c9 _) _⟩
  case round =>
   obtain⟨k,cur,hk,rfl,D1,J1,E6,hb⟩:=hrel;have E7:=a8 E6;clear E6;by_cases G0:k<n
   ·have E2:k<ats.length:=by rw[HN.out];exact G0
    obtain⟨b,o,cap',e,_,_,L1,D2⟩:=a23.open (R1.below HV.out hb) (by omega)
    simp only[o5]at e;obtain⟨rfl,_,rfl⟩:=e;obtain⟨d0,d1,d2,d3⟩:=D2 k E2;have D9:=hs _ (o0 E2);have J2:=a8 (fun w'=>a9G ats[k].p ats[k].l ats[k].u ats[k].v D9.1 D9.2.1 D9.2.2.1 D9.2.2.2 w');have J3:(k:Int)<(n:Int):=by omega
    have E0:Hid (∀j (hj:j<4),(ats.flatMap atC)[k*4+j]? = (atC ats[k])[j]?):=fun j hj=>Q6 (f:=atC) (c:=4) (fun _=>rfl) ats k j E2 hj;generalize ats[k]=x at *;clear D2
    go_wp2_with fail
    refine(J2.out _).mono ?_;rintro e w1⟨rfl,G1⟩;have E3:=E8 G1;have D0:w1.heap[w.heap.size]? = some (.cells cur 103 (0,0)):=(E3.block _ (i3 D1)).trans D1;have L2:∀j,w1.frozen? ⟨w.heap.size,j,none⟩=false:=fun j=>by unfold World.frozen?;rw[D0];simp
    have g0:w1.cell? ⟨w.heap.size,k*4,none⟩=some cur[k*4]:=by rw[d9 w1 w.heap.size _ _ _ _ D0];exact r9 (by omega)
    have g1:w1.cell? ⟨w.heap.size,k*4+1,none⟩=some cur[k*4+1]:=by rw[d9 w1 w.heap.size _ _ _ _ D0];exact r9 (by omega)
    have g2:w1.cell? ⟨w.heap.size,k*4+2,none⟩=some cur[k*4+2]:=by rw[d9 w1 w.heap.size _ _ _ _ D0];exact r9 (by omega)
    have g3:w1.cell? ⟨w.heap.size,k*4+3,none⟩=some cur[k*4+3]:=by rw[d9 w1 w.heap.size _ _ _ _ D0];exact r9 (by omega)
    have J4:Hid (b3Z w w.heap.size 103 n 4 (ats.flatMap atC) (.int .i64 ((k+1:Nat):Int)) (((((w1.setCell ⟨w.heap.size,k*4,none⟩ (.string x.p)).setCell ⟨w.heap.size,k*4+1,none⟩ (.string x.l)).setCell ⟨w.heap.size,k*4+2,none⟩ (.string x.u)).setCell ⟨w.heap.size,k*4+3,none⟩ (.string x.v)))):=by
     refine⟨k+1,_,G0,rfl,o8 (o8 (o8 (o8 (D0)))),by simpa using J1,?_,(((((hb.trans (E3.mono hb.size)).setCell (p:=⟨w.heap.size,k*4,none⟩) (c9 _) _).setCell (p:=⟨w.heap.size,k*4+1,none⟩) (c9 _) _).setCell (p:=⟨w.heap.size,k*4+2,none⟩) (c9 _) _).setCell (p:=⟨w.heap.size,k*4+3,none⟩) (c9 _) _)⟩
     rw[show(k+1)*4=k*4+4 by omega]
     have f0:=E0.out 0 (by omega)
     have f1:=E0.out 1 (by omega)
     have f2:=E0.out 2 (by omega)
     have f3:=E0.out 3 (by omega)
     rw[Nat.add_zero]at f0;exact a06 (a06 (a06 (a06 (E7.out) (by first|omega|(simp;omega)) f0) (by first|omega|(simp;omega)) f1) (by first|omega|(simp;omega)) f2) (by first|omega|(simp;omega)) f3
    clear E3 G1;go_wp2
    go_roundw
    case rel=>exact(show Value.int .i64 ((k+1:Nat):Int)=_ by go_num) ▸ J4.out
    case measure=>simp[intOf];omega
   ·have J5:k=n:=by omega
    subst J5;have J3:¬(k:Int)<(k:Int):=by omega
    have D3:cur=(ats.flatMap atC).toArray:=by
     have h:=E7.out;rw[C0 (by rw[Array.length_toList];omega),C0 (by rw[N2 (f:=atC) (c:=4) (fun _=>rfl),HN.out];exact c9 _)]at h
     rw[<-h]
    have HF:Hid (wr.heap[w.heap.size]? = some (.cells (ats.flatMap atC).toArray 103 (0,0))):=by rw[<-D3];exact D1
    clear D3 D1;go_wp2;go_ret;exact⟨_,rfl,.inr ⟨_,rfl,c9 _,HF.out⟩,hb⟩
def n0(w:World)(b:Nat)(S:ByteArray):Prop:=∃cs t,w.heap[b]? = some (.cells cs t (0,0))/\cs[0]? = some (.string S)
structure N7(b:Nat)(R:ByteArray)(w w':World):Prop where
 os:w'.os=w.os
 tape:w'.tape=w.tape
 output:w'.output=w.output
 size:w.heap.size<=w'.heap.size
 other:∀y,y<w.heap.size->y≠b->w'.heap[y]? = w.heap[y]?
 cell:∀cs t,w.heap[b]? = some (.cells cs t (0,0))->w'.heap[b]? = some (.cells (cs.setIfInBounds 0 (.string R)) t (0,0))
theorem n0.cell{w:World}{b:Nat}{S:ByteArray}(h:n0 w b S):w.cell? ⟨b,0,none⟩=some (.string S):=by
 obtain⟨cs,t,h1,h2⟩:=h;rw[d9 w b 0 _ _ _ h1];exact h2
theorem n0.frozen{w:World}{b:Nat}{S:ByteArray}(h:n0 w b S):w.frozen? ⟨b,0,none⟩=false:=by
 obtain⟨cs,t,h1,h2⟩:=h;unfold World.frozen?;rw[h1];simp
theorem n0.lt{w:World}{b:Nat}{S:ByteArray}(h:n0 w b S):b<w.heap.size:=by
 obtain⟨cs,t,h1,h2⟩:=h;exact i3 h1
theorem n0.below{w w':World}{b:Nat}{S:ByteArray}(h:n0 w b S)(hb:Below w.heap.size w w'):n0 w' b S:=by
 obtain⟨cs,t,h1,h2⟩:=h;exact⟨cs,t,(hb.block b (i3 h1)).trans h1,h2⟩
theorem N7.trans{b:Nat}{R R':ByteArray}{w w1 w2:World}(h:N7 b R w w1)(h':N7 b R' w1 w2):N7 b R' w w2:=by
 refine⟨h'.os.trans h.os,h'.tape.trans h.tape,h'.output.trans h.output,d8 h.size h'.size,fun y hy hb=>(h'.other y (x9 hy h.size) hb).trans (h.other y hy hb),fun cs t hc => ?_⟩;rw[h'.cell _ _ (h.cell cs t hc)]
 congr 2
 apply Array.ext_getElem?
 intro i;simp only[Array.getElem?_setIfInBounds,Array.size_setIfInBounds];by_cases hi:0=i
 ·rw[g8 hi,g8 hi]
 ·rw[f6 hi,f6 hi,f6 hi]
theorem N7.at{b:Nat}{R S:ByteArray}{w w':World}(h:N7 b R w w')(hS:n0 w b S):n0 w' b R:=by
 obtain⟨cs,t,h1,h2⟩:=hS;refine⟨_,t,h.cell cs t h1,?_⟩;have:=(Array.getElem?_eq_some_iff.1 h2).1;simp[this]
theorem N7.below{b B:Nat}{R:ByteArray}{w w':World}(h:N7 b R w w')(hB:B<=b)(hs:B<=w.heap.size):Below B w w':=⟨h.os,h.tape,h.output,h.size,fun y hy=>h.other y (by omega) (by omega)⟩
theorem N7.of_below{b:Nat}{S:ByteArray}{w w':World}(hS:n0 w b S)(h:Below w.heap.size w w'):N7 b S w w':=by
 obtain⟨cs,t,h1,h2⟩:=hS;refine⟨h.os,h.tape,h.output,h.size,fun y hy _=>h.block y hy,fun cs' t' hc => ?_⟩;rw[h1]at hc;simp only[f5,Obj.cells.injEq]at hc;obtain⟨rfl,rfl,_⟩:=hc;rw[h.block b (i3 h1),h1]
 congr 2
 apply Array.ext_getElem?
 intro i;rw[Array.getElem?_setIfInBounds];by_cases hi:0=i
 ·subst hi
  rw[g8 rfl,g8 (Array.getElem?_eq_some_iff.1 h2).1,h2]
 ·rw[f6 hi]
theorem N7.refl{b:Nat}{S:ByteArray}{w:World}(hS:n0 w b S):N7 b S w w:=N7.of_below hS (b8 _ _)
theorem N7.set{b:Nat}{S:ByteArray}{w:World}(hS:n0 w b S)(R:ByteArray):N7 b R w (w.setCell ⟨b,0,none⟩ (.string R)):=by
 refine⟨rfl,rfl,rfl,by simp[World.setCell],fun y hy hb=>f7 _ _ _ _ hb,fun cs t h=>o8 h⟩
theorem b5T(S R p:ByteArray)(b:Nat)(w:World)(h:n0 w b S)(hp:S.data.toList=p.data.toList++R.data.toList):Calls Tryz.prog 110 #[.pointer (some ⟨b,0,none⟩),.string p] w fun e w'=>e=.returned (.bool true)/\N7 b R w w':=by
 have HP:=a8 (a8V S R p hp w);have c0:=h.cell;have f0:=h.frozen;have HS:=a8 (N7.set h R);clear hp h;go_enter Tryz.func110,Tryz.ntmps110
 go_wp2_with fail
 refine HP.out.mono ?_;rintro e w1⟨rfl,hw⟩;rw[hw];clear hw;go_wp2;go_ret;exact⟨rfl,HS.out⟩
theorem b4k(S p:ByteArray)(b:Nat)(w:World)(h:n0 w b S)(hp:¬∃r,S.data.toList=p.data.toList++r):Calls Tryz.prog 110 #[.pointer (some ⟨b,0,none⟩),.string p] w fun e w'=>e=.returned (.bool false)/\N7 b S w w':=by
 have HP:=a8 (a1T S p hp w);have c0:=h.cell;have f0:=h.frozen;have HS:=a8 (N7.set h S);clear hp h;go_enter Tryz.func110,Tryz.ntmps110
 go_wp2_with fail
 refine HP.out.mono ?_;rintro e w1⟨rfl,hw⟩;rw[hw];clear hw;go_wp2;go_ret;exact⟨rfl,HS.out⟩
def b7R(w:World)(s:List UInt8)(i:Value)(wr:World):Prop:=∃k:Nat,k<=s.length/\i=.int .i64 (k:Int)/\(s.take k).all X0=true/\wr=w
theorem a67{s:List UInt8}{k:Nat}{p:UInt8->Bool}(h:(s.take k).all p=true)(h':s.drop k=[]∨∃c r,s.drop k=c::r/\p c=false):s.dropWhile p=s.drop k:=by
 induction s generalizing k with
 |nil=>simp
 |cons x s ih =>
  cases k with
  |zero =>
   rcases h' with h'|⟨c,r,h',hc⟩
   ·cases h'
   ·rw[List.drop_zero]at h'
    injection h' with h1 h2
    subst h1;rw[List.drop_zero,List.dropWhile_cons,hc];rfl
  |succ k =>
   rw[List.take_succ_cons,List.all_cons,i4]at h;rw[List.dropWhile_cons,h.1,g8 rfl,List.drop_succ_cons];exact ih h.2 h'
theorem b2N(S R:ByteArray)(b:Nat)(w:World)(h:n0 w b S)(hS:S.size<=2000000)(hR:R.data.toList=S.data.toList.dropWhile X0)(B:Bool)(hB:B=decide (R.size<S.size)):Calls Tryz.prog 115 #[.pointer (some ⟨b,0,none⟩)] w fun e w'=>e=.returned (.bool B)/\N7 b R w w':=by
 have c0:=h.cell;have f0:=h.frozen;have HS:=a8 (N7.set h R);obtain⟨n,hn⟩ : ∃n,S.size=n:=⟨_,rfl⟩;have E4:S.data.toList.length=n:=by rw[<-j9];exact hn
 have D2:=a8 E4;have HR:=a8 hR;have HB:=a8 hB;clear h E4 hR hB;go_enter Tryz.func115,Tryz.ntmps115;go_wp2
 go_loopw [3] (b7R w S.data.toList) (fun i _=>n-(intOf i).toNat)
 case atStart=>exact⟨0,o4 _,rfl,rfl,rfl⟩
 case round =>
  obtain⟨k,hk,rfl,D3,hw⟩:=hrel;subst hw;have D9:=a8 D3;rw[D2.out]at hk;clear D3
  have fin:∀(h':S.data.toList.drop k=[]∨∃c r,S.data.toList.drop k=c::r/\X0 c=false),S.extract k n=R/\B=decide (0<k):=fun h'=>by
   have h1:=a67 D9.out h'
   have e:S.extract k n=R:=by
    apply G0
    rw[J5,HR.out,h1,<-D2.out,I1]
   rw[HB.out];refine⟨e,decide_eq_decide.2 ?_⟩;rw[j9,j9,HR.out,h1,B6,D2.out];omega
  by_cases E5:k<n
  ·have E1:k<S.data.toList.length:=by rw[D2.out];exact E5
   have G4:=G7 S E1;have E6:(k:Int)<(n:Int):=by omega
   have D0:S.data.toList.drop k=S.data.toList[k]::S.data.toList.drop (k+1):=B8 E1;have D1:S.data.toList.take (k+1)=S.data.toList.take k++[S.data.toList[k]]:=l8 E1;have E0:=a8 (fun w'=>a0E (S.data.toList[k].toNat:Int) w');rw[a0r]at E0;have HT:=a8 D1;have E7:=a8 D0;clear D1 D0;generalize S.data.toList[k]=c at *;cases hc:X0 c with
   |true =>
    rw[hc]at E0;have E8:Hid (b7R wr S.data.toList (.int .i64 ((k+1:Nat):Int)) wr):=⟨k+1,by rw[D2.out];exact E5,rfl,by rw[HT.out,List.all_append,D9.out];simp[hc],rfl⟩
    clear hc fin
    go_wp2_with fail
    refine(E0.out _).mono ?_;rintro e w1⟨rfl,hw⟩;rw[hw];clear hw;go_wp2
    go_roundw
    case rel=>exact(show Value.int .i64 ((k+1:Nat):Int)=_ by go_num) ▸ E8.out
    case measure=>simp[intOf];omega
   |false =>
    obtain⟨E2,E3⟩:=fin (.inr ⟨c,_,E7.out,hc⟩);clear HB;subst E3;rw[hc]at E0;clear hc fin
    go_wp2_with fail
    refine(E0.out _).mono ?_;rintro e w1⟨rfl,hw⟩;rw[hw];clear hw;have G5:(0:Int)<=(k:Int):=by omega
    go_wp2;go_ret;exact⟨rfl,HS.out⟩
  ·have G1:k=n:=by omega
   obtain⟨E2,E3⟩:=fin (.inl (List.drop_eq_nil_of_le (by rw[D2.out];omega)))
   have E6:¬(k:Int)<(n:Int):=by omega
   have he:R=ByteArray.empty:=by rw[<-E2,G1];apply G0;rw[J5];rw[List.drop_eq_nil_of_le (by rw[u0];omega)];rfl
   clear fin HB HR E2;subst E3;subst he;go_wp2;go_ret;exact⟨rfl,HS.out⟩
def K5(t s:List UInt8):Option (List UInt8×List UInt8):=if 0<=Lib.index s t then some (s.take (Lib.index s t).toNat,s.drop ((Lib.index s t).toNat+t.length))else none
theorem a1a{t s p r:List UInt8}(h:K5 t s=some (p,r)):∃n:Nat,Lib.index s t=n/\n+t.length<=s.length/\p=s.take n/\r=s.drop (n+t.length):=by
 unfold K5 at h
 split at h
 ·next h0 =>
  simp only[f5,Prod.mk.injEq]at h;have:=Lib.index_room s t h0;refine⟨(Lib.index s t).toNat,by omega,by omega,h.1.symm,h.2.symm⟩
 ·cases h
theorem b5i{t s:List UInt8}(h:K5 t s=none):Lib.index s t = -1:=by
 unfold K5 at h
 split at h
 ·cases h
 ·have:=Lib.index_ge s t;omega
theorem b0K(S T P R:ByteArray)(D0:S.size<=1000000)(h:K5 T.data.toList S.data.toList=some (P.data.toList,R.data.toList))(w:World)(hm:I3 w):Calls Tryz.prog 219 #[.string S,.string T] w fun e w'=>e=.returned (.tuple #[.string P,.string R,.bool true])/\Below w.heap.size w w':=by
 obtain⟨n,h1,h2,h3,h4⟩:=a1a h;have HI:=a8 (a3J S T w hm (by omega))
 rw[h1]at HI;rw[<-j9,<-j9]at h2;have e1:S.extract 0 n=P:=by apply G0;rw[J5,h3];simp
 have e2:S.extract (n+T.size) S.size=R:=by apply G0;rw[J5,j9,j9,I1,h4]
 obtain⟨m,hm⟩ : ∃m,T.size=m:=⟨_,rfl⟩;obtain⟨k,hk⟩ : ∃k,S.size=k:=⟨_,rfl⟩;rw[hm]at h2 e2;rw[hk]at h2 e2 D0;have c1:(n:Int)<=(k:Int):=by omega
 have c2:(n:Int)+(m:Int)<=(k:Int):=by omega
 have c4:(0:Int)<=(n:Int)+(m:Int):=by omega
 have c3:(0:Int)<=(n:Int):=by omega
 have c5:((n:Int)+(m:Int)).toNat=n+m:=by omega
 clear h h1 h3 h4;go_enter Tryz.func219,Tryz.ntmps219
 go_wp2_with fail
 refine HI.out.mono ?_;rintro e w'⟨rfl,hw⟩;rw[hw];clear hw
 go_wp2_with fail
 go_quiet (fail)
 go_wp2
 go_ret3
 exact⟨rfl,i7 (b8 _ _) _⟩
theorem a9d(S T:ByteArray)(D0:S.size<=1000000)(h:K5 T.data.toList S.data.toList=none)(w:World)(hm:I3 w):Calls Tryz.prog 219 #[.string S,.string T] w fun e w'=>e=.returned (.tuple #[.string S,.string ⟨#[]⟩,.bool false])/\Below w.heap.size w w':=by
 have HI:=a8 (a3J S T w hm (by omega))
 rw[b5i h]at HI;clear h;go_enter Tryz.func219,Tryz.ntmps219
 go_wp2_with fail
 refine HI.out.mono ?_;rintro e w'⟨rfl,hw⟩;rw[hw];clear hw;go_wp2
 go_ret3
 exact⟨rfl,b8 _ _⟩
theorem b9d(S T P R:ByteArray)(D0:S.size<=1000000)(h:K5 T.data.toList S.data.toList=some (P.data.toList,R.data.toList))(w:World)(hm:I3 w):Calls Tryz.prog 195 #[.string S,.string T] w fun e w'=>e=.returned (.tuple #[.string P,.string R,.bool true])/\Below w.heap.size w w':=by
 have HC:=a8 (b0K S T P R D0 h w hm);clear h hm;go_enter Tryz.func195,Tryz.ntmps195
 go_wp2_with fail
 refine HC.out.mono ?_;rintro e w'⟨rfl,hb⟩;go_wp2
 go_ret3
 exact⟨rfl,hb⟩
theorem b7f(S T:ByteArray)(D0:S.size<=1000000)(h:K5 T.data.toList S.data.toList=none)(w:World)(hm:I3 w):Calls Tryz.prog 195 #[.string S,.string T] w fun e w'=>e=.returned (.tuple #[.string S,.string ⟨#[]⟩,.bool false])/\Below w.heap.size w w':=by
 have HC:=a8 (a9d S T D0 h w hm);clear h hm;go_enter Tryz.func195,Tryz.ntmps195
 go_wp2_with fail
 refine HC.out.mono ?_;rintro e w'⟨rfl,hb⟩;go_wp2
 go_ret3
 exact⟨rfl,hb⟩
theorem a94(S T P R:ByteArray)(b:Nat)(w:World)(hS:n0 w b S)(hm:I3 w)(D1:S.size<=1000000)(h:K5 T.data.toList S.data.toList=some (P.data.toList,R.data.toList)):Calls Tryz.prog 155 #[.pointer (some ⟨b,0,none⟩),.string T] w fun e w'=>e=.returned (.tuple #[.string P,.bool true])/\N7 b R w w':=by
 have HC:=a8 (b9d S T P R D1 h w hm);have HS:=a8 hS;have c0:=hS.cell;clear h hS hm;go_enter Tryz.func155,Tryz.ntmps155
 go_wp2_with fail
 refine HC.out.mono ?_;rintro e w1⟨rfl,hb⟩;have D0:=HS.out.below hb;have c1:=D0.cell;have f1:=D0.frozen;have HR:=a8 ((N7.of_below HS.out hb).trans (N7.set D0 R));clear D0;go_wp2
 go_ret2
 exact⟨rfl,HR.out⟩
theorem a8z(S T:ByteArray)(b:Nat)(w:World)(hS:n0 w b S)(hm:I3 w)(D0:S.size<=1000000)(h:K5 T.data.toList S.data.toList=none):Calls Tryz.prog 155 #[.pointer (some ⟨b,0,none⟩),.string T] w fun e w'=>e=.returned (.tuple #[.string ⟨#[]⟩,.bool false])/\N7 b S w w':=by
 have HC:=a8 (b7f S T D0 h w hm);have HS:=a8 hS;have c0:=hS.cell;clear h hS hm;go_enter Tryz.func155,Tryz.ntmps155
 go_wp2_with fail
 refine HC.out.mono ?_;rintro e w1⟨rfl,hb⟩;have HR:=a8 (N7.of_below HS.out hb);go_wp2
 go_ret2
 exact⟨rfl,HR.out⟩
def n8(s:List UInt8):List UInt8:=s.dropWhile X0
def ba(l:List UInt8):ByteArray:=⟨l.toArray⟩
theorem B5(l:List UInt8):(ba l).data.toList=l:=by simp[ba]
theorem a3q(S:ByteArray):ba S.data.toList=S:=by simp[ba]
theorem I9(l:List UInt8):(ba l).size=l.length:=by rw[j9,B5]
theorem I0(s:List UInt8):(n8 s).length<=s.length:=(List.dropWhile_sublist X0).length_le
def m9(p s:List UInt8):Option (List UInt8):=if p.isPrefixOf s then some (s.drop p.length)else none
theorem I6{p s r:List UInt8}(h:m9 p s=some r):s=p++r:=by
 unfold m9 at h
 split at h
 ·next h1 =>
  rw[F0]at h1;obtain⟨t,rfl⟩:=h1;simp only[List.drop_left,f5]at h;rw[h]
 ·cases h
theorem b4q{p s:List UInt8}(h:m9 p s=none):¬∃r,s=p++r:=by
 unfold m9 at h
 split at h
 ·cases h
 ·next h1 =>
  rintro⟨r,rfl⟩;exact h1 (by rw[F0];exact F8 _ _)
theorem F2(s p r:List UInt8)(b:Nat)(w:World)(h:n0 w b (ba s))(hp:m9 p s=some r):Calls Tryz.prog 110 #[.pointer (some ⟨b,0,none⟩),.string (ba p)] w fun e w'=>e=.returned (.bool true)/\N7 b (ba r) w w' :=
 b5T _ _ _ b w h (by rw[B5,B5,B5];exact I6 hp)
theorem K9(s p:List UInt8)(b:Nat)(w:World)(h:n0 w b (ba s))(hp:m9 p s=none):Calls Tryz.prog 110 #[.pointer (some ⟨b,0,none⟩),.string (ba p)] w fun e w'=>e=.returned (.bool false)/\N7 b (ba s) w w' :=
 b4k _ _ b w h (by rw[B5,B5];exact b4q hp)
theorem D9(s:List UInt8)(b:Nat)(w:World)(h:n0 w b (ba s))(hl:s.length<=1000000):Calls Tryz.prog 115 #[.pointer (some ⟨b,0,none⟩)] w fun e w'=>e=.returned (.bool (decide ((n8 s).length<s.length)))/\N7 b (ba (n8 s)) w w' :=
 b2N _ _ b w h (by rw[I9];omega) (by rw[B5,B5];rfl) _ (by rw[I9,I9])
theorem a0e(s t p r:List UInt8)(b:Nat)(w:World)(h:n0 w b (ba s))(hm:I3 w)(hl:s.length<=1000000)(hc:K5 t s=some (p,r)):Calls Tryz.prog 155 #[.pointer (some ⟨b,0,none⟩),.string (ba t)] w fun e w'=>e=.returned (.tuple #[.string (ba p),.bool true])/\N7 b (ba r) w w' :=
 a94 _ _ _ _ b w h hm (by rw[I9];omega) (by rw[B5,B5,B5,B5];exact hc)
theorem a0f(s t:List UInt8)(b:Nat)(w:World)(h:n0 w b (ba s))(hm:I3 w)(hl:s.length<=1000000)(hc:K5 t s=none):Calls Tryz.prog 155 #[.pointer (some ⟨b,0,none⟩),.string (ba t)] w fun e w'=>e=.returned (.tuple #[.string ⟨#[]⟩,.bool false])/\N7 b (ba s) w w' :=
 a8z _ _ b w h hm (by rw[I9];omega) (by rw[B5,B5];exact hc)
theorem N7.max{b:Nat}{R S:ByteArray}{w w':World}(h:N7 b R w w')(hm:I3 w)(hS:n0 w b S):I3 w':=by
 obtain⟨m,hm⟩:=hm
 have D0 : 2≠b:=fun e=>by
  have:=hS.cell;rw[<-e,hm]at this;simp at this
 have D1 : 2 < w.heap.size:=I3.lt ⟨m,hm⟩;exact⟨m,(World.cell?_of_block (h.other _ D1 D0)).trans hm⟩
def V3(s:List UInt8):Option (List UInt8):=(m9 [61] (n8 s)).map n8
theorem G5{p s r:List UInt8}(h:m9 p s=some r):r.length<=s.length:=by rw[I6 h,e8];omega
theorem L5(s r:List UInt8)(b:Nat)(w:World)(h:n0 w b (ba s))(hl:s.length<=1000000)(he:V3 s=some r):Calls Tryz.prog 151 #[.pointer (some ⟨b,0,none⟩)] w fun e w'=>e=.returned (.bool true)/\N7 b (ba r) w w':=by
 have H1:=a8 (D9 s b w h hl);have E1:=I0 s;unfold V3 at he;obtain⟨q,hq,rfl⟩:=Option.map_eq_some_iff.1 he;have E2:=G5 hq;have H2:Hid (∀w',n0 w' b (ba (n8 s))->_):=fun w' h'=>F2 (n8 s) [61] q b w' h' hq;have H3:Hid (∀w',n0 w' b (ba q)->_):=fun w' h'=>D9 q b w' h' (by omega)
 have HS:=a8 h;clear he hq E1 E2 hl h;generalize decide ((n8 s).length<s.length)=B1 at *;generalize decide ((n8 q).length<q.length)=B2 at *;generalize n8 q=r at *;generalize n8 s=s1 at *;go_enter Tryz.func151,Tryz.ntmps151
 go_wp2_with fail
 refine H1.out.mono ?_;rintro e w1⟨rfl,D0⟩;have D1:=a8 D0;clear D0
 go_wp2_with fail
 refine(H2.out _ (D1.out.at HS.out)).mono ?_;rintro e w2⟨rfl,D2⟩;have D3:=a8 (D1.out.trans D2);clear D2
 go_wp2_with fail
 refine(H3.out _ (D3.out.at HS.out)).mono ?_;rintro e w3⟨rfl,E0⟩;have E3:=a8 (D3.out.trans E0);clear E0;go_wp2;go_ret;exact⟨rfl,E3.out⟩
theorem a1y(s:List UInt8)(b:Nat)(w:World)(h:n0 w b (ba s))(hl:s.length<=1000000)(he:V3 s=none):Calls Tryz.prog 151 #[.pointer (some ⟨b,0,none⟩)] w fun e w'=>e=.returned (.bool false)/\∃r,r.length<=s.length/\N7 b (ba r) w w':=by
 have H1:=a8 (D9 s b w h hl);have E1:=I0 s;unfold V3 at he;have hq:m9 [61] (n8 s)=none:=by simpa using he
 have H2:Hid (∀w',n0 w' b (ba (n8 s))->_):=fun w' h'=>K9 (n8 s) [61] b w' h' hq;have H3:Hid (∀w',n0 w' b (ba (n8 s))->_):=fun w' h'=>D9 (n8 s) b w' h' (by omega)
 have HS:=a8 h;have HL:Hid ((n8 (n8 s)).length<=s.length):=by have:=I0 (n8 s);show _<=_;omega
 clear he hq E1 hl h;generalize decide ((n8 s).length<s.length)=B1 at *;generalize decide ((n8 (n8 s)).length<(n8 s).length)=B2 at *;generalize n8 (n8 s)=r at *;generalize n8 s=s1 at *;go_enter Tryz.func151,Tryz.ntmps151
 go_wp2_with fail
 refine H1.out.mono ?_;rintro e w1⟨rfl,D0⟩;have D1:=a8 D0;clear D0
 go_wp2_with fail
 refine(H2.out _ (D1.out.at HS.out)).mono ?_;rintro e w2⟨rfl,D2⟩;have D3:=a8 (D1.out.trans D2);clear D2
 go_wp2_with fail
 refine(H3.out _ (D3.out.at HS.out)).mono ?_;rintro e w3⟨rfl,E0⟩;have E2:=a8 (D3.out.trans E0);clear E0;go_wp2;go_ret;exact⟨rfl,r,HL.out,E2.out⟩
def V0(s:List UInt8):Option (List UInt8×List UInt8) :=
 match m9 [39] s with
 |some r=>K5 [39] r
 |none=>match m9 [34] s with
  |some r=>K5 [34] r
  |none=>none
theorem P4{t s p r:List UInt8}(h:K5 t s=some (p,r)):p.length<=s.length/\r.length<=s.length/\p.length+t.length+r.length=s.length:=by
 obtain⟨n,_,h2,rfl,rfl⟩:=a1a h;rw[u0,B6];omega
theorem T9(s p r:List UInt8)(b:Nat)(w:World)(h:n0 w b (ba s))(hm:I3 w)(hl:s.length<=1000000)(hq:V0 s=some (p,r)):Calls Tryz.prog 152 #[.pointer (some ⟨b,0,none⟩)] w fun e w'=>e=.returned (.tuple #[.string (ba p),.bool true])/\N7 b (ba r) w w':=by
 have HS:=a8 h;have HM:=a8 hm;unfold V0 at hq;cases h1:m9 [39] s with
 |some r1 =>
  rw[h1]at hq;have hr:=G5 h1;have H1:=a8 (F2 s [39] r1 b w h h1);have H2:Hid (∀w',n0 w' b (ba r1)->I3 w'->_):=fun w' h' hm'=>a0e r1 [39] p r b w' h' hm' (by omega) hq
  clear hq h1 hr hl h hm;go_enter Tryz.func152,Tryz.ntmps152
  go_wp2_with fail
  refine H1.out.mono ?_;rintro e w1⟨rfl,D1⟩;have D0:=a8 D1;clear D1
  go_wp2_with fail
  refine(H2.out _ (D0.out.at HS.out) (D0.out.max HM.out HS.out)).mono ?_;rintro e w2⟨rfl,D2⟩;have D3:=a8 (D0.out.trans D2);clear D2;go_wp2
  go_ret2
  exact⟨rfl,D3.out⟩
 |none =>
  rw[h1]at hq;have H1:=a8 (K9 s [39] b w h h1);cases h2:m9 [34] s with
  |none=>rw[h2]at hq;cases hq
  |some r1 =>
   rw[h2]at hq;have hr:=G5 h2;have H2:Hid (∀w',n0 w' b (ba s)->_):=fun w' h'=>F2 s [34] r1 b w' h' h2;have H3:Hid (∀w',n0 w' b (ba r1)->I3 w'->_):=fun w' h' hm'=>a0e r1 [34] p r b w' h' hm' (by omega) hq
   clear hq h1 h2 hr hl h hm;go_enter Tryz.func152,Tryz.ntmps152
   go_wp2_with fail
   refine H1.out.mono ?_;rintro e w1⟨rfl,D1⟩;have D0:=a8 D1;clear D1
   go_wp2_with fail
   refine(H2.out _ (D0.out.at HS.out)).mono ?_;rintro e w2⟨rfl,D2⟩;have D3:=a8 (D0.out.trans D2);clear D2
   go_wp2_with fail
   refine(H3.out _ (D3.out.at HS.out) (D3.out.max HM.out HS.out)).mono ?_;rintro e w3⟨rfl,D9⟩;have E0:=a8 (D3.out.trans D9);clear D9;go_wp2
   go_ret2
   exact⟨rfl,E0.out⟩
end Go.Proofs.YtlgcigmolfhamaaGreatDoor
