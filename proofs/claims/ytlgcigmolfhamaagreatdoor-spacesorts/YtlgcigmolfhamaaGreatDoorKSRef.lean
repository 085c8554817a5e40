/-
  apostilleref09.Sorted. Conditions: the list lies as it is.
-/
import Derived.BigQuiet
import Derived.StillTailTactics
import Derived.Deep.CutBlock
import Derived.Test.YtlgcigmolfhamaaGreatDoorK20
import Derived.Test.YtlgcigmolfhamaaGreatDoorK32
import Derived.Test.YtlgcigmolfhamaaGreatDoorKS3
namespace Go.Proofs.YtlgcigmolfhamaaGreatDoor
open Go.RowKit
set_option linter.unusedVariables false
set_option maxRecDepth 100000
set_option maxHeartbeats 16000000
theorem c6K{g n m cap:Nat}(hm:m<=n)(hn:n<=cap):∃A',(∀W,(Instr.slice 31 (.slice (some ⟨g,0,none⟩) n cap) (some (.int .i64 (m:Int))) none none).run Tryz.prog W=.ok (.slice A' (n-m) (cap-m)) W)/\(m<n->A'=some ⟨g,m*2,none⟩):=by
 have hs:=b9O;refine⟨if cap=m then some ⟨g,0,none⟩else some ⟨g,m*2,none⟩,fun W => ?_,fun h=>by rw[f6 (by omega)]⟩
 simp[Instr.slice,run_underlying Tryz.underlying31,Instr.sliceBounds,Instr.sliceBound,asIntOf,hs,Addr.add];rw[g8 hm];by_cases h3:m=0
 ·subst h3;simp
 ·rw[f6 (show ¬(m*2=0)by omega)]
theorem c6I(W:World):(Instr.slice 31 (.slice none 0 0) (some (.int .i64 0)) none none).run Tryz.prog W=.ok (.slice none 0 0) W:=by
 have hs:=b9O;simp[Instr.slice,run_underlying Tryz.underlying31,Instr.sliceBounds,Instr.sliceBound,asIntOf,hs]
theorem c6O{W W':World}(h:Below W.heap.size W W'):W.grownBy W' none:=⟨h.os,h.tape,h.output,h.size,fun k hk _=>h.block k hk⟩
theorem c6M{w:World}{B B' e size n:Nat}{v:Value}{xs:List Value}(h:w.ownsRow B e size v n xs)(hb:B'<=B):w.ownsRow B' e size v n xs:=by
 obtain⟨hl,h |⟨g,cap,cur,h1,h2,h3⟩⟩:=h
 ·exact⟨hl,.inl h⟩
 ·exact⟨hl,.inr ⟨g,cap,cur,h1,d8 hb h2,h3⟩⟩
theorem c6G{w:World}{g B:Nat}(h:w.heap[g]? = some (.cells #[] 34 (0,0)))(hb:B<=g):w.ownsRow B 34 2 (.slice (some ⟨g,0,none⟩) 0 0) 0 [] :=
 ⟨rfl,.inr ⟨g,0,#[],rfl,hb,h,c9 _,by decide,rfl,rfl⟩⟩
def c6F(ds:List Dc)(j:Nat):List Dc:=(ds.take j).foldl (fun o x=>c3U x o) []
theorem c6H{ds:List Dc}{j:Nat}(h:j<ds.length):c6F ds (j+1)=c3U ds[j] (c6F ds j):=by
 unfold c6F;rw[l8 h,List.foldl_append];rfl
theorem c6L(ds:List Dc):c6F ds ds.length=c4k ds:=by unfold c6F c4k;rw[I1]
theorem c6N(x:Dc)(l:List Dc):(c3U x l).length=l.length+1:=(c4n x l).length_eq
theorem c6J(ds:List Dc):∀j,j<=ds.length->(c6F ds j).length=j
 |0,_=>rfl
 |j+1,h=>by rw[c6H (by omega),c6N,c6J ds j (by omega)]
theorem c6E{p:Dc->Bool}:∀{o:List Dc} {m:Nat},m<=o.length->(∀y∈o.take m,p y=true)->(∀h:m<o.length,p o[m]=false)->o.takeWhile p=o.take m/\o.dropWhile p=o.drop m
 | [],m,hm,_,_=>by simp
 |y::r,0,_,_,h=>by
  have:=h (by simp)
  simp only[List.getElem_cons_zero]at this;simp[this]
 |y::r,m+1,hm,h1,h2=>by
  have hy:p y=true:=h1 y (by simp)
  obtain⟨a,b⟩:=c6E (p:=p) (o:=r) (m:=m) (by simpa using hm) (fun z hz=>h1 z (by simp[hz])) (fun h=>by have:=h2 (by simpa using h);simpa using this)
  simp[hy,a,b]
theorem c6P(ds:List Dc)(v:Value)(w:World)(hv:a0P w w.heap.size v ds)(hn:ds.length<=100000) :
 Calls Tryz.prog 18 #[v] w fun e w' => ∃v',e=.returned v'/\w'.ownsRow w.heap.size 34 2 v' ds.length ((c4k ds).flatMap C1)/\Below w.heap.size w w':=by
 have HV:Hid (a0P w w.heap.size v ds):=hv;obtain⟨A,cap,rfl,P3,R6,_⟩:=hv;obtain⟨n,J7⟩ : ∃n,ds.length=n:=⟨_,rfl⟩;have HN:=a8 J7;rw[J7]at hn P3 ⊢;clear J7;go_enter Tryz.func18,Tryz.ntmps18
 go_wp2_with fail
 go_loopw [3,8] (fun vo i wr => ∃j:Nat,j<=n/\i=.int .i64 (j:Int)/\wr.ownsRow w.heap.size 34 2 vo j ((c6F ds j).flatMap C1)/\Below w.heap.size w wr) (fun _ i _=>n-(intOf i).toNat)
 case atStart=>exact⟨0,o4 _,rfl,r5 _ _ _ _,b8 _ _⟩
 case round =>
  obtain⟨j,hj,rfl,D9,J8⟩:=hrel;by_cases M2:j<n
  ·have M3:j<ds.length:=by rw[HN.out];exact M2
   have P4:(j:Int)<(n:Int):=by omega
   obtain⟨b,o,cap',e,_,_,M4,E6⟩:=a0P.open HV.out (by omega)
   simp only[o5]at e;obtain⟨rfl,_,rfl⟩:=e;obtain⟨cx0,cx1⟩:=E6 j M3;have HX:Hid (∀wx,Below w.heap.size w wx->wx.cell? ⟨b,o+j*2,none⟩=some (.string ds[j].p)/\wx.cell? ⟨b,o+j*2+1,none⟩=some (.string ds[j].u)):=fun wx hb=>⟨(hb.cell (p:=⟨b,o+j*2,none⟩) M4).trans cx0,(hb.cell (p:=⟨b,o+j*2+1,none⟩) M4).trans cx1⟩;have M5:Hid (c6F ds (j+1)=c3U ds[j] (c6F ds j)):=a8 (c6H M3);have J1:Hid ((c6F ds j).length=j):=a8 (c6J ds j (by rw[HN.out];exact hj))
   obtain⟨R,hR⟩ : ∃R,c6F ds j=R:=⟨_,rfl⟩;rw[hR]at M5 J1 D9;generalize ds[j]=x at *;clear E6 cx0 cx1 hR;obtain⟨A3,c3,rfl,M6,P5⟩:=q9 D9;have E0:Hid (∀wx,Below wr.heap.size wr wx->wx.ownsRow w.heap.size 34 2 (.slice A3 j c3) j (R.flatMap C1)):=fun wx hb=>D9.kept (c6O hb) (by cases A3<;>simp[Value.ownBlock])
   have J3:=a8 J8;have R7:j<=100000:=by omega
   clear D9 J8
   go_upto_block 2 with fail
   go_cut [5]from 11 to 28 (fun s5 wx => ∃m:Nat,s5=.int .i64 (m:Int)/\m<=j/\R.takeWhile (c3P x)=R.take m/\R.dropWhile (c3P x)=R.drop m/\Below wr.heap.size wr wx)
   case first =>
    go_wp2_with fail
    go_loopw [5] (fun i wq => ∃m:Nat,m<=j/\i=.int .i64 (m:Int)/\(∀y∈R.take m,c3P x y=true)/\Below wr.heap.size wr wq) (fun i _=>j-(intOf i).toNat)
    case atStart=>exact⟨0,o4 _,rfl,by simp,b8 _ _⟩
    case round =>
     obtain⟨m,hm,rfl,M7,E4⟩:=hrel;have J9:=a8 M7;clear M7;by_cases M8:m<j
     ·have J4:m<R.length:=by rw[J1.out];exact M8
      have P6:(m:Int)<(j:Int):=by omega
      obtain⟨g,cg,e3,_,_⟩:=(E0.out wr E4).form (by omega)
      simp only[o5]at e3;obtain⟨rfl,_,rfl⟩:=e3;have L0:=E0.out wr E4;have y0:=L0.cellAt (m*2) (by omega)
      have y1:=L0.cellAt (m*2+1) (by omega)
      have M9:(R.flatMap C1)[m*2+0]? = (C1 R[m])[0]?:=Q6 (f:=C1) (c:=2) (fun _=>rfl) R m 0 J4 (by omega)
      have N0:(R.flatMap C1)[m*2+1]? = (C1 R[m])[1]?:=Q6 (f:=C1) (c:=2) (fun _=>rfl) R m 1 J4 (by omega)
      rw[<-Nat.add_zero (m*2),M9,Nat.add_zero]at y0;rw[N0]at y1;have P7:Hid (R.take (m+1)=R.take m++[R[m]]):=a8 (l8 J4);have P8:Hid (c3P x R[m]=false->R.takeWhile (c3P x)=R.take m/\R.dropWhile (c3P x)=R.drop m):=fun h=>c6E (A6 J4) J9.out (fun _=>h);obtain⟨x0,x1⟩:=HX.out wr (J3.out.trans (E4.mono J3.out.size));generalize R[m]=y at *;change wr.cell? ⟨g,m*2,none⟩=some (.string y.p)at y0;change wr.cell? ⟨g,m*2+1,none⟩=some (.string y.u)at y1;have P9:=a8 (fun W=>c4G x y W);have L1:=a8 E4;clear M9 N0 L0 E4
      go_upto_region 6 with fail
      go_still_tail 13,(by kernel_rfl)
      change wpList _ _ _ _ _ wr.drew;have N1:Below _ _ wr.drew:=L1.out.drew;have N3:=a8 N1;generalize wr.drew=w2 at *;clear N1 y0 y1 x0 x1
      go_wp2_with fail
      refine(P9.out _).mono ?_;rintro e w3⟨rfl,N4⟩;have J5:=a8 (N3.out.trans (N4.mono N3.out.size));clear N4;cases hq:decide (T3 x y<0)with
      |true =>
       have L2:c3P x y=false:=by unfold c3P;rw[hq];rfl
       have HF:=a8 (P8.out L2)
       go_wp2_with fail
       go_meet
       exact⟨m,rfl,hm,HF.out.1,HF.out.2,J5.out⟩
      |false =>
       have L2:c3P x y=true:=by unfold c3P;rw[hq];rfl
       have HF:Hid (∀z∈R.take (m+1),c3P x z=true):=fun z hz=>by
        rw[P7.out,D6,r8]at hz;rcases hz with hz|rfl
        ·exact J9.out z hz
        ·exact L2
       go_wp2_with fail
       go_roundw
       case rel=>exact⟨m+1,M8,by first|rfl|simp,HF.out,J5.out⟩
       case measure=>simp[intOf];omega
     ·have R0:m=j:=by omega
      subst R0;have P6:¬(m:Int)<(m:Int):=by omega
      have HF:=a8 (c6E (p:=c3P x) (o:=R) (m:=m) (by rw[J1.out];exact c9 _) J9.out (fun h=>by rw[J1.out]at h;omega))
      have L1:Hid (∀q,Below _ _ (wr.drewN q)):=fun q=>⟨E4.os,E4.tape,E4.output,E4.size,E4.block⟩
      go_upto_region 6 with fail
      go_quiet (fail)
      go_wp2_with fail
      go_meet
      exact⟨m,rfl,c9 _,HF.out.1,HF.out.2,L1.out _⟩
   case rest =>
    obtain⟨m,rfl,hm,N5,N6,E8⟩:=hcut;have N7:=E0.out wc E8;have R8:∀W,(Instr.slice 31 (.slice A3 j c3) none (some (.int .i64 (m:Int))) none).run Tryz.prog W=.ok (.slice A3 m c3) W:=fun W=>b0e Tryz.underlying31 b9O hm M6 W
    obtain⟨A4,R9,N8⟩ : ∃A4,(∀W,(Instr.slice 31 (.slice A3 j c3) (some (.int .i64 (m:Int))) none none).run Tryz.prog W=.ok (.slice A4 (j-m) (c3-m)) W)/\(0<j-m->∃g,A3=some ⟨g,0,none⟩/\A4=some ⟨g,m*2,none⟩):=by
     rcases N7.2 with⟨h,h0⟩|⟨g,cap,cur,h,_⟩
     ·simp only[o5]at h
      obtain⟨rfl,rfl,rfl⟩:=h;obtain rfl:m=0:=by omega
      exact⟨none,fun W=>c6I W,fun h=>by omega⟩
     ·simp only[o5]at h
      obtain⟨rfl,_,_⟩:=h;obtain⟨A4,h1,h2⟩:=c6K (g:=g) hm M6;exact⟨A4,h1,fun h=>⟨g,rfl,h2 (by omega)⟩⟩
    have G8:=J1.out
    have SL1:Hid (∀W,Below wc.heap.size wc W->R1 W W.heap.size (.slice A3 m c3) m ((R.take m).flatMap C1)):=fun W hb=>by
     refine⟨A3,c3,rfl,by omega,P5,fun J6 => ?_⟩
     have N9:0<m:=Nat.pos_of_ne_zero (fun h=>by subst h;simp at J6)
     have J2:=E0.out W (E8.trans (hb.mono E8.size));obtain⟨g,cg,e3,_,L3⟩:=J2.form (by omega)
     simp only[o5]at e3;obtain⟨rfl,_,rfl⟩:=e3;refine⟨g,0,rfl,L3,fun i hi => ?_⟩;rw[N2 (f:=C1) (c:=2) (fun _=>rfl),u0,G8]at hi
     have hx:((R.take m).flatMap C1)[i]? = (R.flatMap C1)[i]?:=by
      rw[<-a43 (f:=C1) (c:=2) (fun _=>rfl) R m,List.getElem?_take_of_lt (by omega)]
     rw[F5,J2.cellAt i (by omega),<-hx]
     exact i5 _
    have SL2:Hid (∀W,Below wc.heap.size wc W->R1 W W.heap.size (.slice A4 (j-m) (c3-m)) (j-m) ((R.drop m).flatMap C1)):=fun W hb=>by
     refine⟨A4,c3-m,rfl,by omega,by omega,fun J6 => ?_⟩
     have N9:0<j-m:=Nat.pos_of_ne_zero (fun h=>by
      have:R.drop m=[]:=List.drop_eq_nil_of_le (by omega)
      rw[this]at J6;simp at J6)
     have J2:=E0.out W (E8.trans (hb.mono E8.size));obtain⟨g',e3,rfl⟩:=N8 N9;obtain⟨g,cg,e4,_,L3⟩:=J2.form (by omega)
     subst e3;simp only[o5,f5,Addr.mk.injEq]at e4;obtain⟨⟨rfl,_⟩,_,rfl⟩:=e4;refine⟨_,m*2,rfl,L3,fun i hi => ?_⟩;rw[N2 (f:=C1) (c:=2) (fun _=>rfl),B6,G8]at hi
     have R2:(R.drop m).flatMap C1=(R.flatMap C1).drop (m*2):=by
      conv=>rhs;rw[<-I5 m R,D8]
      have hl:((R.take m).flatMap C1).length=m*2:=by rw[N2 (f:=C1) (c:=2) (fun _=>rfl),u0,G8,Nat.min_eq_left hm]
      rw[<-hl,List.drop_left]
     rw[J2.cellAt (m*2+i) (by omega)]
     simp only[R2];rw[List.getElem_drop,i5 (by rw[N2 (f:=C1) (c:=2) (fun _=>rfl),G8];omega)]
    have G9:=a8 (J3.out.trans (E8.mono J3.out.size));have R3:Hid (c3U x R=R.take m++[x]++R.drop m):=a8 (by unfold c3U;rw[N5,N6];simp)
    clear N7 E8 N5 N6 N8
    go_upto_region 8 with fail
    obtain⟨i0,G0,G1,G4,G5⟩:=info_parts a0W;obtain⟨x0,x1⟩:=HX.out wc G9.out;have bA:Below wc.heap.size wc ((wc.alloc (.cells #[] 34)).drew):=((b8 _ _).alloc (c9 _) _).drew;have bB:Below wc.heap.size wc (((wc.alloc (.cells #[] 34)).alloc (.cells #[.string x.p,.string x.u] 34)).drew):=(((b8 _ _).alloc (c9 _) _).alloc (by simp) _).drew
    have bC:Below wc.heap.size wc (((wc.alloc (.cells #[.string x.p,.string x.u] 34)).alloc (.cells #[] 34)).drew):=(((b8 _ _).alloc (c9 _) _).alloc (by simp) _).drew
    have bD:Below wc.heap.size wc ((wc.alloc (.cells #[.string x.p,.string x.u] 34)).drew):=((b8 _ _).alloc (c9 _) _).drew;have E5:Hid (∀wx,Below wc.heap.size wc wx->wx.cell? ⟨b,o+j*2,none⟩=some (.string x.p)/\wx.cell? ⟨b,o+j*2+1,none⟩=some (.string x.u)):=fun wx hb=>HX.out wx (G9.out.trans (hb.mono G9.out.size));obtain⟨xa0,xa1⟩:=E5.out _ bA;obtain⟨xb0,xb1⟩:=E5.out _ bB;obtain⟨xc0,xc1⟩:=E5.out _ bC;obtain⟨xd0,xd1⟩:=E5.out _ bD;have oA:((wc.alloc (.cells #[] 34)).drew).ownsRow wc.heap.size 34 2 (.slice (some ⟨wc.heap.size,0,none⟩) 0 0) 0 []:=c6G (show(wc.alloc (.cells #[] 34)).heap[wc.heap.size]? = _ from g9 wc _) (c9 _);have oB:(((wc.alloc (.cells #[] 34)).alloc (.cells #[.string x.p,.string x.u] 34)).drew).ownsRow wc.heap.size 34 2 (.slice (some ⟨wc.heap.size,0,none⟩) 0 0) 0 []:=c6G (show((wc.alloc (.cells #[] 34)).alloc (.cells #[.string x.p,.string x.u] 34)).heap[wc.heap.size]? = _ from(Below.heap_alloc _ _ _ (by simp)).trans (g9 wc _)) (c9 _)
    have oC:(((wc.alloc (.cells #[.string x.p,.string x.u] 34)).alloc (.cells #[] 34)).drew).ownsRow wc.heap.size 34 2 (.slice (some ⟨wc.heap.size+1,0,none⟩) 0 0) 0 []:=c6G (show((wc.alloc (.cells #[.string x.p,.string x.u] 34)).alloc (.cells #[] 34)).heap[wc.heap.size+1]? = _ from by have h:=g9 (wc.alloc (.cells #[.string x.p,.string x.u] 34)) (.cells #[] 34);rw[World.size_alloc]at h;exact h) (by omega)
    have nB:(((wc.alloc (.cells #[] 34)).alloc (.cells #[.string x.p,.string x.u] 34)).drew).heap[wc.heap.size+1]? = some (.cells #[.string x.p,.string x.u] 34 (0,0)):=(show((wc.alloc (.cells #[] 34)).alloc (.cells #[.string x.p,.string x.u] 34)).heap[wc.heap.size+1]? = _ from by have h:=g9 (wc.alloc (.cells #[] 34)) (.cells #[.string x.p,.string x.u] 34);rw[World.size_alloc]at h;exact h)
    have nC:(((wc.alloc (.cells #[.string x.p,.string x.u] 34)).alloc (.cells #[] 34)).drew).heap[wc.heap.size]? = some (.cells #[.string x.p,.string x.u] 34 (0,0)):=(show((wc.alloc (.cells #[.string x.p,.string x.u] 34)).alloc (.cells #[] 34)).heap[wc.heap.size]? = _ from(Below.heap_alloc _ _ _ (by simp)).trans (g9 wc _))
    have OA:=a8 oA;have OB:=a8 oB;have OC:=a8 oC;have NB:=a8 nB;have NC:=a8 nC;have BA:=a8 bA;have BB:=a8 bB;have BC:=a8 bC;have len1:((R.take m).flatMap C1).length=m*2:=by rw[N2 (f:=C1) (c:=2) (fun _=>rfl),u0,G8,Nat.min_eq_left hm]
    have len2:((R.drop m).flatMap C1).length=(j-m)*2:=by rw[N2 (f:=C1) (c:=2) (fun _=>rfl),B6,G8]
    have LnA:=a8 len1;have LnB:=a8 len2;have P0:0+m<=maxLen:=by unfold maxLen;omega
    have P1:0+m+1<=maxLen:=by unfold maxLen;omega
    have P2:0+m+1+(j-m)<=maxLen:=by unfold maxLen;omega
    have L4:=a8 (show(0+m)*32<=140737488355328 by omega)
    have L5:=a8 (show(0+m+1)*32<=140737488355328 by omega)
    have J5:=a8 (show(0+m+1+(j-m))*32<=140737488355328 by omega)
    have L6:=a8 P0;have L7:=a8 P1;have R4:=a8 P2
    have L8:Hid (∀(wd:World) (v3:Value),wd.ownsRow wc.heap.size 34 2 v3 (0+m+1+(j-m)) ([]++(R.take m).flatMap C1++C1 x++(R.drop m).flatMap C1)->Below wc.heap.size wc wd->wd.ownsRow w.heap.size 34 2 v3 (j+1) ((c6F ds (j+1)).flatMap C1)/\Below w.heap.size w wd):=fun wd v3 h1 h2=>by
     refine⟨?_,G9.out.trans (h2.mono G9.out.size)⟩;have h3:=c6M h1 G9.out.size;rw[show 0+m+1+(j-m)=j+1 by omega]at h3
     rw[M5.out,R3.out];simpa using h3
    clear len1 len2 P0 P1 P2 bA bB bC bD oA oB oC nB nC
    go_region_law (first
     |(refine U3 (P:=Tryz.prog) rfl (.tmp 29) (.tmp 32) 31 rfl wc.heap.size 34 i0 _ 2 _ Tryz.underlying31 G0 G1 G4 G5 rfl (by omega) (.slice (some ⟨wc.heap.size,0,none⟩) 0 0) 0 [] rfl OA.out m (.slice A3 m c3) rfl ((R.take m).flatMap C1) (b4g (k:=2) (SL1.out _ BA.out) (by decide) LnA.out) LnA.out (b9b _) L6.out L4.out BA.out.size ?_;intro v1 wa D1 D0 G6;have bw1:=Below.grown BA.out D0 BA.out.size (fun k hk=>((OA.out).lt k hk).1);obtain⟨ya0,ya1⟩:=E5.out wa bw1;obtain⟨za0,za1⟩:=E5.out (wa.alloc (.cells #[.string x.p,.string x.u] 34)) (bw1.alloc bw1.size _))
     |(refine U3 (P:=Tryz.prog) rfl (.tmp 29) (.tmp 32) 31 rfl wc.heap.size 34 i0 _ 2 _ Tryz.underlying31 G0 G1 G4 G5 rfl (by omega) (.slice (some ⟨wc.heap.size,0,none⟩) 0 0) 0 [] rfl OB.out m (.slice A3 m c3) rfl ((R.take m).flatMap C1) (b4g (k:=2) (SL1.out _ BB.out) (by decide) LnA.out) LnA.out (b9b _) L6.out L4.out BB.out.size ?_;intro v1 wa D1 D0 G6;have bw1:=Below.grown BB.out D0 BB.out.size (fun k hk=>((OB.out).lt k hk).1);obtain⟨ya0,ya1⟩:=E5.out wa bw1;obtain⟨za0,za1⟩:=E5.out (wa.alloc (.cells #[.string x.p,.string x.u] 34)) (bw1.alloc bw1.size _);have L9:=(D0.block (wc.heap.size+1) (i3 NB.out) (by simp[Value.ownBlock])).trans NB.out)
     |(refine U3 (P:=Tryz.prog) rfl (.tmp 29) (.tmp 32) 31 rfl wc.heap.size 34 i0 _ 2 _ Tryz.underlying31 G0 G1 G4 G5 rfl (by omega) (.slice (some ⟨wc.heap.size+1,0,none⟩) 0 0) 0 [] rfl OC.out m (.slice A3 m c3) rfl ((R.take m).flatMap C1) (b4g (k:=2) (SL1.out _ BC.out) (by decide) LnA.out) LnA.out (b9b _) L6.out L4.out BC.out.size ?_;intro v1 wa D1 D0 G6;have bw1:=Below.grown BC.out D0 BC.out.size (fun k hk=>((OC.out).lt k hk).1);obtain⟨ya0,ya1⟩:=E5.out wa bw1;obtain⟨za0,za1⟩:=E5.out (wa.alloc (.cells #[.string x.p,.string x.u] 34)) (bw1.alloc bw1.size _);have L9:=(D0.block wc.heap.size (i3 NC.out) (by simp[Value.ownBlock])).trans NC.out)
     |(refine U3 (P:=Tryz.prog) rfl (.tmp 33) (.tmp 38) 31 rfl wc.heap.size 34 i0 _ 2 _ Tryz.underlying31 G0 G1 G4 G5 rfl (by omega) v1 (0+m) ([]++(R.take m).flatMap C1) rfl (D1.alloc _) 1 (.slice (some ⟨wa.heap.size,0,none⟩) 1 1) rfl (C1 x) (.inr ⟨_,1,rfl,World.news_of_block (g9 wa _)⟩) rfl (by simp[C1,Value.oneCell']) L7.out L5.out (by rw[World.size_alloc];exact Nat.le_succ_of_le bw1.size) ?_;intro v2 wb D3 D2 G7;have bw2:=Below.grown (bw1.alloc bw1.size _) D2 (by rw[World.size_alloc];exact Nat.le_succ_of_le bw1.size) (fun k hk=>(D1.lt k hk).1))
     |(refine U3 (P:=Tryz.prog) rfl (.tmp 33) (.tmp 38) 31 rfl wc.heap.size 34 i0 _ 2 _ Tryz.underlying31 G0 G1 G4 G5 rfl (by omega) v1 (0+m) ([]++(R.take m).flatMap C1) rfl D1 1 (.slice (some ⟨wc.heap.size+1,0,none⟩) 1 1) rfl (C1 x) (.inr ⟨_,1,rfl,World.news_of_block L9⟩) rfl (by simp[C1,Value.oneCell']) L7.out L5.out bw1.size ?_;intro v2 wb D3 D2 G7;have bw2:=Below.grown bw1 D2 bw1.size (fun k hk=>(D1.lt k hk).1))
     |(refine U3 (P:=Tryz.prog) rfl (.tmp 33) (.tmp 38) 31 rfl wc.heap.size 34 i0 _ 2 _ Tryz.underlying31 G0 G1 G4 G5 rfl (by omega) v1 (0+m) ([]++(R.take m).flatMap C1) rfl D1 1 (.slice (some ⟨wc.heap.size,0,none⟩) 1 1) rfl (C1 x) (.inr ⟨_,1,rfl,World.news_of_block L9⟩) rfl (by simp[C1,Value.oneCell']) L7.out L5.out bw1.size ?_;intro v2 wb D3 D2 G7;have bw2:=Below.grown bw1 D2 bw1.size (fun k hk=>(D1.lt k hk).1))
     |(refine U3 (P:=Tryz.prog) rfl (.tmp 39) (.tmp 42) 31 rfl wc.heap.size 34 i0 _ 2 _ Tryz.underlying31 G0 G1 G4 G5 rfl (by omega) v2 (0+m+1) ([]++(R.take m).flatMap C1++C1 x) rfl D3 (j-m) (.slice A4 (j-m) (c3-m)) rfl ((R.drop m).flatMap C1) (b4g (k:=2) (SL2.out _ bw2) (by decide) LnB.out) LnB.out (b9b _) R4.out J5.out bw2.size ?_;intro v3 wd E7 E3 M0;have bw3:=Below.grown bw2 E3 bw2.size (fun k hk=>(D3.lt k hk).1);obtain⟨e1,e2⟩:=L8.out wd v3 E7 bw3;have E1:=a8 e1;have E2:=a8 e2;clear D1 D0 G6 bw1 ya0 ya1 za0 za1 D3 D2 G7 bw2 E7 E3 M0 bw3 e1 e2))
    all_goals
     obtain⟨A5,c5,rfl,_,_⟩:=q9 E1.out;go_wp2
     go_roundw
     case rel=>exact⟨j+1,M2,by first|rfl|simp,E1.out,E2.out⟩
     case measure=>simp[intOf];omega
  ·have R5:j=n:=by omega
   subst R5;have P4:¬(j:Int)<(j:Int):=by omega
   have M1:wr.ownsRow w.heap.size 34 2 u3 j ((c4k ds).flatMap C1):=by rw[<-c6L,HN.out];exact D9
   go_wp2;go_ret;exact⟨_,rfl,M1,J8⟩
end Go.Proofs.YtlgcigmolfhamaaGreatDoor
