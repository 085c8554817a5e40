/-
  (*scope).begin: declarations are laid upon those that are open. Conditions: the scope lies as it is, the list too; there are not too many, the texts are not too long.
-/
import Derived.Test.YtlgcigmolfhamaaGreatDoorK12
import Derived.Deep.RegionHeld3
import Derived.Deep.DrawnRows
import Derived.StillTailTactics
import Derived.BigRegion
import Derived.Deep.RegionLaw
import Derived.Deep.DeepCutAuto
import Derived.Deep.LoopGhost
namespace Go.Proofs.YtlgcigmolfhamaaGreatDoor
open Go.RowKit Go.Maps Go.WideMaps
set_option linter.unusedVariables false
set_option maxRecDepth 100000
set_option maxHeartbeats 16000000
theorem b3v{w:World}{b1 o1 b2 o2:Nat}{v:Value}(h:b1≠b2∨o1≠o2):(w.setCell ⟨b1,o1,none⟩ v).cell? ⟨b2,o2,none⟩=w.cell? ⟨b2,o2,none⟩:=by
 refine World.cell?_setCell_other _ _ _ _ ?_;intro e;simp at e;omega
def c1l(w:World)(B sb mb N x:Nat)(O:Obj)(S ds:List Dc)(g:Nat)(i:Value)(wr:World):Prop :=
 ∃k:Nat,k+g=ds.length/\i=.int .i64 k/\Sc wr B sb mb (N+k) x O ((ds.take k).reverse++S)/\Below B w wr
structure Mid(w:World)(B sb mb M q x:Nat)(O:Obj)(S:List Dc)(d:Dc)(D:DataW Unit)(v:Value)(wx:World):Prop where
 c0:wx.cell? ⟨sb,0,none⟩=some v
 c1:wx.cell? ⟨sb,1,none⟩=some (.map (some mb))
 f0:wx.frozen? ⟨sb,0,none⟩=false
 own:wx.ownsRow B 210 2 v (S.length+1) (a0D (d::S))
 map:wx.ownsMap Tryz.prog 9 (plainElem Tryz.prog 3) mb M D
 n1:v.ownBlock≠some sb
 n2:v.ownBlock≠some mb
 q0:wx.cell? ⟨q,0,none⟩=some (.string d.p)
 bel:Below B w wx
 xv:v.ownBlock≠some x
 xk:wx.heap[x]? = some O
theorem c0d{w W W1 w1:World}{B sb mb M q x gg cap:Nat}{O:Obj}{S:List Dc}{d:Dc}{D:DataW Unit}{v:Value}(hA:ScA W1 B sb mb M x O S v D)(hb:Below B w W1)(hB:B<=W1.heap.size)(q0:W1.cell? ⟨q,0,none⟩=some (.string d.p))(E2:sb≠q)(E3:v.ownBlock≠some q)
 (o:Obj) (hW:W.heap=(W1.alloc o).heap) (D3:Below W1.heap.size W1 W)
 (D1:w1.ownsRow B 210 2 (.slice (some ⟨gg,0,none⟩) (S.length+1) cap) (S.length+1) (a0D (d::S))) (hg:W.grownBy w1 v.ownBlock) (D2:v.ownBlock=some gg∨gg=W1.heap.size+1) :
 Mid w B sb mb M q x O S d D (.slice (some ⟨gg,0,none⟩) (S.length+1) cap) (w1.setCell ⟨sb,0,none⟩ (.slice (some ⟨gg,0,none⟩) (S.length+1) cap)):=by
 have G1:W.heap.size=W1.heap.size+1:=by rw[hW];simp
 have D9:=hA.lt;have E4:=hA.map.lt;have E5:=World.block_lt_of_cell? W1 _ q0
 have E0:gg≠sb:=by
  rcases D2 with h|h
  ·intro e;exact hA.n1 (by rw[h,e])
  ·omega
 have E6:gg≠mb:=by
  rcases D2 with h|h
  ·intro e;exact hA.n2 (by rw[h,e])
  ·omega
 have E7:=i3 hA.xk
 have E8:gg≠x:=by
  rcases D2 with h|h
  ·intro e;exact hA.xv (by rw[h,e])
  ·omega
 have D0:∀g,g<W1.heap.size->v.ownBlock≠some g->w1.heap[g]? = W1.heap[g]?:=fun g G0 hn=>(hg.block g (by omega) (fun e=>hn e.symm)).trans (D3.block g G0)
 have E1:∀j u,W1.cell? ⟨sb,j,none⟩=some u->w1.cell? ⟨sb,j,none⟩=some u:=fun j u h=>(World.cell?_of_block (w:=W1) (D0 sb D9 hA.n1)).trans h;refine⟨World.cell?_setCell_same _ _ _ (E1 0 _ hA.c0),?_,?_,?_,?_,?_,?_,?_,?_,?_,?_⟩
 ·exact(b3v (.inr (by omega))).trans (E1 1 _ hA.c1)
 ·exact(World.frozen?_setCell _ _ _ _).trans ((World.frozen?_of_block (w:=W1) (D0 sb D9 hA.n1)).trans hA.f0)
 ·exact a0h D1 (fun g h=>by
   simp[Value.ownBlock]at h;subst h;exact f7 _ _ _ _ E0)
 ·exact a02 hA.map ((f7 _ _ _ _ (Ne.symm hA.ne)).trans (D0 mb E4 hA.n2))
 ·simp[Value.ownBlock];exact E0
 ·simp[Value.ownBlock];exact E6
 ·exact(b3v (.inl E2)).trans ((World.cell?_of_block (w:=W1) (D0 q E5 E3)).trans q0)
 ·exact((hb.trans (D3.mono hB)).grown hg (by omega) (fun k hk=>(a2E hA.own hk).1)).setCell (p:=⟨sb,0,none⟩) hA.b1 _
 ·simp[Value.ownBlock];exact E8
 ·exact(f7 _ _ _ _ hA.xs).trans ((D0 x E7 hA.xv).trans hA.xk)
theorem a8q(B sb mb N x:Nat)(O:Obj)(S ds:List Dc)(vd:Value)(w:World)(J7:Sc w B sb mb N x O S)(hB:B<=w.heap.size)(hd:a0P w B vd ds)(hN:N<=1000000000000)(hS:S.length<=1000000000000)(hn:ds.length<=2000000)(hs:∀d∈ds,d.p.size<=2000000) :
 Calls Tryz.prog 174 #[.pointer (some ⟨sb,0,none⟩),vd] w fun e w'=>e=.returned (.tuple #[])/\Sc w' B sb mb (N+ds.length) x O (ds.reverse++S)/\Below B w w':=by
 have HD:Hid (a0P w B vd ds):=hd;have L3:=a8 J7;obtain⟨A,cap,rfl,L4,N3,_⟩:=hd;obtain⟨n,G6⟩ : ∃n,ds.length=n:=⟨_,rfl⟩;have HN:=a8 G6;rw[G6]at hn L4 ⊢;obtain⟨i0,L5,L6,L7,L8⟩:=info_parts b7d;clear G6 J7;go_enter Tryz.func174,Tryz.ntmps174;go_wp2
 go_loopg [8] n (c1l w B sb mb N x O S ds)
 case atStart=>exact⟨0,by rw[HN.out];omega,rfl,L3.out,b8 _ _⟩
 case round =>
  obtain⟨k,hk,rfl,⟨v,D,hA⟩,hb⟩:=hrel;rw[HN.out]at hk;cases gk with
  |succ g =>
   have L9:k<n:=by omega
   have G7:k<ds.length:=by rw[HN.out];exact L9
   obtain⟨b,o,cap',e,_,_,N4,E5⟩:=a0P.open (R1.below HD.out hb) (by omega)
   simp only[o5]at e;obtain⟨rfl,_,rfl⟩:=e;obtain⟨d0,d1⟩:=E5 k G7;have G4:=hs _ (o0 G7);have M0:(k:Int)<(n:Int):=by omega
   obtain⟨d,G8⟩ : ∃d,ds[k]=d:=⟨_,rfl⟩;rw[G8]at d0 d1 G4
   have J8:Hid ((ds.take (k+1)).reverse++S=d::((ds.take k).reverse++S)):=by
    show _=_
    rw[l8 G7,G8];simp
   generalize G9:(ds.take k).reverse++S=Sk at hA J8;have J1:Sk.length<=1000002000000:=by rw[<-G9];simp;omega
   have N5:Hid (Sk.length=k+S.length):=by rw[<-G9];simp[Hid];omega
   have hL:=hA.lookup d.p G4;have c0:=hA.c0;have c1:=hA.c1;have f0:=hA.f0;have E0:=hA.lt;have E1:=hA.own;have E2:B<=wr.heap.size:=d8 hB hb.size;have HA:=a8 hA;have HB:=a8 hb;clear E5 G8 G9 hA hb;go_wp2;obtain⟨W1,E8⟩ : ∃W1,wr.alloc (Obj.cells #[Value.string d.p,Value.string d.u] 34)=W1:=⟨_,rfl⟩;have G5:Below wr.heap.size wr W1:=by rw[<-E8];exact(b8 _ _).alloc (c9 _) _
   have q0:W1.cell? ⟨wr.heap.size,0,none⟩=some (.string d.p):=by rw[<-E8];exact v8 (j:=0) (b8 _ _) rfl
   have q1:W1.cell? ⟨wr.heap.size,1,none⟩=some (.string d.u):=by rw[<-E8];exact v8 (j:=1) (b8 _ _) rfl
   have D2:=HA.out.later G5;have M1:wr.heap.size<W1.heap.size:=by rw[<-E8];simp
   rw[E8];have M2:sb≠wr.heap.size:=Nat.ne_of_lt E0;have N6:mb≠wr.heap.size:=Nat.ne_of_lt HA.out.map.lt;have M3:v.ownBlock≠some wr.heap.size:=fun h=>by have:=(a2E HA.out.own h).2;omega
   have M4:Hid (Below B w W1):=HB.out.trans (G5.mono E2);have J9:Hid (B<=W1.heap.size):=d8 E2 G5.size;clear hL c0 c1 f0 E1 d0 d1 E8 G5 HB HA E0;generalize wr.heap.size=q at *;have c0:=D2.c0;have c1:=D2.c1;have f0:=D2.f0;have E0:=D2.lt;have E1:=D2.own
   have hL:∀x:World,x.heap[mb]? = W1.heap[mb]?->(Instr.lookup 90 (.map (some mb)) (.string d.p) false).run Tryz.prog x=.ok (.int .i64 (nrS Sk d.p.data.toList:Nat)) x:=fun x hx=>by
    obtain⟨c,J2,G0,_⟩:=(a02 D2.map hx).lookup_int b6J Tryz.underlying90 Tryz.underlying3 (b9o x) (b6K d.p G4);rw[D2.look]at G0;simp at G0;rw[J2,G0]
   have L0:=hL W1 rfl;have M5:=D2.map.lt;have n1:=D2.n1;have N7:=D2.ne;have n2:=D2.n2;have D9:=a8 D2;clear D2 E2;have L1:=a8 hL;clear hL;obtain⟨nr,J3⟩ : ∃nr,nrS Sk d.p.data.toList=nr:=⟨_,rfl⟩;obtain⟨sl,J4⟩ : ∃sl,Sk.length=sl:=⟨_,rfl⟩;rw[J3]at L1 L0;rw[J4]at E1 J1;have M6:=a8 J3;have E4:=a8 J4;clear J3 J4;have HF:Hid (∀(o:Obj) (j:Nat) u,W1.cell? ⟨sb,j,none⟩=some u->(W1.alloc o).drew.cell? ⟨sb,j,none⟩=some u):=fun o j u h=>(((b8 _ W1).alloc (c9 _) o).cell (p:=⟨sb,j,none⟩) E0).trans h;have HZ:Hid (∀(o:Obj),(W1.alloc o).drew.frozen? ⟨sb,0,none⟩=false):=fun o=>(((b8 _ W1).alloc (c9 _) o).frozen (p:=⟨sb,0,none⟩) E0).trans f0;have J5:∀o:Obj,(W1.alloc o).cell? ⟨sb,0,none⟩=some v:=fun o=>HF.out o 0 v c0;have M7:=L1.out W1.drew rfl
   go_cut [] (fun wx => ∃v',Mid w B sb mb (N+k) q x O Sk d D v' wx)
   case first =>
    have J6:Hid (∀(w1:World) (gg cap:Nat) (o:Obj),w1.ownsRow B 210 2 (.slice (some ⟨gg,0,none⟩) (sl+1) cap) (sl+1) (a0D Sk++[.string d.u,.int .i64 (nr:Nat)])->(W1.alloc o).drew.grownBy w1 v.ownBlock->(v.ownBlock=some gg∨gg=W1.heap.size+1) ->
     ∃v',Mid w B sb mb (N+k) q x O Sk d D v' (w1.setCell ⟨sb,0,none⟩ (.slice (some ⟨gg,0,none⟩) (sl+1) cap))):=fun w1 gg cap o h1 h2 h3=>by
     rw[<-M6.out,<-E4.out]at h1;rw[<-E4.out];exact⟨_,c0d (W:=(W1.alloc o).drew) D9.out M4.out J9.out q0 M2 M3 o rfl (((b8 _ W1).alloc (c9 _) o).drew) h1 h2 h3⟩
    go_region_law
     ((refine step_append_lies _ (by rfl) _ _ _ (by rfl) B 210 i0 _ 2 24 Tryz.underlying187 L5 L6 L7 L8 rfl (by omega) v sl (a0D Sk) (by rfl) ((E1.alloc _).drew)
        ⟨W1.heap.size,0,none⟩ 1 1 [.string d.u,.int .i64 (nr:Nat)] (by rfl) (by rfl) (World.news_of_block (cs:=#[.string d.u,.int .i64 (nr:Nat)]) (t:=210) (fr:=(0,0)) (heap_alloc_new W1 _)) (by simp[Value.oneCell'])
        (by omega) (by unfold maxLen;omega) (by omega) (by have:=J9.out;simp;omega) (W1.heap.size+1) (by simp) ?_;intro gg cap w1 D1 E3 G0 M8;have k0:=(E3.cell_far ⟨sb,0,none⟩ (by simp;omega) (Ne.symm n1)).trans (HF.out _ 0 _ c0);have k1:=(E3.frozen_far ⟨sb,0,none⟩ (by simp;omega) (Ne.symm n1)).trans (HZ.out _)))
    all_goals
     go_wp2_with fail
     go_meet
     exact J6.out _ _ _ _ D1 E3 G0
   case rest =>
    obtain⟨v',hM⟩:=hcut;obtain⟨g',cap',rfl,N8,N9⟩:=hM.own.form (by omega)
    have e0:=hM.c0;have e1:=hM.c1;have e2:=hM.q0;have E6:=hM.map;have G1:=b6K d.p G4;have HM:=a8 hM
    have L2:Hid (∀s,(D.put (.string d.p.data.toList) (.lit (.int .i64 ((sl:Int)+1)))).atKey (.string s) (.lit (.int .i64 0))=.lit (.int .i64 (nrS (d::Sk) s:Nat))):=by
     have h:=b4P E6.isMap D9.out.look d;rw[E4.out]at h;exact h
    rw[E4.out]at e0;have M9:(sl:Int)+1<=1000002000001:=by omega
    clear c0 c1 q0 q1 f0 E1 hM L0 M7 J5 HF HZ;go_wp2
    go_still_tail 11,(by kernel_rfl)
    change wpList _ _ _ _ _ wc.drew
    go_wp2_with (at_mapUpdate;refine wpList_mapUpdate_own _ rfl _ _ _ 90 rfl 9 3 b6J Tryz.underlying90 _ mb (N+k) D rfl E6.drew (by unfold maxLen;omega) _ _ _ rfl rfl G1 _ [] (plainElem_int Tryz.underlying3 (WalkArith.wf_i64 (by omega))) ?_)
    intro w1 D1 D0;have hM:=HM.out;have E7:sb<wc.heap.size:=World.block_lt_of_cell? wc ⟨sb,0,none⟩ hM.c0;have D3:∀g,g<wc.heap.size->g≠mb->w1.heap[g]? = wc.heap[g]?:=fun g h1 h2=>D0.block g h1 (fun e=>h2 (by simpa using e))
    have N0:Hid (ScA w1 B sb mb (N+k+1) x O (d::Sk) (.slice (some ⟨g',0,none⟩) (Sk.length+1) cap') (D.put (.string d.p.data.toList) (.lit (.int .i64 ((sl:Int)+1))))) :=
     ⟨(World.cell?_of_block (w:=wc) (D3 sb E7 D9.out.ne)).trans hM.c0,(World.cell?_of_block (w:=wc) (D3 sb E7 D9.out.ne)).trans hM.c1,(World.frozen?_of_block (w:=wc) (D3 sb E7 D9.out.ne)).trans hM.f0,
      a0h hM.own (fun g hg=>D3 g (a2E hM.own hg).2 (fun e=>hM.n2 (by rw[hg,e]))),D1,L2.out,D9.out.ne,hM.n1,hM.n2,D9.out.b1,D9.out.b2,D9.out.xs,D9.out.xm,hM.xv,(D3 x (i3 hM.xk) D9.out.xm).trans hM.xk⟩
    have N1:Hid (Below B w w1):=hM.bel.drew.grown D0 (d8 hB hM.bel.size) (fun j hj=>by cases hj;exact D9.out.b2)
    clear D1 D0 hM D3 E6 e0 e1 e2 G1 L2 HM;go_wp2
    go_roundg g
    case measure=>omega
    case rel=>exact⟨k+1,by rw[HN.out];omega,by first|rfl|go_num,by rw[J8.out];exact⟨_,_,N0.out⟩,N1.out⟩
  |zero =>
   have N2:k=n:=by omega
   subst N2;have HA:=a8 hA;have M0:¬(k:Int)<(k:Int):=by omega
   clear hA;go_wp2
   go_end0
   refine⟨rfl,?_,hb⟩;have h:Sc wr B sb mb (N+k) x O ((ds.take k).reverse++S):=⟨v,D,HA.out⟩;rw[C0 (by rw[HN.out];exact c9 _)]at h
   exact h
end Go.Proofs.YtlgcigmolfhamaaGreatDoor
