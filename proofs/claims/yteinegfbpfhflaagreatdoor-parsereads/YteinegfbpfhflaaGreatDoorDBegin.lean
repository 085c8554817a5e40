/-
  (*scope).begin: declarations are laid upon those that are open. Conditions: the scope lies as it is, the list too; there are not too many, the texts are not too long.
-/
import Derived.Test.YteinegfbpfhflaaGreatDoorM12
import Derived.Deep.RegionHeld3
import Derived.Deep.DrawnRows
import Derived.StillTailTactics
import Derived.BigRegion
import Derived.Deep.RegionLaw
import Derived.Deep.DeepCutAuto
import Derived.Deep.LoopGhost
namespace Go.Proofs.YteinegfbpfhflaaGreatDoor
open Go.RowKit Go.Maps Go.WideMaps
set_option linter.unusedVariables false
set_option maxRecDepth 100000
set_option maxHeartbeats 16000000
theorem yV{w:World}{b1 o1 b2 o2:Nat}{v:Value}(h:b1≠b2∨o1≠o2):(w.setCell ⟨b1,o1,none⟩ v).cell? ⟨b2,o2,none⟩=w.cell? ⟨b2,o2,none⟩:=by
 refine World.cell?_setCell_other _ _ _ _ ?_;intro e;simp at e;omega
def II(w:World)(B sb mb N x:Nat)(O:Obj)(S ds:List Dc)(g:Nat)(i:Value)(wr:World):Prop :=
 ∃k:Nat,k+g=ds.length/\i=.int .i64 k/\Sc wr B sb mb (N+k) x O ((ds.take k).reverse++S)/\Below B w wr
structure Jk(w:World)(B sb mb M q x:Nat)(O:Obj)(S:List Dc)(d:Dc)(D:DataW Unit)(v:Value)(wx:World):Prop where
 c0:wx.cell? ⟨sb,0,none⟩=some v
 c1:wx.cell? ⟨sb,1,none⟩=some (.map (some mb))
 f0:wx.frozen? ⟨sb,0,none⟩=false
 own:wx.ownsRow B 174 2 v (S.length+1) (gA (d::S))
 map:wx.ownsMap Tryz.prog 9 (plainElem Tryz.prog 3) mb M D
 n1:v.ownBlock≠some sb
 n2:v.ownBlock≠some mb
 q0:wx.cell? ⟨q,0,none⟩=some (.string d.p)
 bel:Below B w wx
 xv:v.ownBlock≠some x
 xk:wx.heap[x]? = some O
theorem GK{w W W1 w1:World}{B sb mb M q x gg cap:Nat}{O:Obj}{S:List Dc}{d:Dc}{D:DataW Unit}{v:Value}(hA:zq W1 B sb mb M x O S v D)(hb:Below B w W1)(hB:B<=W1.heap.size)(q0:W1.cell? ⟨q,0,none⟩=some (.string d.p))(hqs:sb≠q)(hqv:v.ownBlock≠some q)
 (o:Obj) (hW:W.heap=(W1.alloc o).heap) (hWb:Below W1.heap.size W1 W)
 (hown:w1.ownsRow B 174 2 (.slice (some ⟨gg,0,none⟩) (S.length+1) cap) (S.length+1) (gA (d::S))) (hg:W.grownBy w1 v.ownBlock) (hat:v.ownBlock=some gg∨gg=W1.heap.size+1) :
 Jk w B sb mb M q x O S d D (.slice (some ⟨gg,0,none⟩) (S.length+1) cap) (w1.setCell ⟨sb,0,none⟩ (.slice (some ⟨gg,0,none⟩) (S.length+1) cap)):=by
 have hsz:W.heap.size=W1.heap.size+1:=by rw[hW];simp
 have hlt:=hA.lt;have hml:=hA.map.lt;have hql:=World.block_lt_of_cell? W1 _ q0
 have hgs:gg≠sb:=by
  rcases hat with h|h
  ·intro e;exact hA.n1 (by rw[h,e])
  ·omega
 have hgm:gg≠mb:=by
  rcases hat with h|h
  ·intro e;exact hA.n2 (by rw[h,e])
  ·omega
 have hxl:=au hA.xk
 have hgx:gg≠x:=by
  rcases hat with h|h
  ·intro e;exact hA.xv (by rw[h,e])
  ·omega
 have hbk:∀g,g<W1.heap.size->v.ownBlock≠some g->w1.heap[g]? = W1.heap[g]?:=fun g hgl hn=>(hg.block g (by omega) (fun e=>hn e.symm)).trans (hWb.block g hgl)
 have hcs:∀j u,W1.cell? ⟨sb,j,none⟩=some u->w1.cell? ⟨sb,j,none⟩=some u:=fun j u h=>(World.cell?_of_block (w:=W1) (hbk sb hlt hA.n1)).trans h;refine⟨World.cell?_setCell_same _ _ _ (hcs 0 _ hA.c0),?_,?_,?_,?_,?_,?_,?_,?_,?_,?_⟩
 ·exact(yV (.inr (by omega))).trans (hcs 1 _ hA.c1)
 ·exact(World.frozen?_setCell _ _ _ _).trans ((World.frozen?_of_block (w:=W1) (hbk sb hlt hA.n1)).trans hA.f0)
 ·exact fY hown (fun g h=>by
   simp[Value.ownBlock]at h;subst h;exact ao _ _ _ _ hgs)
 ·exact gX hA.map ((ao _ _ _ _ (Ne.symm hA.ne)).trans (hbk mb hml hA.n2))
 ·simp[Value.ownBlock];exact hgs
 ·simp[Value.ownBlock];exact hgm
 ·exact(yV (.inl hqs)).trans ((World.cell?_of_block (w:=W1) (hbk q hql hqv)).trans q0)
 ·exact((hb.trans (hWb.mono hB)).grown hg (by omega) (fun k hk=>(jZ hA.own hk).1)).setCell (p:=⟨sb,0,none⟩) hA.b1 _
 ·simp[Value.ownBlock];exact hgx
 ·exact(ao _ _ _ _ hA.xs).trans ((hbk x hxl hA.xv).trans hA.xk)
theorem r6(B sb mb N x:Nat)(O:Obj)(S ds:List Dc)(vd:Value)(w:World)(hsc:Sc w B sb mb N x O S)(hB:B<=w.heap.size)(hd:gL w B vd ds)(hN:N<=1000000000000)(hS:S.length<=1000000000000)(hn:ds.length<=2000000)(hs:∀d∈ds,d.p.size<=2000000) :
 Calls Tryz.prog 146 #[.pointer (some ⟨sb,0,none⟩),vd] w fun e w'=>e=.returned (.tuple #[])/\Sc w' B sb mb (N+ds.length) x O (ds.reverse++S)/\Below B w w':=by
 have HD:Hid (gL w B vd ds):=hd;have HSC:=aa hsc;obtain⟨A,cap,rfl,hc1,hc2,_⟩:=hd;obtain⟨n,hnE⟩ : ∃n,ds.length=n:=⟨_,rfl⟩;have HN:=aa hnE;rw[hnE]at hn hc1 ⊢;obtain⟨i0,hi0,hz0,hz1,hz2⟩:=info_parts Dv;clear hnE hsc;go_enter Tryz.func146,Tryz.ntmps146;go_wp2
 go_loopg [8] n (II w B sb mb N x O S ds)
 case atStart=>exact⟨0,by rw[HN.out];omega,rfl,HSC.out,ae _ _⟩
 case round =>
  obtain⟨k,hk,rfl,⟨v,D,hA⟩,hb⟩:=hrel;rw[HN.out]at hk;cases gk with
  |succ g =>
   have hlt:k<n:=by omega
   have hkl:k<ds.length:=by rw[HN.out];exact hlt
   obtain⟨b,o,cap',e,_,_,hbB,hcell⟩:=gL.open (em.below HD.out hb) (by omega)
   simp only[aK]at e;obtain⟨rfl,_,rfl⟩:=e;obtain⟨d0,d1⟩:=hcell k hkl;have hsd:=hs _ (aJ hkl);have hkz:(k:Int)<(n:Int):=by omega
   obtain⟨d,hdE⟩ : ∃d,ds[k]=d:=⟨_,rfl⟩;rw[hdE]at d0 d1 hsd
   have HRV:Hid ((ds.take (k+1)).reverse++S=d::((ds.take k).reverse++S)):=by
    show _=_
    rw[aN hkl,hdE];simp
   generalize hSk:(ds.take k).reverse++S=Sk at hA HRV;have hSkl:Sk.length<=1000002000000:=by rw[<-hSk];simp;omega
   have HSL:Hid (Sk.length=k+S.length):=by rw[<-hSk];simp[Hid];omega
   have hL:=hA.lookup d.p hsd;have c0:=hA.c0;have c1:=hA.c1;have f0:=hA.f0;have hlt0:=hA.lt;have hown:=hA.own;have hbase:B<=wr.heap.size:=ag hB hb.size;have HA:=aa hA;have HB:=aa hb;clear hcell hdE hSk hA hb;go_wp2;obtain⟨W1,hW1⟩ : ∃W1,wr.alloc (Obj.cells #[Value.string d.p,Value.string d.u] 48)=W1:=⟨_,rfl⟩;have hWb:Below wr.heap.size wr W1:=by rw[<-hW1];exact(ae _ _).alloc (af _) _
   have q0:W1.cell? ⟨wr.heap.size,0,none⟩=some (.string d.p):=by rw[<-hW1];exact aZ (j:=0) (ae _ _) rfl
   have q1:W1.cell? ⟨wr.heap.size,1,none⟩=some (.string d.u):=by rw[<-hW1];exact aZ (j:=1) (ae _ _) rfl
   have hA1:=HA.out.later hWb;have hqlt:wr.heap.size<W1.heap.size:=by rw[<-hW1];simp
   rw[hW1];have hqs:sb≠wr.heap.size:=Nat.ne_of_lt hlt0;have hqm:mb≠wr.heap.size:=Nat.ne_of_lt HA.out.map.lt;have hqv:v.ownBlock≠some wr.heap.size:=fun h=>by have:=(jZ HA.out.own h).2;omega
   have HB1:Hid (Below B w W1):=HB.out.trans (hWb.mono hbase);have HBS:Hid (B<=W1.heap.size):=ag hbase hWb.size;clear hL c0 c1 f0 hown d0 d1 hW1 hWb HB HA hlt0;generalize wr.heap.size=q at *;have c0:=hA1.c0;have c1:=hA1.c1;have f0:=hA1.f0;have hlt0:=hA1.lt;have hown:=hA1.own
   have hL:∀x:World,x.heap[mb]? = W1.heap[mb]?->(Instr.lookup 79 (.map (some mb)) (.string d.p) false).run Tryz.prog x=.ok (.int .i64 (oc Sk d.p.data.toList:Nat)) x:=fun x hx=>by
    obtain⟨c,hrun,hat,_⟩:=(gX hA1.map hx).lookup_int C0 Tryz.underlying79 Tryz.underlying3 (FR x) (C3 d.p hsd);rw[hA1.look]at hat;simp at hat;rw[hrun,hat]
   have hL1:=hL W1 rfl;have hmlt:=hA1.map.lt;have n1:=hA1.n1;have hne:=hA1.ne;have n2:=hA1.n2;have HA1:=aa hA1;clear hA1 hbase;have HLL:=aa hL;clear hL;obtain⟨nr,hnr⟩ : ∃nr,oc Sk d.p.data.toList=nr:=⟨_,rfl⟩;obtain⟨sl,hsl⟩ : ∃sl,Sk.length=sl:=⟨_,rfl⟩;rw[hnr]at HLL hL1;rw[hsl]at hown hSkl;have HNR:=aa hnr;have HSLE:=aa hsl;clear hnr hsl;have HF:Hid (∀(o:Obj) (j:Nat) u,W1.cell? ⟨sb,j,none⟩=some u->(W1.alloc o).drew.cell? ⟨sb,j,none⟩=some u):=fun o j u h=>(((ae _ W1).alloc (af _) o).cell (p:=⟨sb,j,none⟩) hlt0).trans h;have HZ:Hid (∀(o:Obj),(W1.alloc o).drew.frozen? ⟨sb,0,none⟩=false):=fun o=>(((ae _ W1).alloc (af _) o).frozen (p:=⟨sb,0,none⟩) hlt0).trans f0;have hc0a:∀o:Obj,(W1.alloc o).cell? ⟨sb,0,none⟩=some v:=fun o=>HF.out o 0 v c0;have hLd:=HLL.out W1.drew rfl
   go_cut [] (fun wx => ∃v',Jk w B sb mb (N+k) q x O Sk d D v' wx)
   case first =>
    have HMID:Hid (∀(w1:World) (gg cap:Nat) (o:Obj),w1.ownsRow B 174 2 (.slice (some ⟨gg,0,none⟩) (sl+1) cap) (sl+1) (gA Sk++[.string d.u,.int .i64 (nr:Nat)])->(W1.alloc o).drew.grownBy w1 v.ownBlock->(v.ownBlock=some gg∨gg=W1.heap.size+1) ->
     ∃v',Jk w B sb mb (N+k) q x O Sk d D v' (w1.setCell ⟨sb,0,none⟩ (.slice (some ⟨gg,0,none⟩) (sl+1) cap))):=fun w1 gg cap o h1 h2 h3=>by
     rw[<-HNR.out,<-HSLE.out]at h1;rw[<-HSLE.out];exact⟨_,GK (W:=(W1.alloc o).drew) HA1.out HB1.out HBS.out q0 hqs hqv o rfl (((ae _ W1).alloc (af _) o).drew) h1 h2 h3⟩
    go_region_law
     ((refine step_append_lies _ (by rfl) _ _ _ (by rfl) B 174 i0 _ 2 24 Tryz.underlying153 hi0 hz0 hz1 hz2 rfl (by omega) v sl (gA Sk) (by rfl) ((hown.alloc _).drew)
        ⟨W1.heap.size,0,none⟩ 1 1 [.string d.u,.int .i64 (nr:Nat)] (by rfl) (by rfl) (World.news_of_block (cs:=#[.string d.u,.int .i64 (nr:Nat)]) (t:=174) (fr:=(0,0)) (heap_alloc_new W1 _)) (by simp[Value.oneCell'])
        (by omega) (by unfold maxLen;omega) (by omega) (by have:=HBS.out;simp;omega) (W1.heap.size+1) (by simp) ?_;intro gg cap w1 hown1 hgrow hat hltg;have k0:=(hgrow.cell_far ⟨sb,0,none⟩ (by simp;omega) (Ne.symm n1)).trans (HF.out _ 0 _ c0);have k1:=(hgrow.frozen_far ⟨sb,0,none⟩ (by simp;omega) (Ne.symm n1)).trans (HZ.out _)))
    all_goals
     go_wp2_with fail
     go_meet
     exact HMID.out _ _ _ _ hown1 hgrow hat
   case rest =>
    obtain⟨v',hM⟩:=hcut;obtain⟨g',cap',rfl,hg1,hg2⟩:=hM.own.form (by omega)
    have e0:=hM.c0;have e1:=hM.c1;have e2:=hM.q0;have hmap:=hM.map;have hkey:=C3 d.p hsd;have HM:=aa hM
    have HLK:Hid (∀s,(D.put (.string d.p.data.toList) (.lit (.int .i64 ((sl:Int)+1)))).atKey (.string s) (.lit (.int .i64 0))=.lit (.int .i64 (oc (d::Sk) s:Nat))):=by
     have h:=AF hmap.isMap HA1.out.look d;rw[HSLE.out]at h;exact h
    rw[HSLE.out]at e0;have hslz:(sl:Int)+1<=1000002000001:=by omega
    clear c0 c1 q0 q1 f0 hown hM hL1 hLd hc0a HF HZ;go_wp2
    go_still_tail 11,(by kernel_rfl)
    change wpList _ _ _ _ _ wc.drew
    go_wp2_with (at_mapUpdate;refine wpList_mapUpdate_own _ rfl _ _ _ 79 rfl 9 3 C0 Tryz.underlying79 _ mb (N+k) D rfl hmap.drew (by unfold maxLen;omega) _ _ _ rfl rfl hkey _ [] (plainElem_int Tryz.underlying3 (WalkArith.wf_i64 (by omega))) ?_)
    intro w1 hown1 hgrow1;have hM:=HM.out;have hsl2:sb<wc.heap.size:=World.block_lt_of_cell? wc ⟨sb,0,none⟩ hM.c0;have hfar:∀g,g<wc.heap.size->g≠mb->w1.heap[g]? = wc.heap[g]?:=fun g h1 h2=>hgrow1.block g h1 (fun e=>h2 (by simpa using e))
    have HNX:Hid (zq w1 B sb mb (N+k+1) x O (d::Sk) (.slice (some ⟨g',0,none⟩) (Sk.length+1) cap') (D.put (.string d.p.data.toList) (.lit (.int .i64 ((sl:Int)+1))))) :=
     ⟨(World.cell?_of_block (w:=wc) (hfar sb hsl2 HA1.out.ne)).trans hM.c0,(World.cell?_of_block (w:=wc) (hfar sb hsl2 HA1.out.ne)).trans hM.c1,(World.frozen?_of_block (w:=wc) (hfar sb hsl2 HA1.out.ne)).trans hM.f0,
      fY hM.own (fun g hg=>hfar g (jZ hM.own hg).2 (fun e=>hM.n2 (by rw[hg,e]))),hown1,HLK.out,HA1.out.ne,hM.n1,hM.n2,HA1.out.b1,HA1.out.b2,HA1.out.xs,HA1.out.xm,hM.xv,(hfar x (au hM.xk) HA1.out.xm).trans hM.xk⟩
    have HBX:Hid (Below B w w1):=hM.bel.drew.grown hgrow1 (ag hB hM.bel.size) (fun j hj=>by cases hj;exact HA1.out.b2)
    clear hown1 hgrow1 hM hfar hmap e0 e1 e2 hkey HLK HM;go_wp2
    go_roundg g
    case measure=>omega
    case rel=>exact⟨k+1,by rw[HN.out];omega,by first|rfl|go_num,by rw[HRV.out];exact⟨_,_,HNX.out⟩,HBX.out⟩
  |zero =>
   have hkn:k=n:=by omega
   subst hkn;have HA:=aa hA;have hkz:¬(k:Int)<(k:Int):=by omega
   clear hA;go_wp2
   go_end0
   refine⟨rfl,?_,hb⟩;have h:Sc wr B sb mb (N+k) x O ((ds.take k).reverse++S):=⟨v,D,HA.out⟩;rw[bC (by rw[HN.out];exact af _)]at h
   exact h
end Go.Proofs.YteinegfbpfhflaaGreatDoor
