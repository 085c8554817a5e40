/-
  slices.SortFunc over a row of declarations of one's own, by space.compare: the row in order. Conditions: at most 1,000,000 declarations.
  space.Sorted: the declarations in order, in a row of one's own. Conditions: at most 100,000 declarations, no text longer than 2,000,000 bytes.
-/
import Derived.Test.YtlgcigmolfhamaaGreatDoorKS1
import Derived.Shelf.SlSortCmp.WholeK
namespace Go.Proofs.YtlgcigmolfhamaaGreatDoor
open Go.RowKit
set_option linter.unusedVariables false
set_option maxRecDepth 100000
set_option maxHeartbeats 16000000
theorem c3L[Inhabited Dc](ds:List Dc):(Go.Sort.flatK C1 2 ds.toArray).toList=ds.flatMap C1:=by
 apply List.ext_getElem?
 intro t;rcases Nat.lt_or_ge t (ds.length*2)with ht|ht
 ·have hi:t/2<ds.length:=by omega
  have h1:=Q6 (f:=C1) (c:=2) (fun _=>rfl) ds (t/2) (t%2) hi (by omega)
  rw[show t/2*2+t%2=t by omega]at h1
  rw[h1]
  have h2:(Go.Sort.flatK C1 2 ds.toArray).toList[t]? = some (Go.Sort.flatK C1 2 ds.toArray)[t]!:=by
   rw[A9,r9 (by simpa using ht),getElem!_pos _ t (by simpa using ht)]
  rw[h2,Go.Sort.get_flatK _ _ _ _ (by simpa using ht),getElem!_pos ds.toArray (t/2) (by simpa using hi)]
  have hm:t%2=0∨t%2=1:=by omega
  rcases hm with hm|hm<;>rw[hm]<;>simp[C1]
 ·rw[List.getElem?_eq_none (by simpa using ht),List.getElem?_eq_none (by rw[N2 (f:=C1) (c:=2) (fun _=>rfl)];exact ht)]
theorem c3Y(X0 cap:Nat)(cur:Array Value)(ds:List Dc)(w:World)(h:w.heap[X0]? = some (.cells cur 34 (0,0)))(D0:cur.toList.take (ds.length*2)=ds.flatMap C1)(hn:ds.length<=1000000) :
 Calls Tryz.prog 54 #[.slice (some ⟨X0,0,none⟩) ds.length cap,.func (.func 55) #[] #[]] w fun e w'=>e=.returned (.tuple #[])/\∃(ds':List Dc) (cur':Array Value),ds'.Perm ds/\c3F ds'/\w'.heap[X0]? = some (.cells cur' 34 (0,0))/\cur'.size=cur.size/\cur'.toList.take (ds'.length*2)=ds'.flatMap C1 /\
  (∀B,B<=X0->Below B w w')/\∀k,k<w.heap.size->k≠X0->w'.heap[k]? = w.heap[k]?:=by
 haveI:Inhabited Dc:=⟨⟨⟨#[]⟩,⟨#[]⟩⟩⟩
 have D3:=i3 h
 have hH:Go.Sort.HoldsK C1 2 w X0 0 ds.toArray:=fun j hj=>by
  have hj':j<ds.length*2:=by simpa using hj
  refine⟨?_,frozen_of_row w X0 _ cur _ h⟩;rw[F5,d9 w X0 j cur _ _ h,<-A9,<-List.getElem?_take_of_lt hj',D0,<-c3L,A9,r9 hj,getElem!_pos _ j hj];rfl
 have eg:∀args w,(callFunc 55 args).run Tryz.prog w=.ok (.enter 55 args) w:=enters_of Tryz.func55 (by kernel_rfl) rfl
 have D1:Go.Proofs.CmpLays Tryz.prog 55 #[] C1 2 T3 X0 0 ds.toArray.size w:=fun m os dk hd x y=>c3W x y _;have D2:=AnyQ.slices_SortFunc c4v 2 Tryz.isAgg34 Tryz.sizeOf34 C1 (fun _=>rfl) (fun x v hv=>by simp[C1]at hv;rcases hv with rfl|rfl<;>rfl) T3 c4Q 55 #[] X0 0 cap ds.toArray w eg D1 hH D3 (by simp;omega)
 refine Calls.mono D2 fun e w' ⟨he,d',n,os,hp,hs,hw⟩=>⟨he,d'.toList,Go.Sort.putCells id 0 (Go.Sort.flatK C1 2 d') cur,?_,?_,?_,?_,?_,?_,?_⟩
 ·have e1:d'.extract 0 ds.toArray.size=d':=by rw[<-hp.1];simp
  have e2:=hp.2.2;rw[e1]at e2;simpa using e2
 ·unfold c3F
  rw[List.pairwise_iff_getElem];intro i j hi hj E0;have D9:=hp.1;have h1:=hs i j (o4 _) E0 (by rw[<-D9];simpa using hj)
  rw[getElem!_pos d' i (by simpa using hi),getElem!_pos d' j (by simpa using hj)]at h1
  unfold ltOf at h1;rw[F4]at h1;have:=c3y d'[j] d'[i];simp only[Array.getElem_toList];omega
 ·rw[hw]
  show((w.heap.modify X0 (Go.Sort.onCells (Go.Sort.putCells id 0 (Go.Sort.flatK C1 2 d'))))++os)[X0]? = _
  rw[Array.getElem?_append_left (by simpa using D3),Array.getElem?_modify,g8 rfl,h];rfl
 ·simp[Go.Sort.putCells]
 ·have hl:cur.toList.length ≥ ds.length*2:=by
   have:=congrArg List.length D0;rw[u0,N2 (f:=C1) (c:=2) (fun _=>rfl)]at this;omega
  have D9:d'.size=ds.length:=by simpa using hp.1
  have hF:=c3L d'.toList;rw[Array.toArray_toList]at hF;rw[<-hF]
  apply List.ext_getElem?
  intro k;rcases Nat.lt_or_ge k (d'.size*2)with hk|hk
  ·rw[List.getElem?_take_of_lt (by simpa using hk),A9,A9]
   have hc:k<cur.size:=by simp at hl;omega
   simp only[Go.Sort.putCells,Array.getElem?_mapIdx,r9 hc,Option.map_some,Nat.sub_zero,id];rw[g8 ⟨o4 _,by simpa using hk⟩,r9 (by simpa using hk),getElem!_pos _ k (by simpa using hk)]
  ·rw[List.getElem?_eq_none (by simp;omega),List.getElem?_eq_none (by simpa using hk)]
 ·intro B hB
  rw[hw];refine⟨rfl,rfl,rfl,?_,fun k hk => ?_⟩
  ·show w.heap.size<=((w.heap.modify X0 (Go.Sort.onCells _))++os).size
   simp
  ·show((w.heap.modify X0 (Go.Sort.onCells _))++os)[k]? = _
   rw[Array.getElem?_append_left (by simp;omega),Array.getElem?_modify,f6 (by omega)]
 ·intro k hk E1
  rw[hw]
  show((w.heap.modify X0 (Go.Sort.onCells _))++os)[k]? = _
  rw[Array.getElem?_append_left (by simpa using hk),Array.getElem?_modify,f6 (by omega)]
theorem c4J{w:World}{g:Nat}{v0 v1:Value}{t:TypeId}{fr:Nat×Nat}(h:w.heap[g]? = some (.cells #[v0,v1] t fr)):w.cell? ⟨g,0,none⟩=some v0/\w.cell? ⟨g,1,none⟩=some v1:=⟨d9 _ g 0 _ _ _ h,d9 _ g 1 _ _ _ h⟩
theorem c4t(ds:List Dc)(v:Value)(w:World)(hv:a0P w w.heap.size v ds)(hn:ds.length<=100000)(hs:∀d∈ds,d.p.size<=2000000/\d.u.size<=2000000) :
 Calls Tryz.prog 17 #[v] w fun e w' => ∃v' ds',e=.returned v'/\ds'.Perm ds/\c3F ds'/\J8 w' w.heap.size 34 v' ds.length (ds'.flatMap C1)/\Below w.heap.size w w':=by
 have HV:Hid (a0P w w.heap.size v ds):=hv;obtain⟨A,cap,rfl,L0,M4,_⟩:=hv;obtain⟨n,E4⟩ : ∃n,ds.length=n:=⟨_,rfl⟩;have HN:=a8 E4;rw[E4]at hn L0 ⊢;clear E4;obtain⟨i0,hi,L1,L2,L3⟩:=info_parts a0W;obtain⟨M,hM⟩ : ∃M,M=madeCells (Value.agg #[.string ⟨#[]⟩,.string ⟨#[]⟩]).cells (((n:Nat):Int).toNat*i0.size):=⟨_,rfl⟩;have G7:M.size=n*2:=by rw[hM,size_madeCells,L2];simp
 have L4:∀W:World,(Instr.makeSlice 31 (.int .i64 (n:Int)) (.int .i64 (n:Int))).run Tryz.prog W=.ok (.slice (some ⟨W.heap.size,0,none⟩) n n) (W.alloc (.cells M 34)):=fun W=>by
  have h:=run_make (P:=Tryz.prog) W 31 34 i0 _ Tryz.underlying31 hi L1 .i64 .i64 (n:Int) (n:Int) (by omega) (by omega) (by rw[L3];omega) (by omega)
  rw[<-hM]at h;simpa using h
 clear hM;have L5:=a8 G7;have M5:w.heap.size<(w.alloc (.cells M 34)).heap.size:=by simp
 clear G7;go_enter Tryz.func17,Tryz.ntmps17;go_wp2;clear L4
 go_loopw [11] (b3Z w w.heap.size 34 n 2 (ds.flatMap C1)) (fun i _=>n-(intOf i).toNat)
 case atStart=>exact⟨0,M,o4 _,rfl,g9 w _,L5.out,by simp,(b8 _ _).alloc (c9 _) _⟩
 case round =>
  obtain⟨k,cur,hk,rfl,D1,L6,G8,hb⟩:=hrel;have G9:=a8 G8;have HB:=a8 hb;have E0:=a8 D1;have L7:=i3 D1;clear G8;by_cases J1:k<n
  ·have E5:k<ds.length:=by rw[HN.out];exact J1
   obtain⟨b,o,cap',e,_,_,M6,D3⟩:=a0P.open (R1.below HV.out hb) (by omega)
   simp only[o5]at e;obtain⟨rfl,_,rfl⟩:=e;obtain⟨d0,d1⟩:=D3 k E5;have E6:=hs _ (o0 E5);have L8:(k:Int)<(n:Int):=by omega
   have J2:Hid (∀j (hj:j<2),(ds.flatMap C1)[k*2+j]? = (C1 ds[k])[j]?):=fun j hj=>Q6 (f:=C1) (c:=2) (fun _=>rfl) ds k j E5 hj;generalize ds[k]=x at *;obtain⟨xp,xu⟩:=x;dsimp only at d0 d1 E6;have HP:=a8 (fun W=>M8 xp E6.1 W);have HU:=a8 (fun W=>M8 xu E6.2 W);clear D3 hb D1
   go_upto_region 5 with fail
   obtain⟨W,hW⟩ : ∃W,wr.alloc (.cells #[.string xp,.string xu] 34)=W:=⟨_,rfl⟩;have E7:W.heap[wr.heap.size]? = some (.cells #[.string xp,.string xu] 34 (0,0)):=by rw[<-hW];exact g9 _ _
   have E8:Below wr.heap.size wr W:=by rw[<-hW];exact(b8 _ _).alloc (c9 _) _
   have J3:=a8 (HB.out.trans (E8.mono HB.out.size));have E2:W.heap[w.heap.size]? = some (.cells cur 34 (0,0)):=(E8.block _ L7).trans E0.out;have J4:=i3 E7;have G0:=i3 E2
   have D0:Hid (∀W',Below W.heap.size W W'->W'.cell? ⟨wr.heap.size,0,none⟩=some (.string xp)/\W'.cell? ⟨wr.heap.size,1,none⟩=some (.string xu)/\W'.cell? ⟨w.heap.size,k*2,none⟩=some cur[k*2]/\W'.cell? ⟨w.heap.size,k*2+1,none⟩=some cur[k*2+1]/\∀j,W'.frozen? ⟨w.heap.size,j,none⟩=false):=fun W' hb'=>by
    have e1:=(hb'.block _ J4).trans E7;have e2:=(hb'.block _ G0).trans E2;exact⟨(c4J e1).1,(c4J e1).2,by rw[d9 _ _ _ _ _ _ e2];exact r9 (by omega),by rw[d9 _ _ _ _ _ _ e2];exact r9 (by omega),fun j=>by unfold World.frozen?;rw[e2];simp⟩
   have J5:Hid (∀wl,Below W.heap.size W wl->b3Z w w.heap.size 34 n 2 (ds.flatMap C1) (.int .i64 ((k+1:Nat):Int)) ((wl.setCell ⟨w.heap.size,k*2,none⟩ (.string xp)).setCell ⟨w.heap.size,k*2+1,none⟩ (.string xu))):=fun wl hb'=>by
    refine⟨k+1,_,J1,rfl,o8 (o8 ((hb'.block _ G0).trans E2)),by simpa using L6,?_,(((J3.out.trans (hb'.mono J3.out.size)).setCell (p:=⟨w.heap.size,k*2,none⟩) (c9 _) _).setCell (p:=⟨w.heap.size,k*2+1,none⟩) (c9 _) _)⟩
    rw[show(k+1)*2=k*2+2 by omega]
    have f0:=J2.out 0 (by omega)
    have f1:=J2.out 1 (by omega)
    rw[Nat.add_zero]at f0;exact a06 (a06 (G9.out) (by first|omega|(simp;omega)) f0) (by first|omega|(simp;omega)) f1
   obtain⟨a0,a1,a2,a3,a4⟩:=D0.out W (b8 _ _);rw[hW];clear hW E7 E8 E2 J4 G0
   go_region_with (first
    |(go_at_call 56;refine(HP.out _).mono ?_;rintro e w1 ⟨rfl,G1⟩;have E3:Below W.heap.size W w1:=(by first|exact D2.trans (G1.mono D2.size)|exact((b8 _ _).drew).trans G1|exact G1);obtain⟨b0,b1,b2,b3,b4⟩:=D0.out w1 E3)
    |(go_at_call 56;refine(HU.out _).mono ?_;rintro e w2 ⟨rfl,G4⟩;have D2:Below W.heap.size W w2:=(by first|exact E3.trans (G4.mono E3.size)|exact((b8 _ _).drew).trans G4|exact G4);obtain⟨c0,c1,c2,c3,c4⟩:=D0.out w2 D2))
   all_goals
    go_wp2
    go_roundw
    case rel=>first|exact(show Value.int .i64 ((k+1:Nat):Int)=_ by go_num) ▸ J5.out _ D2|exact(show Value.int .i64 ((k+1:Nat):Int)=_ by go_num) ▸ J5.out _ E3
    case measure=>simp[intOf];omega
  ·have L9:k=n:=by omega
   subst L9;have L8:¬(k:Int)<(k:Int):=by omega
   have J6:=a8 (c3Y w.heap.size k cur ds wr E0.out (by
    have h:=G9.out;rw[HN.out,h,C0 (by rw[N2 (f:=C1) (c:=2) (fun _=>rfl),HN.out];exact c9 _)]) (by rw[HN.out];omega))
   rw[HN.out]at J6;clear hb D1
   go_wp2_with fail
   refine J6.out.mono ?_;rintro e w1⟨rfl,ds',cur',hp,J7,D9,M7,G5,J9,_⟩;have G6:ds'.length=k:=by rw[hp.length_eq];exact HN.out
   have E1:cur'=(ds'.flatMap C1).toArray:=by
    rw[C0 (by rw[Array.length_toList,G6];omega)]at G5
    rw[<-G5]
   rw[E1]at D9;have M0:=a8 D9;have M1:=a8 (HB.out.trans ((J9 w.heap.size (c9 _))));have M2:=a8 hp;have M3:=a8 J7;clear D9 G5 J9 hp J7 E1;go_wp2;go_ret;exact⟨_,ds',rfl,M2.out,M3.out,.inr ⟨_,rfl,c9 _,M0.out⟩,M1.out⟩
end Go.Proofs.YtlgcigmolfhamaaGreatDoor
