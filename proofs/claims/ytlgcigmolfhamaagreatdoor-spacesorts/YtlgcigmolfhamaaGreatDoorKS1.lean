/-
  space.compare: which of two declarations comes first. Conditions: none.
  slices.SortFunc at a slice of declarations: the library's contract, laid here. Conditions: none.
  Declarations have one order, by prefixes, then by URIs; a list in order is one alone. Plain mathematics. Conditions: none.
-/
import Derived.Test.YtlgcigmolfhamaaGreatDoorK56
import Derived.Shelf.Small.Strs
import Derived.Sort.Grow
import Derived.StillTailTactics
import Derived.Shelf.SlLaysF0
import Derived.Sort.Statements
namespace Go.Proofs.YtlgcigmolfhamaaGreatDoor
set_option linter.unusedVariables false
set_option maxRecDepth 100000
set_option maxHeartbeats 16000000
section
open Go.RowKit Go.Shelf
def c4F:Ren:={
 f:=fun x=>match x with|106 => 100 | 213 => 147 | 265 => 190 | n=>n
 t:=fun x=>match x with|3 => 3 | 9 => 9 | n=>n
 g:=fun x=>x }
theorem c4w:Lays.n106 Tryz.prog c4F:={ mixed:=rfl,f106:=Tryz.func100.trans (congrArg some rfl),f213:=Tryz.func147.trans (congrArg some rfl),f265:=Tryz.func190.trans (congrArg some rfl),t3:=Tryz.underlying3,a3:=Tryz.isAgg3,z3:=Tryz.sizeOf3,v3:=Tryz.zeroValue3,t9:=Tryz.underlying9,a9:=Tryz.isAgg9,z9:=Tryz.sizeOf9,v9:=Tryz.zeroValue9 }
theorem c35(a b:ByteArray)(w:World):Calls Tryz.prog 100 #[.string a,.string b] w fun e w'=>e=.returned (.int .i64 (Lib.compareBytes a.data.toList b.data.toList))/\w'=w:=Any.strings_Compare c4w a b w
def orD(x y:Int):Int:=if x=0 then y else x
theorem c4u(g:Nat)(x y:Int)(w:World)(h:w.heap[g]? = some (.cells #[.int .i64 x,.int .i64 y] 3 (0,0))):Calls Tryz.prog 70 #[.slice (some ⟨g,0,none⟩) 2 2] w fun e w'=>e=.returned (.int .i64 (orD x y))/\w'=w:=by
 have c0:w.cell? ⟨g,0,none⟩=some (.int .i64 x):=d9 _ g 0 _ _ _ h;have c1:w.cell? ⟨g,1,none⟩=some (.int .i64 y):=d9 _ g 1 _ _ _ h;obtain⟨r,hr⟩ : ∃r,orD x y=r:=⟨_,rfl⟩;rw[hr];have HR:=a8 hr;clear hr;go_enter Tryz.func70,Tryz.ntmps70;go_wp2
 go_loopw [8] (fun i wx=>(i=.int .i64 0∨(i=.int .i64 1/\x=0)∨(i=.int .i64 2/\x=0/\y=0))/\wx=w) (fun i _=>2-(intOf i).toNat)
 case atStart=>exact⟨.inl rfl,rfl⟩
 case round =>
  obtain⟨rfl |⟨rfl,hx⟩|⟨rfl,hx,hy⟩,rfl⟩:=hrel
  ·by_cases hx:x=0
   ·have hb:(x != 0)=false:=by simpa using hx
    go_wp2
    go_roundw
    case rel=>exact⟨.inr (.inl ⟨rfl,hx⟩),trivial⟩
    case measure=>simp[intOf]
   ·have hb:(x != 0)=true:=by simpa using hx
    go_wp2;go_ret;exact⟨show Ending.returned (.int .i64 x)=_ by rw[<-HR.out,orD,f6 hx],rfl⟩
  ·by_cases hy:y=0
   ·have hb:(y != 0)=false:=by simpa using hy
    go_wp2
    go_roundw
    case rel=>exact⟨.inr (.inr ⟨rfl,hx,hy⟩),trivial⟩
    case measure=>simp[intOf]
   ·have hb:(y != 0)=true:=by simpa using hy
    go_wp2;go_ret;exact⟨show Ending.returned (.int .i64 y)=_ by rw[<-HR.out,orD,g8 hx],rfl⟩
  ·go_wp2
   go_ret;exact⟨show Ending.returned (.int .i64 0)=_ by rw[<-HR.out,orD,g8 hx,hy],rfl⟩
theorem c3X(w:World)(o1 o2 o3:Obj):(((w.alloc o1).alloc o2).drew).alloc o3=Go.Sort.grow (w.drewN 1) #[o1,o2,o3]:=by
 rw[Go.Sort.alloc_eq_grow w,Go.Sort.alloc_eq_grow (Go.Sort.grow w #[o1]),Go.Sort.alloc_eq_grow,show(Go.Sort.grow (Go.Sort.grow w #[o1]) #[o2]).drew=Go.Sort.grow (Go.Sort.grow (w.drewN 1) #[o1]) #[o2]from rfl,Go.Sort.grow_grow,Go.Sort.grow_grow];rfl
def T3(x y:Dc):Int:=orD (Lib.compareBytes x.p.data.toList y.p.data.toList) (Lib.compareBytes x.u.data.toList y.u.data.toList)
theorem c3W(x y:Dc)(w:World):Calls Tryz.prog 55 #[.agg #[.string x.p,.string x.u],.agg #[.string y.p,.string y.u]] w fun e w'=>e=.returned (.int .i64 (T3 x y))/\∃q os,w'=Go.Sort.grow (w.drewN q) os:=by
 obtain⟨xp,xu⟩:=x;obtain⟨yp,yu⟩:=y;unfold T3;dsimp only;have HP:=a8 (fun W=>c35 xp yp W);have HU:=a8 (fun W=>c35 xu yu W);generalize Lib.compareBytes xp.data.toList yp.data.toList=a at *;generalize Lib.compareBytes xu.data.toList yu.data.toList=b at *;have HO:Hid (∀W:World,Calls Tryz.prog 70 #[.slice (some ⟨W.heap.size,0,none⟩) 2 2] (W.alloc (.cells #[.int .i64 a,.int .i64 b] 3)) fun e w'=>e=.returned (.int .i64 (orD a b))/\w'=W.alloc (.cells #[.int .i64 a,.int .i64 b] 3)):=fun W=>c4u W.heap.size a b _ (g9 W _);generalize orD a b=r at *;go_enter Tryz.func55,Tryz.ntmps55
 go_upto_region 1 with fail
 obtain⟨W,hW⟩ : ∃W,(w.alloc (.cells #[.string xp,.string xu] 34)).alloc (.cells #[.string yp,.string yu] 34)=W:=⟨_,rfl⟩
 have h1:W.heap[w.heap.size+1]? = some (.cells #[.string yp,.string yu] 34 (0,0)):=by
  rw[<-hW,<-World.size_alloc w (.cells #[.string xp,.string xu] 34)];exact g9 _ _
 have h0:W.heap[w.heap.size]? = some (.cells #[.string xp,.string xu] 34 (0,0)):=by
  rw[<-hW];exact(Below.heap_alloc _ _ _ (by rw[World.size_alloc];omega)).trans (g9 _ _)
 have a0:W.cell? ⟨w.heap.size,0,none⟩=some (.string xp):=d9 _ _ 0 _ _ _ h0;have a1:W.cell? ⟨w.heap.size,1,none⟩=some (.string xu):=d9 _ _ 1 _ _ _ h0;have b0:W.cell? ⟨w.heap.size+1,0,none⟩=some (.string yp):=d9 _ _ 0 _ _ _ h1;have b1:W.cell? ⟨w.heap.size+1,1,none⟩=some (.string yu):=d9 _ _ 1 _ _ _ h1;have D0:=a8 (HP.out W.drew);have D1:=a8 (HU.out W.drew);have D2:=a8 (HO.out W.drew);rw[hW];have HW:=a8 hW;clear hW h0 h1 HP HU HO;refine wp_region_still_tail 10 (by kernel_rfl) (by kernel_rfl) ?_
 simp only[List.take_succ_cons,List.take_zero,List.drop_succ_cons,List.drop_zero]
 repeat still_step
 still_call (D0.out)
 repeat still_step
 still_call (D1.out)
 repeat still_step
 try refine wpStill_nil ?_
 change wpList _ _ _ _ _ W.drew
 go_wp2_with fail
 refine D2.out.mono ?_;rintro e w'⟨rfl,hw⟩;rw[hw];clear hw;go_wp2;go_ret;exact⟨rfl,1,#[.cells #[.string xp,.string xu] 34,.cells #[.string yp,.string yu] 34,.cells #[.int .i64 a,.int .i64 b] 3],by rw[<-HW.out];exact c3X _ _ _ _⟩
end
section
open Go.RowKit Go.Shelf
def c4E:Ren:={
 f:=fun x=>match x with|6 => 54 | 15 => 99 | 14 => 98 | 28 => 145 | 29 => 146 | 20 => 137 | 21 => 138 | 22 => 139 | 23 => 140 | 24 => 141 | 25 => 142 | 26 => 143 | 27 => 144 | 46 => 185 | 47 => 186 | 48 => 187 | 49 => 188 | 50 => 189 | 57 => 214 | n=>n
 t:=fun x=>match x with|22 => 31 | 24 => 34 | 25 => 92 | 3 => 3 | 39 => 137 | 0 => 0 | 53 => 168 | 55 => 170 | 4 => 4 | 46 => 161 | 45 => 160 | 50 => 165 | 5 => 5 | 9 => 9 | 66 => 195 | 70 => 199 | 76 => 211 | 77 => 212 | n=>n
 g:=fun x=>x }
theorem c4v:SlLaysF0.n6 Tryz.prog c4E:={
 mixed:=rfl,
 f6:=⟨_,of_decide_eq_true rfl,Tryz.func54.trans (congrArg some rfl)⟩,
 f14:=⟨_,of_decide_eq_true rfl,Tryz.func98.trans (congrArg some rfl)⟩,
 f15:=Tryz.func99.trans (congrArg some rfl),
 f20:=⟨_,of_decide_eq_true rfl,Tryz.func137.trans (congrArg some rfl)⟩,
 f21:=⟨_,of_decide_eq_true rfl,Tryz.func138.trans (congrArg some rfl)⟩,
 f22:=⟨_,of_decide_eq_true rfl,Tryz.func139.trans (congrArg some rfl)⟩,
 f23:=⟨_,of_decide_eq_true rfl,Tryz.func140.trans (congrArg some rfl)⟩,
 f24:=⟨_,of_decide_eq_true rfl,Tryz.func141.trans (congrArg some rfl)⟩,
 f25:=⟨_,of_decide_eq_true rfl,Tryz.func142.trans (congrArg some rfl)⟩,
 f26:=⟨_,of_decide_eq_true rfl,Tryz.func143.trans (congrArg some rfl)⟩,
 f27:=⟨_,of_decide_eq_true rfl,Tryz.func144.trans (congrArg some rfl)⟩,
 f28:=Tryz.func145.trans (congrArg some rfl),
 f29:=Tryz.func146.trans (congrArg some rfl),
 f46:=⟨_,of_decide_eq_true rfl,Tryz.func185.trans (congrArg some rfl)⟩,
 f47:=Tryz.func186.trans (congrArg some rfl),
 f48:=Tryz.func187.trans (congrArg some rfl),
 f49:=⟨_,of_decide_eq_true rfl,Tryz.func188.trans (congrArg some rfl)⟩,
 f50:=⟨_,of_decide_eq_true rfl,Tryz.func189.trans (congrArg some rfl)⟩,
 f57:=⟨_,of_decide_eq_true rfl,Tryz.func214.trans (congrArg some rfl)⟩,
 t0:=Tryz.underlying0,
 a0:=Tryz.isAgg0,
 z0:=Tryz.sizeOf0,
 v0:=Tryz.zeroValue0,
 t3:=Tryz.underlying3,
 a3:=Tryz.isAgg3,
 z3:=Tryz.sizeOf3,
 v3:=Tryz.zeroValue3,
 t4:=Tryz.underlying4,
 a4:=Tryz.isAgg4,
 z4:=Tryz.sizeOf4,
 v4:=Tryz.zeroValue4,
 t5:=Tryz.underlying5,
 a5:=Tryz.isAgg5,
 z5:=Tryz.sizeOf5,
 v5:=Tryz.zeroValue5,
 t9:=Tryz.underlying9,
 a9:=Tryz.isAgg9,
 z9:=Tryz.sizeOf9,
 v9:=Tryz.zeroValue9,
 t22:=Tryz.underlying31,
 a22:=Tryz.isAgg31,
 z22:=Tryz.sizeOf31,
 v22:=Tryz.zeroValue31,
 t25:=Tryz.underlying92,
 a25:=Tryz.isAgg92,
 z25:=Tryz.sizeOf92,
 v25:=Tryz.zeroValue92,
 t39:=Tryz.underlying137,
 a39:=Tryz.isAgg137,
 z39:=Tryz.sizeOf137,
 v39:=Tryz.zeroValue137,
 t45:=Tryz.underlying160,
 a45:=Tryz.isAgg160,
 z45:=Tryz.sizeOf160,
 v45:=Tryz.zeroValue160,
 t46:=Tryz.underlying161,
 a46:=Tryz.isAgg161,
 z46:=Tryz.sizeOf161,
 v46:=Tryz.zeroValue161,
 t50:=Tryz.underlying165,
 a50:=Tryz.isAgg165,
 z50:=Tryz.sizeOf165,
 v50:=Tryz.zeroValue165,
 t53:=Tryz.underlying168,
 a53:=Tryz.isAgg168,
 z53:=Tryz.sizeOf168,
 v53:=Tryz.zeroValue168,
 t55:=Tryz.underlying170,
 a55:=Tryz.isAgg170,
 z55:=Tryz.sizeOf170,
 v55:=Tryz.zeroValue170,
 t66:=Tryz.underlying195,
 a66:=Tryz.isAgg195,
 z66:=Tryz.sizeOf195,
 v66:=Tryz.zeroValue195,
 t70:=Tryz.underlying199,
 a70:=Tryz.isAgg199,
 z70:=Tryz.sizeOf199,
 v70:=Tryz.zeroValue199,
 t76:=Tryz.underlying211,
 a76:=Tryz.isAgg211,
 z76:=Tryz.sizeOf211,
 v76:=Tryz.zeroValue211,
 t77:=Tryz.underlying212,
 a77:=Tryz.isAgg212,
 z77:=Tryz.sizeOf212,
 v77:=Tryz.zeroValue212 }
end
section
open Go.RowKit
theorem c3H:∀a:List UInt8,Lib.compareBytes a a=0
 | []=>rfl
 |c::a=>by
  rw[Lib.compareBytes,f6 (by simp),f6 (by simp)];exact c3H a
theorem c33:∀a b:List UInt8,Lib.compareBytes b a = - Lib.compareBytes a b
 | [],[]=>rfl
 | [],_::_=>rfl
 |_::_,[]=>rfl
 |c::a,d::b=>by
  rw[Lib.compareBytes,Lib.compareBytes];have D0:∀x y:UInt8,x<y↔x.toNat<y.toNat:=fun x y=>Iff.rfl;by_cases h1:c<d
  ·have h2:¬d<c:=by rw[D0]at h1 ⊢;omega
   rw[g8 h1,f6 h2,g8 h1];rfl
  ·by_cases h2:d<c
   ·rw[g8 h2,f6 h1,g8 h2]
   ·rw[f6 h1,f6 h2,f6 h2,f6 h1];exact c33 a b
theorem c3C:∀{a b:List UInt8},Lib.compareBytes a b=0->a=b
 | [],[],_=>rfl
 | [],_::_,h=>by simp[Lib.compareBytes]at h
 |_::_,[],h=>by simp[Lib.compareBytes]at h
 |c::a,d::b,h=>by
  rw[Lib.compareBytes]at h;by_cases h1:c<d
  ·rw[g8 h1]at h;simp at h
  ·by_cases h2:d<c
   ·rw[f6 h1,g8 h2]at h;simp at h
   ·rw[f6 h1,f6 h2]at h
    have:c=d:=F1.1 (by
     have e1:¬c.toNat<d.toNat:=h1;have e2:¬d.toNat<c.toNat:=h2;omega)
    rw[this,c3C h]
theorem c3N:∀{a b c:List UInt8},Lib.compareBytes a b<=0->Lib.compareBytes b c<=0->Lib.compareBytes a c<=0/\(Lib.compareBytes a c=0->Lib.compareBytes a b=0/\Lib.compareBytes b c=0)
 | [],[],c,_,h2=>⟨h2,fun h=>⟨rfl,h⟩⟩
 | [],_::_,[],_,h2=>by simp[Lib.compareBytes]at h2
 | [],_::_,_::_,_,_=>⟨by simp[Lib.compareBytes],fun h=>by simp[Lib.compareBytes]at h⟩
 |_::_,[],_,h1,_=>by simp[Lib.compareBytes]at h1
 |_::_,_::_,[],_,h2=>by simp[Lib.compareBytes]at h2
 |x::a,y::b,z::c,h1,h2=>by
  rw[Lib.compareBytes]at h1 h2 ⊢;rw[Lib.compareBytes,Lib.compareBytes];have D0:∀x y:UInt8,x<y↔x.toNat<y.toNat:=fun x y=>Iff.rfl;simp only[D0]at h1 h2 ⊢;by_cases a1:x.toNat<y.toNat
  ·have a2:¬z.toNat<y.toNat:=fun h=>by rw[f6 (by omega),g8 h]at h2;simp at h2
   rw[g8 (show x.toNat<z.toNat by omega)]
   exact⟨by decide,fun h=>by simp at h⟩
  ·by_cases a2:y.toNat<x.toNat
   ·rw[f6 a1,g8 a2]at h1;simp at h1
   ·have e:x.toNat=y.toNat:=by omega
    rw[f6 a1,f6 a2]at h1;rw[f6 a1,f6 a2,e];by_cases b1:y.toNat<z.toNat
    ·rw[g8 b1];exact⟨by decide,fun h=>by simp at h⟩
    ·by_cases b2:z.toNat<y.toNat
     ·rw[f6 b1,g8 b2]at h2;simp at h2
     ·rw[f6 b1,f6 b2]at h2
      rw[f6 b1,f6 b2,f6 b1,f6 b2];exact c3N h1 h2
theorem c4q(x y:Int):orD (-x) (-y) = - orD x y:=by
 unfold orD;by_cases h:x=0
 ·rw[g8 (by omega),g8 h]
 ·rw[f6 (by omega),f6 h]
theorem c4c(x:Dc):T3 x x=0:=by
 unfold T3;rw[c3H,c3H];rfl
theorem c3y(x y:Dc):T3 y x = - T3 x y:=by
 unfold T3;rw[c33 x.p.data.toList,c33 x.u.data.toList,c4q]
theorem c39{x y:Dc}(h:T3 x y=0):x=y:=by
 unfold T3 orD at h
 split at h
 ·next h1 =>
  obtain⟨xp,xu⟩:=x;obtain⟨yp,yu⟩:=y;have e1:=c3C h1;have e2:=c3C h;rw[Dc.mk.injEq];exact⟨G0 e1,G0 e2⟩
 ·next h1=>exact absurd h h1
theorem c3E{x y z:Dc}(h1:T3 x y<=0)(h2:T3 y z<=0):T3 x z<=0/\(T3 x z=0->T3 x y=0/\T3 y z=0):=by
 unfold T3 orD at *;have hp:=c3N (a:=x.p.data.toList) (b:=y.p.data.toList) (c:=z.p.data.toList);have hu:=c3N (a:=x.u.data.toList) (b:=y.u.data.toList) (c:=z.u.data.toList);have z1:Lib.compareBytes x.p.data.toList y.p.data.toList=0->Lib.compareBytes x.p.data.toList z.p.data.toList=Lib.compareBytes y.p.data.toList z.p.data.toList:=fun h=>by rw[c3C h]
 have z2:Lib.compareBytes y.p.data.toList z.p.data.toList=0->Lib.compareBytes x.p.data.toList z.p.data.toList=Lib.compareBytes x.p.data.toList y.p.data.toList:=fun h=>by rw[<-c3C h]
 generalize Lib.compareBytes x.p.data.toList y.p.data.toList=a at *;generalize Lib.compareBytes y.p.data.toList z.p.data.toList=b at *;generalize Lib.compareBytes x.p.data.toList z.p.data.toList=c at *;generalize Lib.compareBytes x.u.data.toList y.u.data.toList=d at *;generalize Lib.compareBytes y.u.data.toList z.u.data.toList=e at *;generalize Lib.compareBytes x.u.data.toList z.u.data.toList=f at *;by_cases ha:a=0
 ·have hc:=z1 ha
  subst hc;subst ha;rw[g8 rfl]at h1;by_cases hb:c=0
  ·subst hb
   rw[g8 rfl]at h2 ⊢;rw[g8 rfl];exact hu h1 h2
  ·rw[f6 hb]at h2 ⊢
   exact⟨h2,fun h=>absurd h hb⟩
 ·rw[f6 ha]at h1
  by_cases hb:b=0
  ·have hc:=z2 hb
   subst hc;rw[f6 ha];exact⟨h1,fun h=>absurd h ha⟩
  ·rw[f6 hb]at h2
   obtain⟨g1,g2⟩:=hp h1 h2;have hc:c≠0:=fun h=>ha (g2 h).1;rw[f6 hc];exact⟨g1,fun h=>absurd h hc⟩
theorem c4Q:Go.Sort.SWO (fun x y:Dc=>decide (T3 x y<0)) where
 irrefl x:=by rw[c4c];rfl
 trans x y z h1 h2:=by
  simp only[t8]at *;have:=c3E (x:=x) (y:=y) (z:=z) (by omega) (by omega)
  omega
 ntrans x y z h1 h2:=by
  simp only[F4]at *;have e1:=c3y x y;have e2:=c3y y z;have e3:=c3y x z;have:=(c3E (x:=z) (y:=y) (z:=x) (by omega) (by omega)).1
  omega
def c3F(l:List Dc):Prop:=l.Pairwise fun x y=>T3 x y<=0
theorem c34:∀{l k:List Dc},l.Perm k->c3F l->c3F k->l=k
 | [],k,h,_,_=>h.nil_eq
 |x::l,[],h,_,_=>by have:=h.length_eq;simp at this
 |x::l,y::k,h,h1,h2=>by
  unfold c3F at h1 h2;rw[List.pairwise_cons]at h1 h2
  have e:x=y:=by
   have hx:x∈y::k:=h.subset (by simp)
   have hy:y∈x::l:=h.symm.subset (by simp)
   rcases q8.1 hx with e|hx
   ·exact e
   ·rcases q8.1 hy with e|hy
    ·exact e.symm
    ·have a1:=h1.1 y hy
     have a2:=h2.1 x hx;have a3:=c3y x y;exact c39 (by omega)
  subst e;rw[c34 (List.Perm.cons_inv h) h1.2 h2.2]
end
end Go.Proofs.YtlgcigmolfhamaaGreatDoor
