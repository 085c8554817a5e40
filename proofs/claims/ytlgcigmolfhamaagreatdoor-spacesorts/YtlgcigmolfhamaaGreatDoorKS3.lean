/-
  apostilleref09: less. Conditions: none.
  apostilleref09: Same, of one list twice. Conditions: the lists lie as they are.
  A declaration laid among others in order; a list so laid. Plain mathematics. Conditions: none.
-/
import Derived.Test.YtlgcigmolfhamaaGreatDoorKS1
import Derived.BigQuiet
namespace Go.Proofs.YtlgcigmolfhamaaGreatDoor
open Go.RowKit
set_option linter.unusedVariables false
set_option maxRecDepth 100000
set_option maxHeartbeats 8000000
theorem c3Q:∀a b:List UInt8,Op.bytesLess a b=decide (Lib.compareBytes a b<0)
 | [],[]=>rfl
 | [],_::_=>rfl
 |_::_,[]=>rfl
 |c::a,d::b=>by
  have ih:=c3Q a b;unfold Op.bytesLess Lib.compareBytes;by_cases h1:c<d
  ·simp[h1]
  ·by_cases h2:d<c
   ·have D0:c≠d:=fun e=>by subst e;exact absurd h2 h1
    simp[h1,h2,D0]
   ·have he:c=d:=F1.1 (by
     have e1:¬c.toNat<d.toNat:=h1;have e2:¬d.toNat<c.toNat:=h2;omega)
    subst he;simp[ih]
theorem c4G(x y:Dc)(w:World):Calls Tryz.prog 57 #[.agg #[.string x.p,.string x.u],.agg #[.string y.p,.string y.u]] w fun e w'=>e=.returned (.bool (decide (T3 x y<0)))/\Below w.heap.size w w':=by
 obtain⟨xp,xu⟩:=x;obtain⟨yp,yu⟩:=y;dsimp only;by_cases hp:xp=yp
 ·subst hp
  go_enter Tryz.func57,Tryz.ntmps57;go_wp2;go_ret;refine⟨?_,((b8 _ _).alloc (c9 _) _).alloc (by simp) _⟩
  show Ending.returned (.bool (Op.bytesLess xu.toList yu.toList))=_
  rw[c3Q,f9,f9];unfold T3 orD;dsimp only;rw[g8 (c3H _)]
 ·have D0:(xp.toList==yp.toList)=false:=by
   rw[e9,f9,f9];exact fun e=>hp (G0 e)
  go_enter Tryz.func57,Tryz.ntmps57;go_wp2;go_ret;refine⟨?_,((b8 _ _).alloc (c9 _) _).alloc (by simp) _⟩
  show Ending.returned (.bool (Op.bytesLess xp.toList yp.toList))=_
  rw[c3Q,f9,f9];unfold T3 orD;dsimp only;rw[f6 (fun h=>hp (G0 (c3C h)))]
theorem c4z(ds:List Dc)(v1 v2:Value)(w:World)(h1:a0P w w.heap.size v1 ds)(h2:a0P w w.heap.size v2 ds)(hn:ds.length<=1000000) :
 Calls Tryz.prog 15 #[v1,v2] w fun e w'=>e=.returned (.bool true)/\Below w.heap.size w w':=by
 have H1:=a8 h1;have H2:=a8 h2;obtain⟨A1,c1,rfl,_,_,_⟩:=h1;obtain⟨A2,c2,rfl,_,_,_⟩:=h2;obtain⟨n,D2⟩ : ∃n,ds.length=n:=⟨_,rfl⟩;have HN:=a8 D2;rw[D2]at hn ⊢;have E3:((n:Int) != (n:Int))=false:=by simp
 clear D2;go_enter Tryz.func15,Tryz.ntmps15;go_wp2
 go_loopw [13] (fun i wr => ∃k:Nat,k<=n/\i=.int .i64 (k:Int)/\Below w.heap.size w wr) (fun i _=>n-(intOf i).toNat)
 case atStart=>exact⟨0,o4 _,rfl,b8 _ _⟩
 case round =>
  obtain⟨k,hk,rfl,hb⟩:=hrel;have HB:=a8 hb;by_cases D9:k<n
  ·have D3:k<ds.length:=by rw[HN.out];exact D9
   have E0:(k:Int)<(n:Int):=by omega
   obtain⟨b,o,cap',e,_,_,E4,D1⟩:=a0P.open (R1.below H1.out hb) (by omega)
   simp only[o5]at e;obtain⟨rfl,_,rfl⟩:=e;obtain⟨b',o',cap2',e,_,_,E1,D0⟩:=a0P.open (R1.below H2.out hb) (by omega)
   simp only[o5]at e;obtain⟨rfl,_,rfl⟩:=e;obtain⟨d0,d1⟩:=D1 k D3;obtain⟨f0,f1⟩:=D0 k D3;generalize ds[k]=x at *;clear D1 D0 hb
   go_upto_region 6 with fail
   go_quiet (fail)
   go_wp2
   go_roundw
   case rel=>exact⟨k+1,by omega,by go_num,i7 HB.out _⟩
   case measure=>simp[intOf];omega
  ·have E2:k=n:=by omega
   subst E2;have E0:¬(k:Int)<(k:Int):=by omega
   clear hb;go_wp2;go_ret;exact⟨rfl,HB.out⟩
def c3P(x y:Dc):Bool:=!decide (T3 x y<0)
def c3U(x:Dc)(l:List Dc):List Dc:=l.takeWhile (c3P x)++x::l.dropWhile (c3P x)
def c4k(l:List Dc):List Dc:=l.foldl (fun o x=>c3U x o) []
theorem c4n(x:Dc)(l:List Dc):(c3U x l).Perm (x::l):=by
 unfold c3U;have h:=List.perm_middle (a:=x) (l₁:=l.takeWhile (c3P x)) (l₂:=l.dropWhile (c3P x))
 rwa [List.takeWhile_append_dropWhile]at h
theorem c3M{x:Dc}:∀{l:List Dc},c3F l->∀y∈l.dropWhile (c3P x),T3 x y<=0
 | [],_,y,h=>by cases h
 |z::l,hs,y,h=>by
  unfold c3F at hs;rw[List.pairwise_cons]at hs;rw[List.dropWhile_cons]at h
  split at h
  ·exact c3M hs.2 y h
  ·next hz =>
   have hz':T3 x z<0:=by simpa [c3P]using hz
   rcases q8.1 h with rfl|h
   ·omega
   ·exact(c3E (by omega) (hs.1 y h)).1
theorem c4s(x:Dc){l:List Dc}(h:c3F l):c3F (c3U x l):=by
 have hd:=c3M (x:=x) h;unfold c3F c3U at *;have h2:=h;rw[<-List.takeWhile_append_dropWhile (p:=c3P x) (l:=l),List.pairwise_append]at h2;obtain⟨a1,a2,a3⟩:=h2;rw[List.pairwise_append,List.pairwise_cons];refine⟨a1,⟨fun y hy=>hd y hy,a2⟩,fun y hy z hz => ?_⟩;rcases q8.1 hz with rfl|hz
 ·have hn:c3P z y=true:=o9.1 List.all_takeWhile y hy
  have:¬T3 z y<0:=by simpa [c3P]using hn
  have:=c3y z y;omega
 ·exact a3 y hy z hz
theorem c3I:∀(l o:List Dc),c3F o->c3F (l.foldl (fun o x=>c3U x o) o)/\(l.foldl (fun o x=>c3U x o) o).Perm (o++l)
 | [],o,h=>⟨h,by simp⟩
 |x::l,o,h=>by
  obtain⟨h1,h2⟩:=c3I l (c3U x o) (c4s x h);refine⟨h1,h2.trans ?_⟩;exact((c4n x o).append_right l).trans (List.perm_middle (a:=x) (l₁:=o) (l₂:=l)).symm
theorem c4j(l:List Dc):c3F (c4k l):=(c3I l [] List.Pairwise.nil).1
theorem c36(l:List Dc):(c4k l).Perm l:=(c3I l [] List.Pairwise.nil).2
theorem c4C{l k:List Dc}(h:k.Perm l)(hs:c3F k):k=c4k l:=c34 (h.trans (c36 l).symm) hs (c4j l)
end Go.Proofs.YtlgcigmolfhamaaGreatDoor
