/-
  doc.declaredTwice and doc.markedTwice: whether two have one key. Conditions: the lists lie as they are; there are not too many; the texts are not too long.
  Who hangs on whom in a list of nodes: numbers alone. Conditions: none.
  Attributes, bare nodes, the Root; the document's own words on declarations. Conditions: the tables lie as they are laid, internal/bytealg.MaxLen holds some number; the texts are not too long.
  What is declared by the elements that aren't ended yet: how doc.scope lies in memory, and what it tells. Conditions: none.
-/
import Derived.Test.YtlgcigmolfhamaaGreatDoorK09
import Derived.Test.YtlgcigmolfhamaaGreatDoorK08
import Derived.Maps.Views
import Derived.Maps.OwnSet
import Derived.DeepKeys4
import Derived.StringKeys
import Derived.Test.YtlgcigmolfhamaaGreatDoorK11
import Derived.Deep.AppendLies
namespace Go.Proofs.YtlgcigmolfhamaaGreatDoor
set_option linter.unusedVariables false
set_option maxRecDepth 100000
set_option maxHeartbeats 4000000
section
open Go.RowKit Go.Maps Go.WideMaps
theorem a5K:laidOutB Tryz.prog=true:=by kernel_rfl
theorem Q6{α β:Type}{f:α->List β}{c:Nat}(hc:∀x,(f x).length=c):∀(l:List α) (i j:Nat) (hi:i<l.length),j<c->(l.flatMap f)[i*c+j]? = (f l[i])[j]?
 | [],i,j,hi,_=>by simp at hi
 |x::l,0,j,hi,hj=>by
  rw[List.flatMap_cons,Nat.zero_mul,F5,List.getElem?_append_left (by rw[hc];exact hj)];rfl
 |x::l,i+1,j,hi,hj=>by
  rw[List.flatMap_cons,List.getElem?_append_right (by rw[hc,Nat.add_mul];omega),hc,show(i+1)*c+j-c=i*c+j by rw[Nat.add_mul];omega]
  exact Q6 hc l i j (by simpa using hi) hj
theorem N2{α β:Type}{f:α->List β}{c:Nat}(hc:∀x,(f x).length=c):∀(l:List α),(l.flatMap f).length=l.length*c
 | []=>by simp
 |x::l=>by rw[List.flatMap_cons,e8,hc,N2 hc l,i8,Nat.add_mul];omega
theorem R1.open{w:World}{B:Nat}{v:Value}{n c:Nat}{xs:List Value}(h:R1 w B v n xs)(hl:xs.length=n*c)(hc:0<c)(hn:0<n) :
 ∃b o cap,v=.slice (some ⟨b,o,none⟩) n cap/\n<=cap/\cap<=9223372036854775807/\b<B/\∀j u,xs[j]? = some u->w.cell? ⟨b,o+j,none⟩=some u:=by
 obtain⟨A,cap,e,h1,h2,h3⟩:=h;obtain⟨b,o,rfl,hb,D0⟩:=h3 (by intro h0;rw[h0]at hl;simp at hl;have:=Nat.mul_pos hn hc;omega)
 refine⟨b,o,cap,e,h1,h2,hb,fun j u hu => ?_⟩;obtain⟨hj,hu⟩:=z8.1 hu;rw[D0 j hj,hu]
theorem a0P.open{w:World}{B:Nat}{v:Value}{ds:List Dc}(h:a0P w B v ds)(hn:0<ds.length) :
 ∃b o cap,v=.slice (some ⟨b,o,none⟩) ds.length cap/\ds.length<=cap/\cap<=9223372036854775807/\b<B/\∀i (hi:i<ds.length),w.cell? ⟨b,o+i*2,none⟩=some (.string ds[i].p)/\w.cell? ⟨b,o+i*2+1,none⟩=some (.string ds[i].u):=by
 obtain⟨b,o,cap,e,h1,h2,hb,hc⟩:=R1.open h (N2 (c:=2) (fun _=>rfl) ds) (by omega) hn
 refine⟨b,o,cap,e,h1,h2,hb,fun i hi=>⟨?_,?_⟩⟩
 ·exact hc (i*2) _ (by have:=Q6 (f:=C1) (c:=2) (fun _=>rfl) ds i 0 hi (by omega);rw[Nat.add_zero]at this;rw[this];rfl)
 ·rw[Nat.add_assoc]
  exact hc (i*2+1) _ (by rw[Q6 (f:=C1) (c:=2) (fun _=>rfl) ds i 1 hi (by omega)];rfl)
theorem a23.open{w:World}{B:Nat}{v:Value}{ats:List At}(h:a23 w B v ats)(hn:0<ats.length) :
 ∃b o cap,v=.slice (some ⟨b,o,none⟩) ats.length cap/\ats.length<=cap/\cap<=9223372036854775807/\b<B/\∀i (hi:i<ats.length),w.cell? ⟨b,o+i*4,none⟩=some (.string ats[i].p)/\w.cell? ⟨b,o+i*4+1,none⟩=some (.string ats[i].l) /\
  w.cell? ⟨b,o+i*4+2,none⟩=some (.string ats[i].u)/\w.cell? ⟨b,o+i*4+3,none⟩=some (.string ats[i].v):=by
 obtain⟨b,o,cap,e,h1,h2,hb,hc⟩:=R1.open h (N2 (c:=4) (fun _=>rfl) ats) (by omega) hn
 refine⟨b,o,cap,e,h1,h2,hb,fun i hi=>⟨?_,?_,?_,?_⟩⟩
 ·exact hc (i*4) _ (by have:=Q6 (f:=atC) (c:=4) (fun _=>rfl) ats i 0 hi (by omega);rw[Nat.add_zero]at this;rw[this];rfl)
 ·rw[Nat.add_assoc]
  exact hc (i*4+1) _ (by rw[Q6 (f:=atC) (c:=4) (fun _=>rfl) ats i 1 hi (by omega)];rfl)
 ·rw[Nat.add_assoc]
  exact hc (i*4+2) _ (by rw[Q6 (f:=atC) (c:=4) (fun _=>rfl) ats i 2 hi (by omega)];rfl)
 ·rw[Nat.add_assoc]
  exact hc (i*4+3) _ (by rw[Q6 (f:=atC) (c:=4) (fun _=>rfl) ats i 3 hi (by omega)];rfl)
def a22(D:DataW Unit)(L:List Lit):Prop:=Tidy D/\(∀x,has D x=L.any (fun y=>y.sameKey x))/\Maps.size D<=L.length/\(Maps.size D=L.length↔L.Nodup)
theorem a6O:a22 (.map []) []:=⟨tidy_empty,fun _=>rfl,c9 _,by simp[Maps.size]⟩
theorem a6N{D:DataW Unit}{L:List Lit}(h:a22 D L){k:Lit}(hk:WideAt.IsKeyLit k)(hL:∀y∈L,WideAt.IsKeyLit y)(d:DataW Unit):a22 (D.put k d) (L++[k]):=by
 obtain⟨h1,h2,h3,h4⟩:=h
 have D0:has D k=true↔k∈L:=by
  rw[h2,List.any_eq_true]
  constructor
  ·rintro⟨y,hy,e⟩
   rwa [<-WideAt.sameKey_eq e]
  ·intro h
   exact⟨k,h,WideAt.sameKey_self hk⟩
 refine⟨h1.put hk d,fun x => ?_,?_,?_⟩
 ·by_cases e:x=k
  ·subst e
   rw[has_put_same h1.isMap hk,List.any_append];simp[WideAt.sameKey_self hk]
  ·rw[has_put_other e,h2,List.any_append]
   simp[sameKey_ne (fun h=>e h.symm)]
 ·rw[size_put h1,e8]
  split<;>simp<;>omega
 ·rw[size_put h1,e8,List.nodup_append]
  by_cases hb:k∈L
  ·rw[g8 (D0.2 hb)]
   constructor
   ·intro h;simp at h;omega
   ·rintro⟨_,_,h⟩
    exact absurd rfl (h k hb k (by simp))
  ·have hf:has D k=false:=by
    cases hh:has D k with
    |false=>rfl
    |true=>exact absurd (D0.1 hh) hb
   rw[f6 (by rw[hf];simp)]
   constructor
   ·intro h
    refine⟨h4.1 (by simp at h;omega),by simp,fun a ha b hb' e => ?_⟩
    simp at hb';exact hb (by rw[<-hb',<-e];exact ha)
   ·rintro⟨h,_,_⟩
    have:=h4.2 h;simp;omega
theorem b6J:Keyed Tryz.prog 9:=string_keyed Tryz.underlying9
theorem b6K(S:ByteArray)(h:S.size<=2000000):keyOf Tryz.prog 9 (.string S)=some (.string S.data.toList):=keyOf_string_mk Tryz.underlying9 (by unfold maxLen;omega)
theorem b9o(w:World):(zeroValue 3).run Tryz.prog w=.ok (.int .i64 0) w:=by kernel_rfl
theorem c00:Keyed Tryz.prog 232:=Keyed.of_law (deep_law_laid a5K (m:=2) (by omega) (of_decide_eq_true (by kernel_rfl)) (by kernel_rfl) (by kernel_rfl))
def a6P(L U:ByteArray):Lit:=.string (keyBytes [.string L.data.toList,.string U.data.toList])
theorem b9q(d:Nat)(S:ByteArray)(h:S.size<=2000000):Tryz.prog.keyLits (d+1) 9 [.string S]=some [.string S.data.toList]:=by
 have D0:S.size<=maxLen:=by unfold maxLen;omega
 simp[Program.keyLits,Tryz.underlying9,D0]
theorem c0X(d:Nat)(L U:ByteArray)(h1:L.size<=2000000)(h2:U.size<=2000000):Tryz.prog.keyLits (d+2) 232 [.string L,.string U]=some [.string L.data.toList,.string U.data.toList]:=by
 have hc:Tryz.prog.cellsOf 232 = 2:=by kernel_rfl
 have hs:Tryz.prog.cellsOf 9 = 1:=by kernel_rfl
 have e1:=b9q d L h1;have e2:=b9q d U h2;unfold Program.keyLits;rw[Tryz.underlying232];simp[hc,hs,e1,e2]
theorem c0h(L U:ByteArray)(h1:L.size<=2000000)(h2:U.size<=2000000):keyOf Tryz.prog 232 (.agg #[.string L,.string U])=some (a6P L U):=by
 have hk:Tryz.prog.keyType 232 = true:=by kernel_rfl
 have hc:Tryz.prog.cellsOf 232 = 2:=by kernel_rfl
 have hf:Value.formed Tryz.prog 232 (.agg #[.string L,.string U])=true:=by
  simp[Value.formed,Tryz.underlying232,hc]
 obtain⟨d,hd⟩ : ∃d,Tryz.prog.types.size+1=d+2:=⟨Tryz.prog.types.size-1,by
  have:1<=Tryz.prog.types.size:=of_decide_eq_true (by kernel_rfl)
  omega⟩
 have e:=c0X d L U h1 h2;rw[<-hd]at e;unfold keyOf;rw[Tryz.underlying232];dsimp only;rw[hk,hf];have D0:(Value.agg #[.string L,.string U]).cells.toList=[.string L,.string U]:=rfl;rw[D0,e]
 rfl
theorem b4T{L U L' U':ByteArray}(h1:L.size<=2000000)(h2:U.size<=2000000)(h3:L'.size<=2000000)(h4:U'.size<=2000000)(h:a6P L U=a6P L' U'):L=L'/\U=U':=by
 have e:=c00.inj (c0h L U h1 h2) (by rw[h];exact c0h L' U' h3 h4)
 simp at e;exact e
def b9z(w:World)(T:TypeId)(L:Nat->List Lit)(n:Nat)(i:Value)(wr:World):Prop :=
 ∃(k:Nat) (D:DataW Unit),k<=n/\i=.int .i64 k/\wr.ownsMap Tryz.prog T (plainElem Tryz.prog 3) w.heap.size k D/\a22 D (L k)/\Below w.heap.size w wr
def V8(ds:List Dc):List Lit:=ds.map fun d => .string d.p.data.toList
theorem b2H(ds:List Dc)(d:Dc):V8 (ds++[d])=V8 ds++[.string d.p.data.toList]:=by unfold V8;rw[List.map_append];rfl
def X9(ats:List At):List Lit:=ats.map fun a=>a6P a.l a.u
theorem b2T(ats:List At)(a:At):X9 (ats++[a])=X9 ats++[a6P a.l a.u]:=by unfold X9;rw[List.map_append];rfl
open Classical in
noncomputable def a0c(L:List Lit):Bool:=!decide L.Nodup
theorem a7r(ds:List Dc)(v:Value)(w:World)(hv:a0P w w.heap.size v ds)(hn:ds.length<=2000000)(hs:∀d∈ds,d.p.size<=2000000) :
 Calls Tryz.prog 207 #[v] w fun e w'=>e=.returned (.bool (a0c (V8 ds)))/\Below w.heap.size w w':=by
 have E7:=@run_makeMap Tryz.prog;have HV:=a8 hv;obtain⟨A,cap,rfl,E8,G0,_⟩:=hv
 have HR:=a8 (show ∀(D:DataW Unit),a22 D (V8 ds)->((Maps.size D:Int)<(ds.length:Int)↔a0c (V8 ds)=true)from fun D ⟨_,_,h1,h2⟩=>by
  have hl:(V8 ds).length=ds.length:=by simp[V8]
  rw[hl]at h1 h2;simp only[a0c,Bool.not_eq_true',F4,<-h2];omega)
 generalize a0c (V8 ds)=R at *;go_enter Tryz.func207,Tryz.ntmps207;go_wp2
 go_loopw [9] (b9z w 9 (fun k=>V8 (ds.take k)) ds.length) (fun i _=>ds.length-(intOf i).toNat)
 case atStart=>exact⟨0,.map [],o4 _,rfl,World.ownsMap_made _ _ _ _,a6O,(b8 _ _).alloc (c9 _) _⟩
 case round =>
  obtain⟨k,D,hk,rfl,D2,E2,D3⟩:=hrel;have E3:=a8 E2;clear E2;by_cases E0:k<ds.length
  ·obtain⟨b,o,cap',e,_,_,E4,D1⟩:=a0P.open HV.out (by omega)
   simp only[o5]at e;obtain⟨rfl,_,rfl⟩:=e;obtain⟨c0,c1⟩:=D1 k E0;replace c0:=(D3.cell (p:=⟨b,o+k*2,none⟩) E4).trans c0;replace c1:=(D3.cell (p:=⟨b,o+k*2+1,none⟩) E4).trans c1;have E1:=b6K ds[k].p (hs _ (o0 E0))
   have HN:Hid (∀d,a22 (D.put (.string ds[k].p.data.toList) d) (V8 (ds.take (k+1)))):=fun d=>by
    rw[l8 E0,b2H];exact a6N (k:=.string ds[k].p.data.toList) E3.out trivial (fun y hy=>by simp only[V8,List.mem_map]at hy;obtain⟨_,_,rfl⟩:=hy;trivial) d
   generalize ds[k].p=P at *;generalize ds[k].u=U at *;have G1:(k:Int)<(ds.length:Int):=by omega
   clear D1
   go_wp2_with (at_mapUpdate;refine wpList_mapUpdate_own _ rfl _ _ _ 90 rfl 9 3 b6J Tryz.underlying90 _ w.heap.size k D rfl (D2.alloc _) (by unfold maxLen;omega) _ _ _ rfl rfl E1 _ [] (plainElem_int Tryz.underlying3 (WalkArith.wf_i64 (by omega))) ?_)
   intro w1 D9 D0;have R2:=(D3.alloc D3.size _).grown D0 (d8 D3.size (by simp)) (fun j hj=>by cases hj;exact c9 _)
   clear D0 D2 D3 c0 c1;go_wp2
   go_roundw
   case rel=>exact⟨k+1,_,E0,by go_num,D9,HN.out _,R2⟩
   case measure=>simp[intOf];omega
  ·have E5:k=ds.length:=by omega
   subst E5;have E6:=HR.out D (by have:=E3.out;dsimp only at this;rwa [I1]at this)
   go_wp2_with (at_len;refine wpList_len_own _ rfl _ 90 rfl 9 3 Tryz.underlying90 _ w.heap.size _ D rfl D2 ?_)
   go_ret;exact⟨rfl,D3⟩
theorem a7u(ats:List At)(v:Value)(w:World)(hv:a23 w w.heap.size v ats)(hn:ats.length<=2000000)(hs:∀a∈ats,a.l.size<=2000000/\a.u.size<=2000000) :
 Calls Tryz.prog 208 #[v] w fun e w'=>e=.returned (.bool (a0c (X9 ats)))/\Below w.heap.size w w':=by
 have E7:=@run_makeMap Tryz.prog;have HV:=a8 hv;obtain⟨A,cap,rfl,E8,G0,_⟩:=hv
 have HR:=a8 (show ∀(D:DataW Unit),a22 D (X9 ats)->((Maps.size D:Int)<(ats.length:Int)↔a0c (X9 ats)=true)from fun D ⟨_,_,h1,h2⟩=>by
  have hl:(X9 ats).length=ats.length:=by simp[X9]
  rw[hl]at h1 h2;simp only[a0c,Bool.not_eq_true',F4,<-h2];omega)
 generalize a0c (X9 ats)=R at *;go_enter Tryz.func208,Tryz.ntmps208;go_wp2
 go_loopw [9] (b9z w 232 (fun k=>X9 (ats.take k)) ats.length) (fun i _=>ats.length-(intOf i).toNat)
 case atStart=>exact⟨0,.map [],o4 _,rfl,World.ownsMap_made _ _ _ _,a6O,(b8 _ _).alloc (c9 _) _⟩
 case round =>
  obtain⟨k,D,hk,rfl,D3,E3,D1⟩:=hrel;have E4:=a8 E3;clear E3;by_cases D9:k<ats.length
  ·obtain⟨b,o,cap',e,_,_,E1,D2⟩:=a23.open HV.out (by omega)
   simp only[o5]at e;obtain⟨rfl,_,rfl⟩:=e;obtain⟨c0,c1,c2,c3⟩:=D2 k D9;replace c0:=(D1.cell (p:=⟨b,o+k*4,none⟩) E1).trans c0;replace c1:=(D1.cell (p:=⟨b,o+k*4+1,none⟩) E1).trans c1;replace c2:=(D1.cell (p:=⟨b,o+k*4+2,none⟩) E1).trans c2;replace c3:=(D1.cell (p:=⟨b,o+k*4+3,none⟩) E1).trans c3;have E2:=c0h ats[k].l ats[k].u (hs _ (o0 D9)).1 (hs _ (o0 D9)).2
   have HN:Hid (∀d,a22 (D.put (a6P ats[k].l ats[k].u) d) (X9 (ats.take (k+1)))):=fun d=>by
    rw[l8 D9,b2T];exact a6N (k:=a6P ats[k].l ats[k].u) E4.out trivial (fun y hy=>by simp only[X9,List.mem_map]at hy;obtain⟨_,_,rfl⟩:=hy;trivial) d
   generalize ats[k].p=P at *;generalize ats[k].l=L at *;generalize ats[k].u=U at *;generalize ats[k].v=V at *;have G1:(k:Int)<(ats.length:Int):=by omega
   clear D2
   go_wp2_with (at_mapUpdate;refine wpList_mapUpdate_own _ rfl _ _ _ 230 rfl 232 3 c00 Tryz.underlying230 _ w.heap.size k D rfl (D3.alloc _) (by unfold maxLen;omega) _ _ _ rfl rfl E2 _ [] (plainElem_int Tryz.underlying3 (WalkArith.wf_i64 (by omega))) ?_)
   intro w1 E0 D0;have R2:=(D1.alloc D1.size _).grown D0 (d8 D1.size (by simp)) (fun j hj=>by cases hj;exact c9 _)
   clear D0 D3 D1 c0 c1 c2 c3;go_wp2
   go_roundw
   case rel=>exact⟨k+1,_,D9,by go_num,E0,HN.out _,R2⟩
   case measure=>simp[intOf];omega
  ·have E5:k=ats.length:=by omega
   subst E5;have E6:=HR.out D (by have:=E4.out;dsimp only at this;rwa [I1]at this)
   go_wp2_with (at_len;refine wpList_len_own _ rfl _ 230 rfl 232 3 Tryz.underlying230 _ w.heap.size _ D rfl D3 ?_)
   go_ret;exact⟨rfl,D1⟩
end
def pa(l:List Nd)(i:Nat):Int:=((l[i]?).map (·.n)).getD (-1)
def kd(l:List Nd)(i:Nat):Int:=((l[i]?).map (·.k)).getD (-1)
theorem Z5{l:List Nd}{i:Nat}(h:i<l.length):pa l i=l[i].n:=by simp[pa,i5 h]
theorem a2s{l:List Nd}{i:Nat}(h:i<l.length):kd l i=l[i].k:=by simp[kd,i5 h]
def T4(l:List Nd)(n:Nat):List Nat :=
 n::(if h:0<=pa l n/\(pa l n).toNat<n then T4 l (pa l n).toNat else[])
termination_by n
decreasing_by exact h.2
theorem a0q{l:List Nd}{n:Nat}(h:0<=pa l n/\(pa l n).toNat<n):T4 l n=n::T4 l (pa l n).toNat:=by rw[T4,dif_pos h]
theorem a0N{l:List Nd}{n:Nat}(h:¬(0<=pa l n/\(pa l n).toNat<n)):T4 l n=[n]:=by rw[T4,dif_neg h]
theorem b1o(l:List Nd)(n:Nat):n∈T4 l n:=by rw[T4];exact List.mem_cons_self
theorem a69{l:List Nd}:∀{n m:Nat},m∈T4 l n->m<=n:=by
 intro n
 induction n using Nat.strongRecOn with
 |ind n ih =>
  intro m h;by_cases hp:0<=pa l n/\(pa l n).toNat<n
  ·rw[a0q hp,q8]at h
   rcases h with rfl|h
   ·exact c9 _
   ·have:=ih _ hp.2 h;omega
  ·rw[a0N hp,r8]at h
   omega
def W4(l:List Nd)(i:Nat):Prop:=∀j,1<=j->j<i->0<=pa l j/\pa l j<(j:Int)
theorem W4.toNat{l:List Nd}{i j:Nat}(h:W4 l i)(h1:1<=j)(h2:j<i):0<=pa l j/\(pa l j).toNat<j:=by
 have:=h j h1 h2;omega
theorem W4.mono{l:List Nd}{i j:Nat}(h:W4 l i)(hj:j<=i):W4 l j:=fun k h1 h2=>h k h1 (by omega)
def S4(l:List Nd)(i:Nat):Bool:=decide (0<=pa l i)&&decide ((pa l i).toNat∈T4 l (i-1))&&(kd l (pa l i).toNat==0||kd l (pa l i).toNat==1)
theorem b0F{l:List Nd}{i a p:Nat}(h:W4 l i)(ha:a<i)(hp:p<a):p∈T4 l a↔p∈T4 l (pa l a).toNat:=by
 rw[a0q (h.toNat (by omega) ha),q8]
 constructor
 ·rintro(rfl|h)
  ·omega
  ·exact h
 ·exact .inr
theorem b3h{l:List Nd}{a p:Nat}(hp:a<=p):p∈T4 l a↔p=a:=by
 constructor
 ·intro h;have:=a69 h;omega
 ·rintro rfl;exact b1o l p
section
open Go.RowKit
theorem b71(n:Nat):∃b,decide (n=0)=b/\Hid (((n:Int)==0)=b):=⟨_,rfl,by
 show((n:Int)==0)=decide (n=0)
 rw[A8];simp⟩
theorem a1N(n k:Int):∃b,(n==k)=b/\Hid ((n==k)=b):=⟨_,rfl,rfl⟩
theorem b7w(a:At)(h1:a.p.size<=2000000)(h2:a.l.size<=2000000)(h3:a.v.size<=2000000)(w:World)(hW:Wd w):Calls Tryz.prog 206 #[.agg #[.string a.p,.string a.l,.string a.u,.string a.v]] w fun e w'=>e=.returned (.bool (a0y a))/\Below w.heap.size w w':=by
 have HP:Hid (∀w',Below w.heap.size w w'->Calls Tryz.prog 204 #[.string a.p] w' fun e w''=>e=.returned (.bool (a0g a.p))/\Below w'.heap.size w' w''):=fun w' hb=>a3H a.p h1 w' (hW.later hb);have HN:Hid (∀w',Below w.heap.size w w'->Calls Tryz.prog 199 #[.string a.l] w' fun e w''=>e=.returned (.bool (nmS a.l))/\Below w'.heap.size w' w''):=fun w' hb=>a3K a.l h2 w' (hW.later hb).tabs;have HT:Hid (∀w',Below w.heap.size w w'->Calls Tryz.prog 169 #[.string a.v] w' fun e w''=>e=.returned (.bool (tx a.v))/\Below w'.heap.size w' w''):=fun w' hb=>a1j a.v h3 w' (hW.later hb);clear hW;unfold a0y;obtain⟨P,L,U,V⟩:=a;dsimp only at *;generalize a0g P=B2 at *;generalize nmS L=B1 at *;generalize tx V=B3 at *;obtain⟨b1,e1,E1⟩:=a0z P;obtain⟨b2,e2,E2⟩:=tst L L2;rw[e1,e2];clear e1 e2;unfold L2 at E2;go_enter Tryz.func206,Tryz.ntmps206;obtain⟨t1,t1'⟩:=E1.out;cases b1 with
 |false =>
  go_wp2_with fail
  refine(HN.out _ ((b8 _ _).alloc (c9 _) _)).mono ?_;rintro e w1⟨rfl,D1⟩;have c0:=v8 (j:=0) D1 rfl;have c1:=v8 (j:=1) D1 rfl;have c2:=v8 (j:=2) D1 rfl;have c3:=v8 (j:=3) D1 rfl;have D0:=E8 D1;cases B1 with
  |false =>
   go_wp2;go_ret;exact⟨rfl,D0⟩
  |true =>
   go_wp2_with fail
   refine(Q5 D1.size D1 (HP.out _ D0)).mono ?_;rintro e w2⟨rfl,D2⟩;replace c0:=v8 (j:=0) D2 rfl;replace c1:=v8 (j:=1) D2 rfl;replace c2:=v8 (j:=2) D2 rfl;replace c3:=v8 (j:=3) D2 rfl;replace D0:=E8 D2;clear D1;cases B2 with
   |false =>
    go_wp2;go_ret;exact⟨rfl,D0⟩
   |true =>
    go_wp2_with fail
    refine(Q5 D2.size D2 (HT.out _ D0)).mono ?_;rintro e w3⟨rfl,E0⟩;replace c0:=v8 (j:=0) E0 rfl;replace c1:=v8 (j:=1) E0 rfl;replace c2:=v8 (j:=2) E0 rfl;replace c3:=v8 (j:=3) E0 rfl;replace D0:=E8 E0;clear D2;go_wp2;go_ret;exact⟨by simp,D0⟩
 |true =>
  have t2:=E2.out;cases b2 with
  |false =>
   go_wp2_with fail
   refine(HN.out _ ((b8 _ _).alloc (c9 _) _)).mono ?_;rintro e w4⟨rfl,D3⟩;have c0:=v8 (j:=0) D3 rfl;have c1:=v8 (j:=1) D3 rfl;have c2:=v8 (j:=2) D3 rfl;have c3:=v8 (j:=3) D3 rfl;have D0:=E8 D3;cases B1 with
   |false =>
    go_wp2;go_ret;exact⟨rfl,D0⟩
   |true =>
    go_wp2_with fail
    refine(Q5 D3.size D3 (HP.out _ D0)).mono ?_;rintro e w5⟨rfl,D9⟩;replace c0:=v8 (j:=0) D9 rfl;replace c1:=v8 (j:=1) D9 rfl;replace c2:=v8 (j:=2) D9 rfl;replace c3:=v8 (j:=3) D9 rfl;replace D0:=E8 D9;clear D3;cases B2 with
    |false =>
     go_wp2;go_ret;exact⟨rfl,D0⟩
    |true =>
     go_wp2_with fail
     refine(Q5 D9.size D9 (HT.out _ D0)).mono ?_;rintro e w6⟨rfl,E3⟩;replace c0:=v8 (j:=0) E3 rfl;replace c1:=v8 (j:=1) E3 rfl;replace c2:=v8 (j:=2) E3 rfl;replace c3:=v8 (j:=3) E3 rfl;replace D0:=E8 E3;clear D9;go_wp2;go_ret;exact⟨by simp,D0⟩
  |true =>
   go_wp2;go_ret;exact⟨rfl,(b8 _ _).alloc (c9 _) _⟩
theorem b4p(d:Dc)(h1:d.p.size<=2000000)(h2:d.u.size<=2000000)(w:World):Calls Tryz.prog 180 #[.agg #[.string d.p,.string d.u]] w fun e w'=>e=.returned (.bool (T6 d))/\Below w.heap.size w w':=by
 have HN:Hid (∀w',Below w.heap.size w w'->Calls Tryz.prog 181 #[.string d.p] w' fun e w''=>e=.returned (.bool (nmS d.p))/\Below w'.heap.size w' w''):=fun w' hb=>a07 d.p h1 w';have HT:Hid (∀w',Below w.heap.size w w'->Calls Tryz.prog 182 #[.string d.u] w' fun e w''=>e=.returned (.bool (tx d.u))/\Below w'.heap.size w' w''):=fun w' hb=>a2g d.u h2 w';unfold T6 a0g;obtain⟨P,U⟩:=d;dsimp only at *;generalize nmS P=B1 at *;generalize tx U=B3 at *;obtain⟨b1,e1,E1⟩:=tst P L2;obtain⟨b2,e2,E2⟩:=tst U a4K;obtain⟨b3,e3,E3⟩:=a0z U;obtain⟨b4,e4,E4⟩:=a0z P;obtain⟨b5,e5,E5⟩:=tst P a1K;obtain⟨b6,e6,E6⟩:=tst U a3T;rw[e1,e2,e3,e4,e5,e6];clear e1 e2 e3 e4 e5 e6;unfold L2 at E1;unfold a4K at E2;unfold a1K at E5;unfold a3T at E6;go_enter Tryz.func180,Tryz.ntmps180;obtain⟨t4,t4'⟩:=E4.out;cases b4 with
 |false =>
  go_wp2_with fail
  refine(HN.out _ ((b8 _ _).alloc (c9 _) _)).mono ?_;rintro e w1⟨rfl,D1⟩;have c0:=v8 (j:=0) D1 rfl;have c1:=v8 (j:=1) D1 rfl;have D0:=E8 D1;cases B1 with
  |false =>
   go_wp2;go_ret;exact⟨rfl,D0⟩
  |true =>
   have t1:=E1.out;cases b1 with
   |false =>
    go_wp2_with fail
    refine(Q5 D1.size D1 (HT.out _ D0)).mono ?_;rintro e w2⟨rfl,D2⟩;replace c0:=v8 (j:=0) D2 rfl;replace c1:=v8 (j:=1) D2 rfl;replace D0:=E8 D2;clear D1;cases B3 with
    |false =>
     go_wp2;go_ret;exact⟨rfl,D0⟩
    |true =>
     have t2:=E2.out;cases b2 with
     |false =>
      obtain⟨t3,t3'⟩:=E3.out;have t5:=E5.out;have t6:=E6.out;cases b3 with
      |false =>
       go_wp2;go_ret;exact⟨rfl,D0⟩
      |true =>
       go_wp2;go_ret;exact⟨rfl,D0⟩
     |true =>
      go_wp2;go_ret;exact⟨rfl,D0⟩
   |true =>
    go_wp2;go_ret;exact⟨rfl,D0⟩
 |true =>
  have t1:=E1.out;cases b1 with
  |false =>
   go_wp2_with fail
   refine(HT.out _ ((b8 _ _).alloc (c9 _) _)).mono ?_;rintro e w3⟨rfl,D3⟩;have c0:=v8 (j:=0) D3 rfl;have c1:=v8 (j:=1) D3 rfl;have D0:=E8 D3;cases B3 with
   |false =>
    go_wp2;go_ret;exact⟨rfl,D0⟩
   |true =>
    have t2:=E2.out;cases b2 with
    |false =>
     obtain⟨t3,t3'⟩:=E3.out;have t5:=E5.out;have t6:=E6.out;cases b3 with
     |false =>
      go_wp2;go_ret;exact⟨rfl,D0⟩
     |true =>
      go_wp2;go_ret;exact⟨rfl,D0⟩
    |true =>
     go_wp2;go_ret;exact⟨rfl,D0⟩
  |true =>
   go_wp2;go_ret;exact⟨rfl,(b8 _ _).alloc (c9 _) _⟩
def Q8(x:Nd):Bool:=N4 x.p []&&(N4 x.u []&&(decide (x.ds.length=0)&&decide (x.ats.length=0)))
theorem b1t(x:Nd)(v:Value)(w:World)(hv:NdV w w.heap.size v x):Calls Tryz.prog 165 #[v] w fun e w'=>e=.returned (.bool (Q8 x))/\Below w.heap.size w w':=by
 obtain⟨vd,va,rfl,⟨A1,cap1,rfl,_⟩,⟨A2,cap2,rfl,_⟩⟩:=hv;unfold Q8;obtain⟨K,N,P,L,U,T,ds,ats⟩:=x;dsimp only at *;obtain⟨b1,e1,E1⟩:=a0z P;obtain⟨b2,e2,E2⟩:=a0z U;obtain⟨b3,e3,E3⟩:=b71 ds.length;obtain⟨b4,e4,E4⟩:=b71 ats.length;rw[e1,e2,e3,e4];clear e1 e2 e3 e4;generalize ds.length=nd at *;generalize ats.length=na at *;go_enter Tryz.func165,Tryz.ntmps165;obtain⟨t1,t1'⟩:=E1.out;cases b1 with
 |false =>
  go_wp2;go_ret;exact⟨rfl,(b8 _ _).alloc (c9 _) _⟩
 |true =>
  obtain⟨t2,t2'⟩:=E2.out;cases b2 with
  |false =>
   go_wp2;go_ret;exact⟨rfl,(b8 _ _).alloc (c9 _) _⟩
  |true =>
   have t3:=E3.out;cases b3 with
   |false =>
    go_wp2;go_ret;exact⟨rfl,(b8 _ _).alloc (c9 _) _⟩
   |true =>
    have t4:=E4.out;cases b4 with
    |false =>
     go_wp2;go_ret;exact⟨rfl,(b8 _ _).alloc (c9 _) _⟩
    |true =>
     go_wp2;go_ret;exact⟨rfl,(b8 _ _).alloc (c9 _) _⟩
theorem a7N(x:Nd)(v:Value)(w:World)(hv:NdV w w.heap.size v x):Calls Tryz.prog 134 #[v] w fun e w'=>e=.returned (.bool (Q8 x))/\Below w.heap.size w w':=by
 obtain⟨vd,va,rfl,⟨A1,cap1,rfl,_⟩,⟨A2,cap2,rfl,_⟩⟩:=hv;unfold Q8;obtain⟨K,N,P,L,U,T,ds,ats⟩:=x;dsimp only at *;obtain⟨b1,e1,E1⟩:=a0z P;obtain⟨b2,e2,E2⟩:=a0z U;obtain⟨b3,e3,E3⟩:=b71 ds.length;obtain⟨b4,e4,E4⟩:=b71 ats.length;rw[e1,e2,e3,e4];clear e1 e2 e3 e4;generalize ds.length=nd at *;generalize ats.length=na at *;go_enter Tryz.func134,Tryz.ntmps134;obtain⟨t1,t1'⟩:=E1.out;cases b1 with
 |false =>
  go_wp2;go_ret;exact⟨rfl,(b8 _ _).alloc (c9 _) _⟩
 |true =>
  obtain⟨t2,t2'⟩:=E2.out;cases b2 with
  |false =>
   go_wp2;go_ret;exact⟨rfl,(b8 _ _).alloc (c9 _) _⟩
  |true =>
   have t3:=E3.out;cases b3 with
   |false =>
    go_wp2;go_ret;exact⟨rfl,(b8 _ _).alloc (c9 _) _⟩
   |true =>
    have t4:=E4.out;cases b4 with
    |false =>
     go_wp2;go_ret;exact⟨rfl,(b8 _ _).alloc (c9 _) _⟩
    |true =>
     go_wp2;go_ret;exact⟨rfl,(b8 _ _).alloc (c9 _) _⟩
end
section
open Go.RowKit Go.Maps Go.WideMaps
def nrS:List Dc->List UInt8->Nat
 | [],_=>0
 |d::S,s=>if d.p.data.toList=s then S.length+1 else nrS S s
def a0D:List Dc->List Value
 | [] => []
 |d::S=>a0D S++[.string d.u,.int .i64 (nrS S d.p.data.toList:Nat)]
theorem S0:∀S,(a0D S).length=S.length*2
 | []=>rfl
 |d::S=>by rw[a0D,e8,S0 S];simp;omega
theorem a84:∀S s,nrS S s<=S.length
 | [],_=>c9 _
 |d::S,s=>by
  rw[nrS]
  split
  ·exact c9 _
  ·have:=a84 S s;simp;omega
def a0x(S:List Dc)(s:List UInt8):Option ByteArray:=(S.find? (fun d=>decide (d.p.data.toList=s))).map (·.u)
theorem a8a:∀{S s},a0x S s=none↔nrS S s=0
 | [],s=>by simp[a0x,nrS]
 |d::S,s=>by
  by_cases h:d.p.data.toList=s
  ·simp[a0x,nrS,h]
  ·have:=a8a (S:=S) (s:=s)
   simp[a0x,nrS,h]at this ⊢;exact this
theorem a79:∀{S s z},a0x S s=some z->∃k,nrS S s=k+1/\(a0D S)[k*2]? = some (.string z)
 | [],s,z,h=>by simp[a0x]at h
 |d::S,s,z,h=>by
  by_cases hd:d.p.data.toList=s
  ·simp[a0x,hd]at h
   refine⟨S.length,by rw[nrS,g8 hd],?_⟩
   rw[a0D,List.getElem?_append_right (by rw[S0];exact c9 _),S0,Nat.sub_self,<-h]
   rfl
  ·have h':a0x S s=some z:=by simpa [a0x,hd]using h
   obtain⟨k,h1,h2⟩:=a79 h';refine⟨k,by rw[nrS,f6 hd,h1],?_⟩
   have:=a84 S s;rw[a0D,List.getElem?_append_left (by rw[S0];omega)]
   exact h2
structure ScA(w:World)(B sb mb N x:Nat)(O:Obj)(S:List Dc)(v:Value)(D:DataW Unit):Prop where
 c0:w.cell? ⟨sb,0,none⟩=some v
 c1:w.cell? ⟨sb,1,none⟩=some (.map (some mb))
 f0:w.frozen? ⟨sb,0,none⟩=false
 own:w.ownsRow B 210 2 v S.length (a0D S)
 map:w.ownsMap Tryz.prog 9 (plainElem Tryz.prog 3) mb N D
 look:∀s,D.atKey (.string s) (.lit (.int .i64 0))=.lit (.int .i64 (nrS S s:Nat))
 ne:sb≠mb
 n1:v.ownBlock≠some sb
 n2:v.ownBlock≠some mb
 b1:B<=sb
 b2:B<=mb
 xs:x≠sb
 xm:x≠mb
 xv:v.ownBlock≠some x
 xk:w.heap[x]? = some O
def Sc(w:World)(B sb mb N x:Nat)(O:Obj)(S:List Dc):Prop:=∃v D,ScA w B sb mb N x O S v D
theorem ScA.lt{w:World}{B sb mb N x:Nat}{O:Obj}{S:List Dc}{v:Value}{D:DataW Unit}(h:ScA w B sb mb N x O S v D):sb<w.heap.size:=World.block_lt_of_cell? w ⟨sb,0,none⟩ h.c0
theorem a0h{w w':World}{B e k n:Nat}{v:Value}{xs:List Value}(h:w.ownsRow B e k v n xs)(hb:∀g,v.ownBlock=some g->w'.heap[g]? = w.heap[g]?):w'.ownsRow B e k v n xs:=by
 obtain⟨hl,h |⟨g,cap,cur,rfl,hg,hh,hr⟩⟩:=h
 ·exact⟨hl,.inl h⟩
 ·exact⟨hl,.inr ⟨g,cap,cur,rfl,hg,(hb g rfl).trans hh,hr⟩⟩
theorem a02{w w':World}{k b n:Nat}{R:Value->Option (DataW Unit×List MemPlace)}{D:DataW Unit}(h:w.ownsMap Tryz.prog k R b n D)(hb:w'.heap[b]? = w.heap[b]?):w'.ownsMap Tryz.prog k R b n D:=by
 obtain⟨es,clock,h1,h2⟩:=h;exact⟨es,clock,hb.trans h1,h2⟩
theorem a2E{w:World}{B e n:Nat}{v:Value}{xs:List Value}{k:Nat}(h:w.ownsRow B e k v n xs){g:Nat}(hg:v.ownBlock=some g):B<=g/\g<w.heap.size:=by
 obtain⟨hl,h |⟨g',cap,cur,rfl,hb,hh,hr⟩⟩:=h
 ·obtain⟨rfl,_⟩:=h
  simp[Value.ownBlock]at hg
 ·simp[Value.ownBlock]at hg
  subst hg;refine⟨hb,?_⟩;rcases Nat.lt_or_ge g' w.heap.size with hlt|hge
  ·exact hlt
  ·rw[D4 hge]at hh;cases hh
theorem i3{w:World}{x:Nat}{O:Obj}(h:w.heap[x]? = some O):x<w.heap.size:=by
 rcases Nat.lt_or_ge x w.heap.size with hlt|hge
 ·exact hlt
 ·rw[D4 hge]at h;cases h
theorem ScA.same{w w':World}{B sb mb N x:Nat}{O:Obj}{S:List Dc}{v:Value}{D:DataW Unit}(h:ScA w B sb mb N x O S v D)(hb:∀g,g<w.heap.size->w'.heap[g]? = w.heap[g]?):ScA w' B sb mb N x O S v D :=
 ⟨(World.cell?_of_block (w:=w) (hb _ h.lt)).trans h.c0,(World.cell?_of_block (w:=w) (hb _ h.lt)).trans h.c1,(World.frozen?_of_block (w:=w) (hb _ h.lt)).trans h.f0,
  a0h h.own (fun g hg=>hb g (a2E h.own hg).2),a02 h.map (hb _ h.map.lt),h.look,h.ne,h.n1,h.n2,h.b1,h.b2,h.xs,h.xm,h.xv,(hb _ (i3 h.xk)).trans h.xk⟩
theorem ScA.later{w w':World}{B sb mb N x:Nat}{O:Obj}{S:List Dc}{v:Value}{D:DataW Unit}(h:ScA w B sb mb N x O S v D)(hb:Below w.heap.size w w'):ScA w' B sb mb N x O S v D:=h.same hb.block
theorem Sc.later{w w':World}{B sb mb N x:Nat}{O:Obj}{S:List Dc}(h:Sc w B sb mb N x O S)(hb:Below w.heap.size w w'):Sc w' B sb mb N x O S:=by
 obtain⟨v,D,h⟩:=h;exact⟨v,D,h.later hb⟩
theorem Sc.aside{w:World}{B sb mb N x y:Nat}{O Q:Obj}{S:List Dc}(h:Sc w B sb mb N x O S)(h1:y≠sb)(h2:y≠mb)(h3:∀v D,ScA w B sb mb N x O S v D->v.ownBlock≠some y)(h4:w.heap[y]? = some Q):Sc w B sb mb N y Q S:=by
 obtain⟨v,D,hA⟩:=h;exact⟨v,D,hA.c0,hA.c1,hA.f0,hA.own,hA.map,hA.look,hA.ne,hA.n1,hA.n2,hA.b1,hA.b2,h1,h2,h3 v D hA,h4⟩
theorem Sc.held{w:World}{B sb mb N x:Nat}{O:Obj}{S:List Dc}(h:Sc w B sb mb N x O S):w.heap[x]? = some O:=by
 obtain⟨v,D,hA⟩:=h;exact hA.xk
theorem b4P{D:DataW Unit}{S:List Dc}(hD:IsMap D)(h:∀s,D.atKey (.string s) (.lit (.int .i64 0))=.lit (.int .i64 (nrS S s:Nat)))(d:Dc) :
 ∀s,(D.put (.string d.p.data.toList) (.lit (.int .i64 ((S.length+1:Nat):Int)))).atKey (.string s) (.lit (.int .i64 0))=.lit (.int .i64 (nrS (d::S) s:Nat)):=fun s=>by
 by_cases e:d.p.data.toList=s
 ·rw[<-e,atKey_put_same (k:=.string d.p.data.toList) hD trivial,nrS,g8 rfl]
 ·rw[atKey_put_other (fun h'=>e (by injection h' with h';exact h'.symm)),h,nrS,f6 e]
theorem b6G{D:DataW Unit}{S:List Dc}{d:Dc}(hD:IsMap D)(h:∀s,D.atKey (.string s) (.lit (.int .i64 0))=.lit (.int .i64 (nrS (d::S) s:Nat))) :
 ∀s,(D.put (.string d.p.data.toList) (.lit (.int .i64 (nrS S d.p.data.toList:Nat)))).atKey (.string s) (.lit (.int .i64 0))=.lit (.int .i64 (nrS S s:Nat)):=fun s=>by
 by_cases e:d.p.data.toList=s
 ·rw[<-e,atKey_put_same (k:=.string d.p.data.toList) hD trivial]
 ·rw[atKey_put_other (fun h'=>e (by injection h' with h';exact h'.symm)),h,nrS,f6 e]
theorem ScA.lookup{w:World}{B sb mb N x:Nat}{O:Obj}{S:List Dc}{v:Value}{D:DataW Unit}(h:ScA w B sb mb N x O S v D)(P:ByteArray)(hP:P.size<=2000000) :
 (Instr.lookup 90 (.map (some mb)) (.string P) false).run Tryz.prog w=.ok (.int .i64 (nrS S P.data.toList:Nat)) w:=by
 obtain⟨c,D0,D1,_⟩:=h.map.lookup_int b6J Tryz.underlying90 Tryz.underlying3 (b9o w) (b6K P hP);rw[h.look]at D1;simp at D1;rw[D0,D1]
theorem b7d:(Tryz.prog.info? 210).map (fun i=>(i.zero,i.size,i.bytes))=some (some (.agg #[.string ⟨#[]⟩,.int .i64 0]),2,24):=by kernel_rfl
end
end Go.Proofs.YtlgcigmolfhamaaGreatDoor
