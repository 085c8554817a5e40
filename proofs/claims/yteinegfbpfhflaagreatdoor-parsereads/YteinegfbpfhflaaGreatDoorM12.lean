/-
  doc.declaredTwice and doc.markedTwice: whether two have one key. Conditions: the lists lie as they are; there are not too many; the texts are not too long.
  Who hangs on whom in a list of nodes: numbers alone. Conditions: none.
  Attributes, bare nodes, the Root; the document's own words on declarations. Conditions: the tables lie as they are laid, internal/bytealg.MaxLen holds some number; the texts are not too long.
  What is declared by the elements that aren't ended yet: how doc.scope lies in memory, and what it tells. Conditions: none.
-/
import Derived.Test.YteinegfbpfhflaaGreatDoorM09
import Derived.Test.YteinegfbpfhflaaGreatDoorM08
import Derived.Maps.Views
import Derived.Maps.OwnSet
import Derived.DeepKeys4
import Derived.StringKeys
import Derived.Test.YteinegfbpfhflaaGreatDoorM11
import Derived.Deep.AppendLies
namespace Go.Proofs.YteinegfbpfhflaaGreatDoor
set_option linter.unusedVariables false
set_option maxRecDepth 100000
set_option maxHeartbeats 4000000
section
open Go.RowKit Go.Maps Go.WideMaps
theorem yN:laidOutB Tryz.prog=true:=by kernel_rfl
theorem ei{α β:Type}{f:α->List β}{c:Nat}(hc:∀x,(f x).length=c):∀(l:List α) (i j:Nat) (hi:i<l.length),j<c->(l.flatMap f)[i*c+j]? = (f l[i])[j]?
 | [],i,j,hi,_=>by simp at hi
 |x::l,0,j,hi,hj=>by
  rw[List.flatMap_cons,Nat.zero_mul,ci,List.getElem?_append_left (by rw[hc];exact hj)];rfl
 |x::l,i+1,j,hi,hj=>by
  rw[List.flatMap_cons,List.getElem?_append_right (by rw[hc,Nat.add_mul];omega),hc,show(i+1)*c+j-c=i*c+j by rw[Nat.add_mul];omega]
  exact ei hc l i j (by simpa using hi) hj
theorem dF{α β:Type}{f:α->List β}{c:Nat}(hc:∀x,(f x).length=c):∀(l:List α),(l.flatMap f).length=l.length*c
 | []=>by simp
 |x::l=>by rw[List.flatMap_cons,aj,hc,dF hc l,az,Nat.add_mul];omega
theorem em.open{w:World}{B:Nat}{v:Value}{n c:Nat}{xs:List Value}(h:em w B v n xs)(hl:xs.length=n*c)(hc:0<c)(hn:0<n) :
 ∃b o cap,v=.slice (some ⟨b,o,none⟩) n cap/\n<=cap/\cap<=9223372036854775807/\b<B/\∀j u,xs[j]? = some u->w.cell? ⟨b,o+j,none⟩=some u:=by
 obtain⟨A,cap,e,h1,h2,h3⟩:=h;obtain⟨b,o,rfl,hb,hcell⟩:=h3 (by intro h0;rw[h0]at hl;simp at hl;have:=Nat.mul_pos hn hc;omega)
 refine⟨b,o,cap,e,h1,h2,hb,fun j u hu => ?_⟩;obtain⟨hj,hu⟩:=bh.1 hu;rw[hcell j hj,hu]
theorem gL.open{w:World}{B:Nat}{v:Value}{ds:List Dc}(h:gL w B v ds)(hn:0<ds.length) :
 ∃b o cap,v=.slice (some ⟨b,o,none⟩) ds.length cap/\ds.length<=cap/\cap<=9223372036854775807/\b<B/\∀i (hi:i<ds.length),w.cell? ⟨b,o+i*2,none⟩=some (.string ds[i].p)/\w.cell? ⟨b,o+i*2+1,none⟩=some (.string ds[i].u):=by
 obtain⟨b,o,cap,e,h1,h2,hb,hc⟩:=em.open h (dF (c:=2) (fun _=>rfl) ds) (by omega) hn
 refine⟨b,o,cap,e,h1,h2,hb,fun i hi=>⟨?_,?_⟩⟩
 ·exact hc (i*2) _ (by have:=ei (f:=jP) (c:=2) (fun _=>rfl) ds i 0 hi (by omega);rw[Nat.add_zero]at this;rw[this];rfl)
 ·rw[Nat.add_assoc]
  exact hc (i*2+1) _ (by rw[ei (f:=jP) (c:=2) (fun _=>rfl) ds i 1 hi (by omega)];rfl)
theorem kE.open{w:World}{B:Nat}{v:Value}{ats:List At}(h:kE w B v ats)(hn:0<ats.length) :
 ∃b o cap,v=.slice (some ⟨b,o,none⟩) ats.length cap/\ats.length<=cap/\cap<=9223372036854775807/\b<B/\∀i (hi:i<ats.length),w.cell? ⟨b,o+i*4,none⟩=some (.string ats[i].p)/\w.cell? ⟨b,o+i*4+1,none⟩=some (.string ats[i].l) /\
  w.cell? ⟨b,o+i*4+2,none⟩=some (.string ats[i].u)/\w.cell? ⟨b,o+i*4+3,none⟩=some (.string ats[i].v):=by
 obtain⟨b,o,cap,e,h1,h2,hb,hc⟩:=em.open h (dF (c:=4) (fun _=>rfl) ats) (by omega) hn
 refine⟨b,o,cap,e,h1,h2,hb,fun i hi=>⟨?_,?_,?_,?_⟩⟩
 ·exact hc (i*4) _ (by have:=ei (f:=jt) (c:=4) (fun _=>rfl) ats i 0 hi (by omega);rw[Nat.add_zero]at this;rw[this];rfl)
 ·rw[Nat.add_assoc]
  exact hc (i*4+1) _ (by rw[ei (f:=jt) (c:=4) (fun _=>rfl) ats i 1 hi (by omega)];rfl)
 ·rw[Nat.add_assoc]
  exact hc (i*4+2) _ (by rw[ei (f:=jt) (c:=4) (fun _=>rfl) ats i 2 hi (by omega)];rfl)
 ·rw[Nat.add_assoc]
  exact hc (i*4+3) _ (by rw[ei (f:=jt) (c:=4) (fun _=>rfl) ats i 3 hi (by omega)];rfl)
def kD(D:DataW Unit)(L:List Lit):Prop:=Tidy D/\(∀x,has D x=L.any (fun y=>y.sameKey x))/\Maps.size D<=L.length/\(Maps.size D=L.length↔L.Nodup)
theorem pR:kD (.map []) []:=⟨tidy_empty,fun _=>rfl,af _,by simp[Maps.size]⟩
theorem pQ{D:DataW Unit}{L:List Lit}(h:kD D L){k:Lit}(hk:WideAt.IsKeyLit k)(hL:∀y∈L,WideAt.IsKeyLit y)(d:DataW Unit):kD (D.put k d) (L++[k]):=by
 obtain⟨h1,h2,h3,h4⟩:=h
 have hin:has D k=true↔k∈L:=by
  rw[h2,List.any_eq_true]
  constructor
  ·rintro⟨y,hy,e⟩
   rwa [<-WideAt.sameKey_eq e]
  ·intro h
   exact⟨k,h,WideAt.sameKey_self hk⟩
 refine⟨h1.put hk d,fun x => ?_,?_,?_⟩
 ·by_cases e:x=k
  ·subst e
   rw[has_put_same h1.isMap hk,List.any_append];simp[WideAt.sameKey_self hk]
  ·rw[has_put_other e,h2,List.any_append]
   simp[sameKey_ne (fun h=>e h.symm)]
 ·rw[size_put h1,aj]
  split<;>simp<;>omega
 ·rw[size_put h1,aj,List.nodup_append]
  by_cases hb:k∈L
  ·rw[av (hin.2 hb)]
   constructor
   ·intro h;simp at h;omega
   ·rintro⟨_,_,h⟩
    exact absurd rfl (h k hb k (by simp))
  ·have hf:has D k=false:=by
    cases hh:has D k with
    |false=>rfl
    |true=>exact absurd (hin.1 hh) hb
   rw[am (by rw[hf];simp)]
   constructor
   ·intro h
    refine⟨h4.1 (by simp at h;omega),by simp,fun a ha b hb' e => ?_⟩
    simp at hb';exact hb (by rw[<-hb',<-e];exact ha)
   ·rintro⟨h,_,_⟩
    have:=h4.2 h;simp;omega
theorem C0:Keyed Tryz.prog 9:=string_keyed Tryz.underlying9
theorem C3(S:ByteArray)(h:S.size<=2000000):keyOf Tryz.prog 9 (.string S)=some (.string S.data.toList):=keyOf_string_mk Tryz.underlying9 (by unfold maxLen;omega)
theorem FR(w:World):(zeroValue 3).run Tryz.prog w=.ok (.int .i64 0) w:=by kernel_rfl
theorem Ie:Keyed Tryz.prog 196:=Keyed.of_law (deep_law_laid yN (m:=2) (by omega) (of_decide_eq_true (by kernel_rfl)) (by kernel_rfl) (by kernel_rfl))
def pS(L U:ByteArray):Lit:=.string (keyBytes [.string L.data.toList,.string U.data.toList])
theorem FX(d:Nat)(S:ByteArray)(h:S.size<=2000000):Tryz.prog.keyLits (d+1) 9 [.string S]=some [.string S.data.toList]:=by
 have hm1:S.size<=maxLen:=by unfold maxLen;omega
 simp[Program.keyLits,Tryz.underlying9,hm1]
theorem Ia(d:Nat)(L U:ByteArray)(h1:L.size<=2000000)(h2:U.size<=2000000):Tryz.prog.keyLits (d+2) 196 [.string L,.string U]=some [.string L.data.toList,.string U.data.toList]:=by
 have hc:Tryz.prog.cellsOf 196 = 2:=by kernel_rfl
 have hs:Tryz.prog.cellsOf 9 = 1:=by kernel_rfl
 have e1:=FX d L h1;have e2:=FX d U h2;unfold Program.keyLits;rw[Tryz.underlying196];simp[hc,hs,e1,e2]
theorem GN(L U:ByteArray)(h1:L.size<=2000000)(h2:U.size<=2000000):keyOf Tryz.prog 196 (.agg #[.string L,.string U])=some (pS L U):=by
 have hk:Tryz.prog.keyType 196 = true:=by kernel_rfl
 have hc:Tryz.prog.cellsOf 196 = 2:=by kernel_rfl
 have hf:Value.formed Tryz.prog 196 (.agg #[.string L,.string U])=true:=by
  simp[Value.formed,Tryz.underlying196,hc]
 obtain⟨d,hd⟩ : ∃d,Tryz.prog.types.size+1=d+2:=⟨Tryz.prog.types.size-1,by
  have:1<=Tryz.prog.types.size:=of_decide_eq_true (by kernel_rfl)
  omega⟩
 have e:=Ia d L U h1 h2;rw[<-hd]at e;unfold keyOf;rw[Tryz.underlying196];dsimp only;rw[hk,hf];have hcs:(Value.agg #[.string L,.string U]).cells.toList=[.string L,.string U]:=rfl;rw[hcs,e]
 rfl
theorem AI{L U L' U':ByteArray}(h1:L.size<=2000000)(h2:U.size<=2000000)(h3:L'.size<=2000000)(h4:U'.size<=2000000)(h:pS L U=pS L' U'):L=L'/\U=U':=by
 have e:=Ie.inj (GN L U h1 h2) (by rw[h];exact GN L' U' h3 h4)
 simp at e;exact e
def F6(w:World)(T:TypeId)(L:Nat->List Lit)(n:Nat)(i:Value)(wr:World):Prop :=
 ∃(k:Nat) (D:DataW Unit),k<=n/\i=.int .i64 k/\wr.ownsMap Tryz.prog T (plainElem Tryz.prog 3) w.heap.size k D/\kD D (L k)/\Below w.heap.size w wr
def e8(ds:List Dc):List Lit:=ds.map fun d => .string d.p.data.toList
theorem xT(ds:List Dc)(d:Dc):e8 (ds++[d])=e8 ds++[.string d.p.data.toList]:=by unfold e8;rw[List.map_append];rfl
def ft(ats:List At):List Lit:=ats.map fun a=>pS a.l a.u
theorem yg(ats:List At)(a:At):ft (ats++[a])=ft ats++[pS a.l a.u]:=by unfold ft;rw[List.map_append];rfl
open Classical in
noncomputable def mA(L:List Lit):Bool:=!decide L.Nodup
theorem qG(ds:List Dc)(v:Value)(w:World)(hv:gL w w.heap.size v ds)(hn:ds.length<=2000000)(hs:∀d∈ds,d.p.size<=2000000) :
 Calls Tryz.prog 178 #[v] w fun e w'=>e=.returned (.bool (mA (e8 ds)))/\Below w.heap.size w w':=by
 have hmm:=@run_makeMap Tryz.prog;have HV:=aa hv;obtain⟨A,cap,rfl,hc1,hc2,_⟩:=hv
 have HR:=aa (show ∀(D:DataW Unit),kD D (e8 ds)->((Maps.size D:Int)<(ds.length:Int)↔mA (e8 ds)=true)from fun D ⟨_,_,h1,h2⟩=>by
  have hl:(e8 ds).length=ds.length:=by simp[e8]
  rw[hl]at h1 h2;simp only[mA,Bool.not_eq_true',bT,<-h2];omega)
 generalize mA (e8 ds)=R at *;go_enter Tryz.func178,Tryz.ntmps178;go_wp2
 go_loopw [9] (F6 w 9 (fun k=>e8 (ds.take k)) ds.length) (fun i _=>ds.length-(intOf i).toNat)
 case atStart=>exact⟨0,.map [],aM _,rfl,World.ownsMap_made _ _ _ _,pR,(ae _ _).alloc (af _) _⟩
 case round =>
  obtain⟨k,D,hk,rfl,hown,hki,hnx⟩:=hrel;have HKI:=aa hki;clear hki;by_cases hlt:k<ds.length
  ·obtain⟨b,o,cap',e,_,_,hbB,hcell⟩:=gL.open HV.out (by omega)
   simp only[aK]at e;obtain⟨rfl,_,rfl⟩:=e;obtain⟨c0,c1⟩:=hcell k hlt;replace c0:=(hnx.cell (p:=⟨b,o+k*2,none⟩) hbB).trans c0;replace c1:=(hnx.cell (p:=⟨b,o+k*2+1,none⟩) hbB).trans c1;have hkey:=C3 ds[k].p (hs _ (aJ hlt))
   have HN:Hid (∀d,kD (D.put (.string ds[k].p.data.toList) d) (e8 (ds.take (k+1)))):=fun d=>by
    rw[aN hlt,xT];exact pQ (k:=.string ds[k].p.data.toList) HKI.out trivial (fun y hy=>by simp only[e8,List.mem_map]at hy;obtain⟨_,_,rfl⟩:=hy;trivial) d
   generalize ds[k].p=P at *;generalize ds[k].u=U at *;have hkz:(k:Int)<(ds.length:Int):=by omega
   clear hcell
   go_wp2_with (at_mapUpdate;refine wpList_mapUpdate_own _ rfl _ _ _ 79 rfl 9 3 C0 Tryz.underlying79 _ w.heap.size k D rfl (hown.alloc _) (by unfold maxLen;omega) _ _ _ rfl rfl hkey _ [] (plainElem_int Tryz.underlying3 (WalkArith.wf_i64 (by omega))) ?_)
   intro w1 hown1 hgrow1;have R2:=(hnx.alloc hnx.size _).grown hgrow1 (ag hnx.size (by simp)) (fun j hj=>by cases hj;exact af _)
   clear hgrow1 hown hnx c0 c1;go_wp2
   go_roundw
   case rel=>exact⟨k+1,_,hlt,by go_num,hown1,HN.out _,R2⟩
   case measure=>simp[intOf];omega
  ·have hke:k=ds.length:=by omega
   subst hke;have hfin:=HR.out D (by have:=HKI.out;dsimp only at this;rwa [cL]at this)
   go_wp2_with (at_len;refine wpList_len_own _ rfl _ 79 rfl 9 3 Tryz.underlying79 _ w.heap.size _ D rfl hown ?_)
   go_ret;exact⟨rfl,hnx⟩
theorem qJ(ats:List At)(v:Value)(w:World)(hv:kE w w.heap.size v ats)(hn:ats.length<=2000000)(hs:∀a∈ats,a.l.size<=2000000/\a.u.size<=2000000) :
 Calls Tryz.prog 179 #[v] w fun e w'=>e=.returned (.bool (mA (ft ats)))/\Below w.heap.size w w':=by
 have hmm:=@run_makeMap Tryz.prog;have HV:=aa hv;obtain⟨A,cap,rfl,hc1,hc2,_⟩:=hv
 have HR:=aa (show ∀(D:DataW Unit),kD D (ft ats)->((Maps.size D:Int)<(ats.length:Int)↔mA (ft ats)=true)from fun D ⟨_,_,h1,h2⟩=>by
  have hl:(ft ats).length=ats.length:=by simp[ft]
  rw[hl]at h1 h2;simp only[mA,Bool.not_eq_true',bT,<-h2];omega)
 generalize mA (ft ats)=R at *;go_enter Tryz.func179,Tryz.ntmps179;go_wp2
 go_loopw [9] (F6 w 196 (fun k=>ft (ats.take k)) ats.length) (fun i _=>ats.length-(intOf i).toNat)
 case atStart=>exact⟨0,.map [],aM _,rfl,World.ownsMap_made _ _ _ _,pR,(ae _ _).alloc (af _) _⟩
 case round =>
  obtain⟨k,D,hk,rfl,hown,hki,hnx⟩:=hrel;have HKI:=aa hki;clear hki;by_cases hlt:k<ats.length
  ·obtain⟨b,o,cap',e,_,_,hbB,hcell⟩:=kE.open HV.out (by omega)
   simp only[aK]at e;obtain⟨rfl,_,rfl⟩:=e;obtain⟨c0,c1,c2,c3⟩:=hcell k hlt;replace c0:=(hnx.cell (p:=⟨b,o+k*4,none⟩) hbB).trans c0;replace c1:=(hnx.cell (p:=⟨b,o+k*4+1,none⟩) hbB).trans c1;replace c2:=(hnx.cell (p:=⟨b,o+k*4+2,none⟩) hbB).trans c2;replace c3:=(hnx.cell (p:=⟨b,o+k*4+3,none⟩) hbB).trans c3;have hkey:=GN ats[k].l ats[k].u (hs _ (aJ hlt)).1 (hs _ (aJ hlt)).2
   have HN:Hid (∀d,kD (D.put (pS ats[k].l ats[k].u) d) (ft (ats.take (k+1)))):=fun d=>by
    rw[aN hlt,yg];exact pQ (k:=pS ats[k].l ats[k].u) HKI.out trivial (fun y hy=>by simp only[ft,List.mem_map]at hy;obtain⟨_,_,rfl⟩:=hy;trivial) d
   generalize ats[k].p=P at *;generalize ats[k].l=L at *;generalize ats[k].u=U at *;generalize ats[k].v=V at *;have hkz:(k:Int)<(ats.length:Int):=by omega
   clear hcell
   go_wp2_with (at_mapUpdate;refine wpList_mapUpdate_own _ rfl _ _ _ 194 rfl 196 3 Ie Tryz.underlying194 _ w.heap.size k D rfl (hown.alloc _) (by unfold maxLen;omega) _ _ _ rfl rfl hkey _ [] (plainElem_int Tryz.underlying3 (WalkArith.wf_i64 (by omega))) ?_)
   intro w1 hown1 hgrow1;have R2:=(hnx.alloc hnx.size _).grown hgrow1 (ag hnx.size (by simp)) (fun j hj=>by cases hj;exact af _)
   clear hgrow1 hown hnx c0 c1 c2 c3;go_wp2
   go_roundw
   case rel=>exact⟨k+1,_,hlt,by go_num,hown1,HN.out _,R2⟩
   case measure=>simp[intOf];omega
  ·have hke:k=ats.length:=by omega
   subst hke;have hfin:=HR.out D (by have:=HKI.out;dsimp only at this;rwa [cL]at this)
   go_wp2_with (at_len;refine wpList_len_own _ rfl _ 194 rfl 196 3 Tryz.underlying194 _ w.heap.size _ D rfl hown ?_)
   go_ret;exact⟨rfl,hnx⟩
end
def pa(l:List Nd)(i:Nat):Int:=((l[i]?).map (·.n)).getD (-1)
def kd(l:List Nd)(i:Nat):Int:=((l[i]?).map (·.k)).getD (-1)
theorem fS{l:List Nd}{i:Nat}(h:i<l.length):pa l i=l[i].n:=by simp[pa,aw h]
theorem jN{l:List Nd}{i:Nat}(h:i<l.length):kd l i=l[i].k:=by simp[kd,aw h]
def gQ(l:List Nd)(n:Nat):List Nat :=
 n::(if h:0<=pa l n/\(pa l n).toNat<n then gQ l (pa l n).toNat else[])
termination_by n
decreasing_by exact h.2
theorem fh{l:List Nd}{n:Nat}(h:0<=pa l n/\(pa l n).toNat<n):gQ l n=n::gQ l (pa l n).toNat:=by rw[gQ,dif_pos h]
theorem iu{l:List Nd}{n:Nat}(h:¬(0<=pa l n/\(pa l n).toNat<n)):gQ l n=[n]:=by rw[gQ,dif_neg h]
theorem wj(l:List Nd)(n:Nat):n∈gQ l n:=by rw[gQ];exact List.mem_cons_self
theorem qj{l:List Nd}:∀{n m:Nat},m∈gQ l n->m<=n:=by
 intro n
 induction n using Nat.strongRecOn with
 |ind n ih =>
  intro m h;by_cases hp:0<=pa l n/\(pa l n).toNat<n
  ·rw[fh hp,aU]at h
   rcases h with rfl|h
   ·exact af _
   ·have:=ih _ hp.2 h;omega
  ·rw[iu hp,aW]at h
   omega
def fl(l:List Nd)(i:Nat):Prop:=∀j,1<=j->j<i->0<=pa l j/\pa l j<(j:Int)
theorem fl.toNat{l:List Nd}{i j:Nat}(h:fl l i)(h1:1<=j)(h2:j<i):0<=pa l j/\(pa l j).toNat<j:=by
 have:=h j h1 h2;omega
theorem fl.mono{l:List Nd}{i j:Nat}(h:fl l i)(hj:j<=i):fl l j:=fun k h1 h2=>h k h1 (by omega)
def ej(l:List Nd)(i:Nat):Bool:=decide (0<=pa l i)&&decide ((pa l i).toNat∈gQ l (i-1))&&(kd l (pa l i).toNat==0||kd l (pa l i).toNat==1)
theorem u0{l:List Nd}{i a p:Nat}(h:fl l i)(ha:a<i)(hp:p<a):p∈gQ l a↔p∈gQ l (pa l a).toNat:=by
 rw[fh (h.toNat (by omega) ha),aU]
 constructor
 ·rintro(rfl|h)
  ·omega
  ·exact h
 ·exact .inr
theorem yG{l:List Nd}{a p:Nat}(hp:a<=p):p∈gQ l a↔p=a:=by
 constructor
 ·intro h;have:=qj h;omega
 ·rintro rfl;exact wj l p
section
open Go.RowKit
theorem En(n:Nat):∃b,decide (n=0)=b/\Hid (((n:Int)==0)=b):=⟨_,rfl,by
 show((n:Int)==0)=decide (n=0)
 rw[bm];simp⟩
theorem i3(n k:Int):∃b,(n==k)=b/\Hid ((n==k)=b):=⟨_,rfl,rfl⟩
theorem DP(a:At)(h1:a.p.size<=2000000)(h2:a.l.size<=2000000)(h3:a.v.size<=2000000)(w:World)(hW:Wd w):Calls Tryz.prog 177 #[.agg #[.string a.p,.string a.l,.string a.u,.string a.v]] w fun e w'=>e=.returned (.bool (gu a))/\Below w.heap.size w w':=by
 have HP:Hid (∀w',Below w.heap.size w w'->Calls Tryz.prog 175 #[.string a.p] w' fun e w''=>e=.returned (.bool (fX a.p))/\Below w'.heap.size w' w''):=fun w' hb=>lv a.p h1 w' (hW.later hb);have HN:Hid (∀w',Below w.heap.size w w'->Calls Tryz.prog 170 #[.string a.l] w' fun e w''=>e=.returned (.bool (ic a.l))/\Below w'.heap.size w' w''):=fun w' hb=>lz a.l h2 w' (hW.later hb).tabs;have HT:Hid (∀w',Below w.heap.size w w'->Calls Tryz.prog 141 #[.string a.v] w' fun e w''=>e=.returned (.bool (tx a.v))/\Below w'.heap.size w' w''):=fun w' hb=>ir a.v h3 w' (hW.later hb);clear hW;unfold gu;obtain⟨P,L,U,V⟩:=a;dsimp only at *;generalize fX P=B2 at *;generalize ic L=B1 at *;generalize tx V=B3 at *;obtain⟨b1,e1,E1⟩:=gv P;obtain⟨b2,e2,E2⟩:=wQ L dy;rw[e1,e2];clear e1 e2;unfold dy at E2;go_enter Tryz.func177,Tryz.ntmps177;obtain⟨t1,t1'⟩:=E1.out;cases b1 with
 |false =>
  go_wp2_with fail
  refine(HN.out _ ((ae _ _).alloc (af _) _)).mono ?_;rintro e w1⟨rfl,hb1⟩;have c0:=aZ (j:=0) hb1 rfl;have c1:=aZ (j:=1) hb1 rfl;have c2:=aZ (j:=2) hb1 rfl;have c3:=aZ (j:=3) hb1 rfl;have hbw:=bR hb1;cases B1 with
  |false =>
   go_wp2;go_ret;exact⟨rfl,hbw⟩
  |true =>
   go_wp2_with fail
   refine(eh hb1.size hb1 (HP.out _ hbw)).mono ?_;rintro e w2⟨rfl,hb2⟩;replace c0:=aZ (j:=0) hb2 rfl;replace c1:=aZ (j:=1) hb2 rfl;replace c2:=aZ (j:=2) hb2 rfl;replace c3:=aZ (j:=3) hb2 rfl;replace hbw:=bR hb2;clear hb1;cases B2 with
   |false =>
    go_wp2;go_ret;exact⟨rfl,hbw⟩
   |true =>
    go_wp2_with fail
    refine(eh hb2.size hb2 (HT.out _ hbw)).mono ?_;rintro e w3⟨rfl,hb3⟩;replace c0:=aZ (j:=0) hb3 rfl;replace c1:=aZ (j:=1) hb3 rfl;replace c2:=aZ (j:=2) hb3 rfl;replace c3:=aZ (j:=3) hb3 rfl;replace hbw:=bR hb3;clear hb2;go_wp2;go_ret;exact⟨by simp,hbw⟩
 |true =>
  have t2:=E2.out;cases b2 with
  |false =>
   go_wp2_with fail
   refine(HN.out _ ((ae _ _).alloc (af _) _)).mono ?_;rintro e w4⟨rfl,hb4⟩;have c0:=aZ (j:=0) hb4 rfl;have c1:=aZ (j:=1) hb4 rfl;have c2:=aZ (j:=2) hb4 rfl;have c3:=aZ (j:=3) hb4 rfl;have hbw:=bR hb4;cases B1 with
   |false =>
    go_wp2;go_ret;exact⟨rfl,hbw⟩
   |true =>
    go_wp2_with fail
    refine(eh hb4.size hb4 (HP.out _ hbw)).mono ?_;rintro e w5⟨rfl,hb5⟩;replace c0:=aZ (j:=0) hb5 rfl;replace c1:=aZ (j:=1) hb5 rfl;replace c2:=aZ (j:=2) hb5 rfl;replace c3:=aZ (j:=3) hb5 rfl;replace hbw:=bR hb5;clear hb4;cases B2 with
    |false =>
     go_wp2;go_ret;exact⟨rfl,hbw⟩
    |true =>
     go_wp2_with fail
     refine(eh hb5.size hb5 (HT.out _ hbw)).mono ?_;rintro e w6⟨rfl,hb6⟩;replace c0:=aZ (j:=0) hb6 rfl;replace c1:=aZ (j:=1) hb6 rfl;replace c2:=aZ (j:=2) hb6 rfl;replace c3:=aZ (j:=3) hb6 rfl;replace hbw:=bR hb6;clear hb5;go_wp2;go_ret;exact⟨by simp,hbw⟩
  |true =>
   go_wp2;go_ret;exact⟨rfl,(ae _ _).alloc (af _) _⟩
theorem zT(d:Dc)(h1:d.p.size<=2000000)(h2:d.u.size<=2000000)(w:World):Calls Tryz.prog 152 #[.agg #[.string d.p,.string d.u]] w fun e w'=>e=.returned (.bool (eW d))/\Below w.heap.size w w':=by
 have HN:Hid (∀w',Below w.heap.size w w'->Calls Tryz.prog 153 #[.string d.p] w' fun e w''=>e=.returned (.bool (ic d.p))/\Below w'.heap.size w' w''):=fun w' hb=>ia d.p h1 w';have HT:Hid (∀w',Below w.heap.size w w'->Calls Tryz.prog 154 #[.string d.u] w' fun e w''=>e=.returned (.bool (tx d.u))/\Below w'.heap.size w' w''):=fun w' hb=>jC d.u h2 w';unfold eW fX;obtain⟨P,U⟩:=d;dsimp only at *;generalize ic P=B1 at *;generalize tx U=B3 at *;obtain⟨b1,e1,E1⟩:=wQ P dy;obtain⟨b2,e2,E2⟩:=wQ U oV;obtain⟨b3,e3,E3⟩:=gv U;obtain⟨b4,e4,E4⟩:=gv P;obtain⟨b5,e5,E5⟩:=wQ P iA;obtain⟨b6,e6,E6⟩:=wQ U mV;rw[e1,e2,e3,e4,e5,e6];clear e1 e2 e3 e4 e5 e6;unfold dy at E1;unfold oV at E2;unfold iA at E5;unfold mV at E6;go_enter Tryz.func152,Tryz.ntmps152;obtain⟨t4,t4'⟩:=E4.out;cases b4 with
 |false =>
  go_wp2_with fail
  refine(HN.out _ ((ae _ _).alloc (af _) _)).mono ?_;rintro e w1⟨rfl,hb1⟩;have c0:=aZ (j:=0) hb1 rfl;have c1:=aZ (j:=1) hb1 rfl;have hbw:=bR hb1;cases B1 with
  |false =>
   go_wp2;go_ret;exact⟨rfl,hbw⟩
  |true =>
   have t1:=E1.out;cases b1 with
   |false =>
    go_wp2_with fail
    refine(eh hb1.size hb1 (HT.out _ hbw)).mono ?_;rintro e w2⟨rfl,hb2⟩;replace c0:=aZ (j:=0) hb2 rfl;replace c1:=aZ (j:=1) hb2 rfl;replace hbw:=bR hb2;clear hb1;cases B3 with
    |false =>
     go_wp2;go_ret;exact⟨rfl,hbw⟩
    |true =>
     have t2:=E2.out;cases b2 with
     |false =>
      obtain⟨t3,t3'⟩:=E3.out;have t5:=E5.out;have t6:=E6.out;cases b3 with
      |false =>
       go_wp2;go_ret;exact⟨rfl,hbw⟩
      |true =>
       go_wp2;go_ret;exact⟨rfl,hbw⟩
     |true =>
      go_wp2;go_ret;exact⟨rfl,hbw⟩
   |true =>
    go_wp2;go_ret;exact⟨rfl,hbw⟩
 |true =>
  have t1:=E1.out;cases b1 with
  |false =>
   go_wp2_with fail
   refine(HT.out _ ((ae _ _).alloc (af _) _)).mono ?_;rintro e w3⟨rfl,hb3⟩;have c0:=aZ (j:=0) hb3 rfl;have c1:=aZ (j:=1) hb3 rfl;have hbw:=bR hb3;cases B3 with
   |false =>
    go_wp2;go_ret;exact⟨rfl,hbw⟩
   |true =>
    have t2:=E2.out;cases b2 with
    |false =>
     obtain⟨t3,t3'⟩:=E3.out;have t5:=E5.out;have t6:=E6.out;cases b3 with
     |false =>
      go_wp2;go_ret;exact⟨rfl,hbw⟩
     |true =>
      go_wp2;go_ret;exact⟨rfl,hbw⟩
    |true =>
     go_wp2;go_ret;exact⟨rfl,hbw⟩
  |true =>
   go_wp2;go_ret;exact⟨rfl,(ae _ _).alloc (af _) _⟩
def d9(x:Nd):Bool:=dZ x.p []&&(dZ x.u []&&(decide (x.ds.length=0)&&decide (x.ats.length=0)))
theorem wo(x:Nd)(v:Value)(w:World)(hv:nH w w.heap.size v x):Calls Tryz.prog 137 #[v] w fun e w'=>e=.returned (.bool (d9 x))/\Below w.heap.size w w':=by
 obtain⟨vd,va,rfl,⟨A1,cap1,rfl,_⟩,⟨A2,cap2,rfl,_⟩⟩:=hv;unfold d9;obtain⟨K,N,P,L,U,T,ds,ats⟩:=x;dsimp only at *;obtain⟨b1,e1,E1⟩:=gv P;obtain⟨b2,e2,E2⟩:=gv U;obtain⟨b3,e3,E3⟩:=En ds.length;obtain⟨b4,e4,E4⟩:=En ats.length;rw[e1,e2,e3,e4];clear e1 e2 e3 e4;generalize ds.length=nd at *;generalize ats.length=na at *;go_enter Tryz.func137,Tryz.ntmps137;obtain⟨t1,t1'⟩:=E1.out;cases b1 with
 |false =>
  go_wp2;go_ret;exact⟨rfl,(ae _ _).alloc (af _) _⟩
 |true =>
  obtain⟨t2,t2'⟩:=E2.out;cases b2 with
  |false =>
   go_wp2;go_ret;exact⟨rfl,(ae _ _).alloc (af _) _⟩
  |true =>
   have t3:=E3.out;cases b3 with
   |false =>
    go_wp2;go_ret;exact⟨rfl,(ae _ _).alloc (af _) _⟩
   |true =>
    have t4:=E4.out;cases b4 with
    |false =>
     go_wp2;go_ret;exact⟨rfl,(ae _ _).alloc (af _) _⟩
    |true =>
     go_wp2;go_ret;exact⟨rfl,(ae _ _).alloc (af _) _⟩
theorem re(x:Nd)(v:Value)(w:World)(hv:nH w w.heap.size v x):Calls Tryz.prog 106 #[v] w fun e w'=>e=.returned (.bool (d9 x))/\Below w.heap.size w w':=by
 obtain⟨vd,va,rfl,⟨A1,cap1,rfl,_⟩,⟨A2,cap2,rfl,_⟩⟩:=hv;unfold d9;obtain⟨K,N,P,L,U,T,ds,ats⟩:=x;dsimp only at *;obtain⟨b1,e1,E1⟩:=gv P;obtain⟨b2,e2,E2⟩:=gv U;obtain⟨b3,e3,E3⟩:=En ds.length;obtain⟨b4,e4,E4⟩:=En ats.length;rw[e1,e2,e3,e4];clear e1 e2 e3 e4;generalize ds.length=nd at *;generalize ats.length=na at *;go_enter Tryz.func106,Tryz.ntmps106;obtain⟨t1,t1'⟩:=E1.out;cases b1 with
 |false =>
  go_wp2;go_ret;exact⟨rfl,(ae _ _).alloc (af _) _⟩
 |true =>
  obtain⟨t2,t2'⟩:=E2.out;cases b2 with
  |false =>
   go_wp2;go_ret;exact⟨rfl,(ae _ _).alloc (af _) _⟩
  |true =>
   have t3:=E3.out;cases b3 with
   |false =>
    go_wp2;go_ret;exact⟨rfl,(ae _ _).alloc (af _) _⟩
   |true =>
    have t4:=E4.out;cases b4 with
    |false =>
     go_wp2;go_ret;exact⟨rfl,(ae _ _).alloc (af _) _⟩
    |true =>
     go_wp2;go_ret;exact⟨rfl,(ae _ _).alloc (af _) _⟩
end
section
open Go.RowKit Go.Maps Go.WideMaps
def oc:List Dc->List UInt8->Nat
 | [],_=>0
 |d::S,s=>if d.p.data.toList=s then S.length+1 else oc S s
def gA:List Dc->List Value
 | [] => []
 |d::S=>gA S++[.string d.u,.int .i64 (oc S d.p.data.toList:Nat)]
theorem eC:∀S,(gA S).length=S.length*2
 | []=>rfl
 |d::S=>by rw[gA,aj,eC S];simp;omega
theorem ta:∀S s,oc S s<=S.length
 | [],_=>af _
 |d::S,s=>by
  rw[oc]
  split
  ·exact af _
  ·have:=ta S s;simp;omega
def gc(S:List Dc)(s:List UInt8):Option ByteArray:=(S.find? (fun d=>decide (d.p.data.toList=s))).map (·.u)
theorem rK:∀{S s},gc S s=none↔oc S s=0
 | [],s=>by simp[gc,oc]
 |d::S,s=>by
  by_cases h:d.p.data.toList=s
  ·simp[gc,oc,h]
  ·have:=rK (S:=S) (s:=s)
   simp[gc,oc,h]at this ⊢;exact this
theorem rJ:∀{S s z},gc S s=some z->∃k,oc S s=k+1/\(gA S)[k*2]? = some (.string z)
 | [],s,z,h=>by simp[gc]at h
 |d::S,s,z,h=>by
  by_cases hd:d.p.data.toList=s
  ·simp[gc,hd]at h
   refine⟨S.length,by rw[oc,av hd],?_⟩
   rw[gA,List.getElem?_append_right (by rw[eC];exact af _),eC,Nat.sub_self,<-h]
   rfl
  ·have h':gc S s=some z:=by simpa [gc,hd]using h
   obtain⟨k,h1,h2⟩:=rJ h';refine⟨k,by rw[oc,am hd,h1],?_⟩
   have:=ta S s;rw[gA,List.getElem?_append_left (by rw[eC];omega)]
   exact h2
structure zq(w:World)(B sb mb N x:Nat)(O:Obj)(S:List Dc)(v:Value)(D:DataW Unit):Prop where
 c0:w.cell? ⟨sb,0,none⟩=some v
 c1:w.cell? ⟨sb,1,none⟩=some (.map (some mb))
 f0:w.frozen? ⟨sb,0,none⟩=false
 own:w.ownsRow B 174 2 v S.length (gA S)
 map:w.ownsMap Tryz.prog 9 (plainElem Tryz.prog 3) mb N D
 look:∀s,D.atKey (.string s) (.lit (.int .i64 0))=.lit (.int .i64 (oc S s:Nat))
 ne:sb≠mb
 n1:v.ownBlock≠some sb
 n2:v.ownBlock≠some mb
 b1:B<=sb
 b2:B<=mb
 xs:x≠sb
 xm:x≠mb
 xv:v.ownBlock≠some x
 xk:w.heap[x]? = some O
def Sc(w:World)(B sb mb N x:Nat)(O:Obj)(S:List Dc):Prop:=∃v D,zq w B sb mb N x O S v D
theorem zq.lt{w:World}{B sb mb N x:Nat}{O:Obj}{S:List Dc}{v:Value}{D:DataW Unit}(h:zq w B sb mb N x O S v D):sb<w.heap.size:=World.block_lt_of_cell? w ⟨sb,0,none⟩ h.c0
theorem fY{w w':World}{B e k n:Nat}{v:Value}{xs:List Value}(h:w.ownsRow B e k v n xs)(hb:∀g,v.ownBlock=some g->w'.heap[g]? = w.heap[g]?):w'.ownsRow B e k v n xs:=by
 obtain⟨hl,h |⟨g,cap,cur,rfl,hg,hh,hr⟩⟩:=h
 ·exact⟨hl,.inl h⟩
 ·exact⟨hl,.inr ⟨g,cap,cur,rfl,hg,(hb g rfl).trans hh,hr⟩⟩
theorem gX{w w':World}{k b n:Nat}{R:Value->Option (DataW Unit×List MemPlace)}{D:DataW Unit}(h:w.ownsMap Tryz.prog k R b n D)(hb:w'.heap[b]? = w.heap[b]?):w'.ownsMap Tryz.prog k R b n D:=by
 obtain⟨es,clock,h1,h2⟩:=h;exact⟨es,clock,hb.trans h1,h2⟩
theorem jZ{w:World}{B e n:Nat}{v:Value}{xs:List Value}{k:Nat}(h:w.ownsRow B e k v n xs){g:Nat}(hg:v.ownBlock=some g):B<=g/\g<w.heap.size:=by
 obtain⟨hl,h |⟨g',cap,cur,rfl,hb,hh,hr⟩⟩:=h
 ·obtain⟨rfl,_⟩:=h
  simp[Value.ownBlock]at hg
 ·simp[Value.ownBlock]at hg
  subst hg;refine⟨hb,?_⟩;rcases Nat.lt_or_ge g' w.heap.size with hlt|hge
  ·exact hlt
  ·rw[bL hge]at hh;cases hh
theorem au{w:World}{x:Nat}{O:Obj}(h:w.heap[x]? = some O):x<w.heap.size:=by
 rcases Nat.lt_or_ge x w.heap.size with hlt|hge
 ·exact hlt
 ·rw[bL hge]at h;cases h
theorem zq.same{w w':World}{B sb mb N x:Nat}{O:Obj}{S:List Dc}{v:Value}{D:DataW Unit}(h:zq w B sb mb N x O S v D)(hb:∀g,g<w.heap.size->w'.heap[g]? = w.heap[g]?):zq w' B sb mb N x O S v D :=
 ⟨(World.cell?_of_block (w:=w) (hb _ h.lt)).trans h.c0,(World.cell?_of_block (w:=w) (hb _ h.lt)).trans h.c1,(World.frozen?_of_block (w:=w) (hb _ h.lt)).trans h.f0,
  fY h.own (fun g hg=>hb g (jZ h.own hg).2),gX h.map (hb _ h.map.lt),h.look,h.ne,h.n1,h.n2,h.b1,h.b2,h.xs,h.xm,h.xv,(hb _ (au h.xk)).trans h.xk⟩
theorem zq.later{w w':World}{B sb mb N x:Nat}{O:Obj}{S:List Dc}{v:Value}{D:DataW Unit}(h:zq w B sb mb N x O S v D)(hb:Below w.heap.size w w'):zq w' B sb mb N x O S v D:=h.same hb.block
theorem Sc.later{w w':World}{B sb mb N x:Nat}{O:Obj}{S:List Dc}(h:Sc w B sb mb N x O S)(hb:Below w.heap.size w w'):Sc w' B sb mb N x O S:=by
 obtain⟨v,D,h⟩:=h;exact⟨v,D,h.later hb⟩
theorem Sc.aside{w:World}{B sb mb N x y:Nat}{O Q:Obj}{S:List Dc}(h:Sc w B sb mb N x O S)(h1:y≠sb)(h2:y≠mb)(h3:∀v D,zq w B sb mb N x O S v D->v.ownBlock≠some y)(h4:w.heap[y]? = some Q):Sc w B sb mb N y Q S:=by
 obtain⟨v,D,hA⟩:=h;exact⟨v,D,hA.c0,hA.c1,hA.f0,hA.own,hA.map,hA.look,hA.ne,hA.n1,hA.n2,hA.b1,hA.b2,h1,h2,h3 v D hA,h4⟩
theorem Sc.held{w:World}{B sb mb N x:Nat}{O:Obj}{S:List Dc}(h:Sc w B sb mb N x O S):w.heap[x]? = some O:=by
 obtain⟨v,D,hA⟩:=h;exact hA.xk
theorem AF{D:DataW Unit}{S:List Dc}(hD:IsMap D)(h:∀s,D.atKey (.string s) (.lit (.int .i64 0))=.lit (.int .i64 (oc S s:Nat)))(d:Dc) :
 ∀s,(D.put (.string d.p.data.toList) (.lit (.int .i64 ((S.length+1:Nat):Int)))).atKey (.string s) (.lit (.int .i64 0))=.lit (.int .i64 (oc (d::S) s:Nat)):=fun s=>by
 by_cases e:d.p.data.toList=s
 ·rw[<-e,atKey_put_same (k:=.string d.p.data.toList) hD trivial,oc,av rfl]
 ·rw[atKey_put_other (fun h'=>e (by injection h' with h';exact h'.symm)),h,oc,am e]
theorem CX{D:DataW Unit}{S:List Dc}{d:Dc}(hD:IsMap D)(h:∀s,D.atKey (.string s) (.lit (.int .i64 0))=.lit (.int .i64 (oc (d::S) s:Nat))) :
 ∀s,(D.put (.string d.p.data.toList) (.lit (.int .i64 (oc S d.p.data.toList:Nat)))).atKey (.string s) (.lit (.int .i64 0))=.lit (.int .i64 (oc S s:Nat)):=fun s=>by
 by_cases e:d.p.data.toList=s
 ·rw[<-e,atKey_put_same (k:=.string d.p.data.toList) hD trivial]
 ·rw[atKey_put_other (fun h'=>e (by injection h' with h';exact h'.symm)),h,oc,am e]
theorem zq.lookup{w:World}{B sb mb N x:Nat}{O:Obj}{S:List Dc}{v:Value}{D:DataW Unit}(h:zq w B sb mb N x O S v D)(P:ByteArray)(hP:P.size<=2000000) :
 (Instr.lookup 79 (.map (some mb)) (.string P) false).run Tryz.prog w=.ok (.int .i64 (oc S P.data.toList:Nat)) w:=by
 obtain⟨c,hrun,hat,_⟩:=h.map.lookup_int C0 Tryz.underlying79 Tryz.underlying3 (FR w) (C3 P hP);rw[h.look]at hat;simp at hat;rw[hrun,hat]
theorem Dv:(Tryz.prog.info? 174).map (fun i=>(i.zero,i.size,i.bytes))=some (some (.agg #[.string ⟨#[]⟩,.int .i64 0]),2,24):=by kernel_rfl
end
end Go.Proofs.YteinegfbpfhflaaGreatDoor
