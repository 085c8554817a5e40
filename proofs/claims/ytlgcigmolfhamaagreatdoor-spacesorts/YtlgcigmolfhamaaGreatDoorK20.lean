/-
  parse.reader: innermost. Conditions: the reader lies as it is; something is open.
  (*Doc).list, Len, has, Top and End: of a document, and of none. Conditions: the document lies as it is; there are not too many nodes. (*Doc).Top and End of a document. Conditions: the document lies as it is; there are not too many nodes. A node's children, each with all below it, stand side by side: numbers alone. Conditions: the nodes hang where they may. append to one's own row of ints. Conditions: there are not too many. (*Doc).Kids of a document. Conditions: the document lies as it is; there are not too many nodes. The children that are counted as far as a place: numbers alone. Conditions: the nodes hang where they may. (*Doc).Up of a document. Conditions: the document lies as it is; its nodes hang on nodes ahead; there are not too many nodes. apostilleref07.Above, ahead and Top: the document's own. Conditions: the list lies as it is; for Above the nodes hang on nodes ahead. apostilleref07.End, Kids and Up: the document's own. Conditions: the list lies as it is; the nodes hang where they may. Of a formed list the document's End, Kids and Top are the program's: numbers alone. Conditions: the list is formed.
  append of things that lie in memory, none of them too, to a row of one's own, at a step of a region that draws its order. Conditions: there is room in an int.
-/
import Derived.Test.YtlgcigmolfhamaaGreatDoorK19
import Derived.StillTailTactics
import Derived.Test.YtlgcigmolfhamaaGreatDoorK09
import Derived.Laws.IdiomCopy
import Derived.Laws.AppendOwn
import Derived.Laws.AppendOwnNone
import Derived.Laws.MakeOwn
import Derived.Laws.Externs
import Derived.Lib.AppendStr
import Derived.OwnWalk
import Derived.Deep.Draws
import Derived.Deep.QuietTactic
import Derived.BigQuiet
import Derived.Deep.WholeRow
import Derived.Test.YtlgcigmolfhamaaGreatDoorK12
import Derived.Test.YtlgcigmolfhamaaGreatDoorK00
namespace Go.Proofs.YtlgcigmolfhamaaGreatDoor
open Go.RowKit
set_option linter.unusedVariables false
set_option maxRecDepth 100000
set_option maxHeartbeats 8000000
theorem a8G{w:World}{g:Nat}{c0 c1 c2:Value}{t:TypeId}(v0 v1 v2:Value)(h:w.heap[g]? = some (.cells #[c0,c1,c2] t (0,0))):(((w.setCell ⟨g,0,none⟩ v0).setCell ⟨g,1,none⟩ v1).setCell ⟨g,2,none⟩ v2).heap[g]? = some (.cells #[v0,v1,v2] t (0,0)):=by
 rw[o8 (o8 (o8 h))];rfl
theorem S7.last{w:World}{B rb:Nat}{st:Rd}{vn vo vd vt:Value}{ys:List Ny}(h:S7 w B rb st vn vo vd vt ys){fr:List Po}{o:Po}(ho:st.op=fr++[o]):∃g cap,vo=.slice (some ⟨g,0,none⟩) (fr.length+1) cap/\fr.length+1<=cap/\cap<=9223372036854775807/\g<w.heap.size /\
 w.cell? ⟨g,fr.length*3,none⟩=some (.int .i64 o.node)/\w.cell? ⟨g,fr.length*3+1,none⟩=some (.string (ba o.full))/\w.cell? ⟨g,fr.length*3+2,none⟩=some (.int .i64 o.outer):=by
 have hr:=h.ro;rw[ho]at hr;have hl:(fr++[o]).length=fr.length+1:=by simp
 rw[hl]at hr;obtain⟨h1,⟨_,h2⟩|⟨g,cap,cur,rfl,hg,hh,hn,hc,hs,ht⟩⟩:=hr
 ·omega
 ·refine⟨g,cap,rfl,hn,by unfold maxLen at hc;exact hc,i3 hh,?_⟩
  have D0:∀j,j<3->w.cell? ⟨g,fr.length*3+j,none⟩=(poC o)[j]?:=fun j hj=>by
   rw[d9 w g _ cur _ _ hh,<-A9]
   have e:cur.toList[fr.length*3+j]? = ((fr++[o]).flatMap poC)[fr.length*3+j]?:=by
    rw[<-ht,List.getElem?_take_of_lt (by omega)]
   rw[e,Q6 (f:=poC) (c:=3) a8W (fr++[o]) fr.length j (by simp) hj]
   simp
  exact⟨D0 0 (by omega),D0 1 (by omega),D0 2 (by omega)⟩
theorem a0H(w:World)(B rb:Nat)(st:Rd)(fr:List Po)(o:Po)(ho:st.op=fr++[o])(E6:fr.length<=1000000)(h:O8 w B rb st):Calls Tryz.prog 158 #[.pointer (some ⟨rb,0,none⟩)] w fun e w'=>e=.returned (.agg #[.int .i64 o.node,.string (ba o.full),.int .i64 o.outer])/\Below w.heap.size w w':=by
 obtain⟨vn,vo,vd,vt,ys,h⟩:=h;obtain⟨_,_,c2,_,_⟩:=h.cell;obtain⟨g,cap,rfl,E0,E4,D3,q0,q1,q2⟩:=h.last ho;have E5:=i3 h.box;clear h ho;obtain⟨n,hn⟩ : ∃n,fr.length=n:=⟨_,rfl⟩;rw[hn]at c2 q0 q1 q2 E0 E6;clear hn;obtain⟨W0,D9⟩ : ∃W0,w.alloc (Obj.cells #[.int .i64 0,.string ⟨#[]⟩,.int .i64 0] 116)=W0:=⟨_,rfl⟩;have D1:Below w.heap.size w W0:=by rw[<-D9];exact(b8 _ _).alloc (c9 _) _
 have D2:W0.heap[w.heap.size]? = some (.cells #[.int .i64 0,.string ⟨#[]⟩,.int .i64 0] 116 (0,0)):=by rw[<-D9];exact g9 w _
 obtain⟨x,hx⟩ : ∃x,w.heap.size=x:=⟨_,rfl⟩;replace c2:=(D1.cell (p:=⟨rb,2,none⟩) E5).trans c2;replace q0:=(D1.cell (p:=⟨g,n*3,none⟩) D3).trans q0;replace q1:=(D1.cell (p:=⟨g,n*3+1,none⟩) D3).trans q1;replace q2:=(D1.cell (p:=⟨g,n*3+2,none⟩) D3).trans q2;have g0:W0.cell? ⟨x,0,none⟩=some (.int .i64 0):=by rw[<-hx,d9 W0 _ 0 _ _ _ D2];rfl
 have g1:W0.cell? ⟨x,1,none⟩=some (.string ⟨#[]⟩):=by rw[<-hx,d9 W0 _ 1 _ _ _ D2];rfl
 have g2:W0.cell? ⟨x,2,none⟩=some (.int .i64 0):=by rw[<-hx,d9 W0 _ 2 _ _ _ D2];rfl
 have G4:∀j,W0.frozen? ⟨x,j,none⟩=false:=fun j=>by unfold World.frozen?;rw[<-hx,D2];simp
 have E7:=a8 D2;have E8:=a8 D1;have HX:=a8 hx;have HW:=a8 D9;have hm:((n+1:Nat):Int)-1=(n:Int):=by omega
 clear D2 D1 D3 E5 D9;go_enter Tryz.func158,Tryz.ntmps158
 go_wp2_with fail
 rw[HW.out];clear hx;have G5:(n:Int)<(n:Int)+1:=by omega
 have G6:IntKind.i64.wrap (n:Int)=n:=by rw[IntKind.wrap_i64];omega
 go_still_tail 12,(by kernel_rfl)
 change wpList _ _ _ _ _ W0.drew;have D0:=a8G (.int .i64 o.node) (.string (ba o.full)) (.int .i64 o.outer) E7.out;rw[HX.out]at D0
 have E1:Below w.heap.size w (((W0.setCell ⟨x,0,none⟩ (.int .i64 o.node)).setCell ⟨x,1,none⟩ (.string (ba o.full))).setCell ⟨x,2,none⟩ (.int .i64 o.outer)):=by
  have E2:w.heap.size<=x:=by rw[HX.out];exact c9 _
  exact((E8.out.setCell (p:=⟨x,0,none⟩) E2 _).setCell (p:=⟨x,1,none⟩) E2 _).setCell (p:=⟨x,2,none⟩) E2 _
 obtain⟨W3,E3⟩ : ∃W3,((W0.setCell ⟨x,0,none⟩ (.int .i64 o.node)).setCell ⟨x,1,none⟩ (.string (ba o.full))).setCell ⟨x,2,none⟩ (.int .i64 o.outer)=W3:=⟨_,rfl⟩;rw[E3]at D0 E1;have k0:=d9 _ x 0 _ _ _ D0;have k1:=d9 _ x 1 _ _ _ D0;have k2:=d9 _ x 2 _ _ _ D0;have G0:=a8 E3;have G1:=a8 E1;clear D0 E3 E1;go_wp2;rw[G0.out];exact bodyPost_ret (v:=.agg #[.int .i64 o.node,.string (ba o.full),.int .i64 o.outer]) (by simp[results,Tryz.results158,go_sem,k0,k1,k2]) rfl ⟨rfl,G1.out.drew⟩
theorem a0Q.cell{w:World}{B d:Nat}{l:List Nd}(h:a0Q w B d l):∃v,w.cell? ⟨d,0,none⟩=some v/\a00 w B v l:=by
 obtain⟨v,_,h2,h3⟩:=h;exact⟨v,by rw[d9 w d 0 _ _ _ h2];rfl,h3⟩
theorem a0Q.list{w:World}{B d:Nat}{l:List Nd}(h:a0Q w B d l)(hn:l.length<=100000)(hs:∀x∈l,Sm x):∃v,w.cell? ⟨d,0,none⟩=some v/\S3 w w.heap.size v l/\d<w.heap.size:=by
 obtain⟨v,_,h2,h3⟩:=h;exact⟨v,by rw[d9 w d 0 _ _ _ h2];rfl,h3.at (by omega) hs,i3 h2⟩
theorem b0M(d:Nat)(v:Value)(w:World)(hc:w.cell? ⟨d,0,none⟩=some v):Calls Tryz.prog 58 #[.pointer (some ⟨d,0,none⟩)] w fun e w'=>e=.returned v/\w'=w:=by
 go_enter Tryz.func58,Tryz.ntmps58;go_wp2;go_ret;exact⟨rfl,rfl⟩
theorem b6I(w:World):Calls Tryz.prog 58 #[.pointer none] w fun e w'=>e=.returned (.slice none 0 0)/\w'=w:=by
 go_enter Tryz.func58,Tryz.ntmps58;go_wp2;go_ret;exact⟨rfl,rfl⟩
theorem c0g(P:Value)(A:Option Addr)(n c:Nat)(w:World)(H:Hid (Calls Tryz.prog 58 #[P] w fun e w'=>e=.returned (.slice A n c)/\w'=w)):Calls Tryz.prog 39 #[P] w fun e w'=>e=.returned (.int .i64 (n:Nat))/\w'=w:=by
 go_enter Tryz.func39,Tryz.ntmps39
 go_wp2_with fail
 refine H.out.mono ?_;rintro e w1⟨rfl,hw⟩;rw[hw];go_wp2;go_ret;exact⟨rfl,rfl⟩
theorem c4r(w:World):Calls Tryz.prog 39 #[.pointer none] w fun e w'=>e=.returned (.int .i64 0)/\w'=w:=c0g _ none 0 0 w (b6I w)
theorem a9e{B d:Nat}{l:List Nd}(w:World)(h:a0Q w B d l)(hn:l.length<=100000)(hs:∀x∈l,Sm x):Calls Tryz.prog 39 #[.pointer (some ⟨d,0,none⟩)] w fun e w'=>e=.returned (.int .i64 (l.length:Nat))/\w'=w:=by
 obtain⟨v,hc,hv,_⟩:=h.list hn hs;obtain⟨A,cap,rfl,_⟩:=hv.slice;exact c0g _ A l.length cap w (b0M d _ w hc)
theorem c0l(P:Value)(n:Nat)(z:Int)(w:World)(H:Hid (Calls Tryz.prog 39 #[P] w fun e w'=>e=.returned (.int .i64 (n:Nat))/\w'=w)):Calls Tryz.prog 59 #[P,.int .i64 z] w fun e w'=>e=.returned (.bool (decide (0<=z/\z<(n:Int))))/\w'=w:=by
 by_cases h0:0<=z
 ·go_enter Tryz.func59,Tryz.ntmps59
  go_wp2_with fail
  refine H.out.mono ?_;rintro e w1⟨rfl,hw⟩;rw[hw];go_wp2;go_ret;exact⟨N5 (by simp[h0]),rfl⟩
 ·have h1:=f8 h0
  go_enter Tryz.func59,Tryz.ntmps59;go_wp2;go_ret;exact⟨N5 (by simp),rfl⟩
theorem c4O(z:Int)(w:World):Calls Tryz.prog 59 #[.pointer none,.int .i64 z] w fun e w'=>e=.returned (.bool false)/\w'=w:=by
 have h:=c0l (.pointer none) 0 z w (c4r w);rw[f8 (by omega)]at h
 exact h
theorem b8M{B d:Nat}{l:List Nd}(z:Int)(w:World)(h:a0Q w B d l)(hn:l.length<=100000)(hs:∀x∈l,Sm x):Calls Tryz.prog 59 #[.pointer (some ⟨d,0,none⟩),.int .i64 z] w fun e w'=>e=.returned (.bool (decide (0<=z/\z<(l.length:Int))))/\w'=w :=
 c0l _ l.length z w (a9e w h hn hs)
theorem c4K(P:Value)(z:Int)(w:World)(H:Hid (Calls Tryz.prog 59 #[P,.int .i64 z] w fun e w'=>e=.returned (.bool false)/\w'=w)):Calls Tryz.prog 97 #[P,.int .i64 z] w fun e w'=>e=.returned (.slice none 0 0)/\w'=w:=by
 go_enter Tryz.func97,Tryz.ntmps97
 go_wp2_with fail
 refine H.out.mono ?_;rintro e w1⟨rfl,hw⟩;rw[hw];go_wp2;go_ret;exact⟨rfl,rfl⟩
def c4f:Value:=.agg #[.int .i64 0,.int .i64 0,.string ⟨#[]⟩,.string ⟨#[]⟩,.string ⟨#[]⟩,.string ⟨#[]⟩,.slice none 0 0,.slice none 0 0]
theorem c4A(P:Value)(z:Int)(w:World)(H:∀w,Hid (Calls Tryz.prog 59 #[P,.int .i64 z] w fun e w'=>e=.returned (.bool false)/\w'=w)):Calls Tryz.prog 20 #[P,.int .i64 z] w fun e w'=>e=.returned c4f/\Below w.heap.size w w':=by
 have HH:=a8 H;clear H;go_enter Tryz.func20,Tryz.ntmps20
 go_wp2_with fail
 refine((HH.out _).out).mono ?_;rintro e w1⟨rfl,hw⟩;rw[hw];clear hw;go_wp2;refine bodyPost_ret (v:=c4f) (by simp[results,c4f,Tryz.results20,go_sem]) rfl ⟨rfl,?_⟩
 exact(b8 _ _).alloc (c9 _) _
theorem a4U(w:World):Calls Tryz.prog 61 #[.pointer none] w fun e w' => ∃A c,e=.returned (.slice A 0 c)/\Below w.heap.size w w':=by
 have HL:=a8 (b6I w)
 have HC:Hid (Calls Tryz.prog 80 #[.slice none 0 0,.func (.func 60) #[] #[]] w fun e w' => ∃A c,e=.returned (.slice A 0 c)/\Below w.heap.size w w'):=by
  refine(a2G [] (.slice none 0 0) w ⟨none,0,rfl,c9 _,by omega,fun h=>absurd rfl h⟩ (by simp) (by simp)).mono ?_
  rintro e w'⟨v',rfl,h,hb⟩;rcases h with⟨_,rfl⟩|⟨g,cur,rfl,_,h3,h4,_⟩
  ·exact⟨_,_,rfl,hb⟩
  ·exact⟨_,_,rfl,hb⟩
 go_enter Tryz.func61,Tryz.ntmps61
 go_wp2_with fail
 refine HL.out.mono ?_;rintro e w1⟨rfl,hw⟩;rw[hw];clear hw
 go_wp2_with fail
 refine HC.out.mono ?_;rintro e w2⟨A,c,rfl,hb⟩;go_wp2;go_ret;exact⟨_,_,rfl,hb⟩
def a03(n:Nat):List Nd->Nat->Nat
 | [],k=>k
 |x::r,k=>if(n:Int)<=x.n then a03 n r (k+1)else k
def a9o(l:List Nd)(n:Nat):Nat:=a03 n (l.drop (n+1)) (n+1)
def c4V(w:World)(l:List Nd)(n:Nat)(i:Value)(wr:World):Prop:=∃k:Nat,n<k/\k<=l.length/\i=.int .i64 k/\a9o l n=a03 n (l.drop k) k/\wr=w
theorem a4r{l:List Nd}{n:Nat}:∀(m k:Nat),l.length-k=m->k<=l.length->k<=a03 n (l.drop k) k/\a03 n (l.drop k) k<=l.length/\(∀j,k<=j->j<a03 n (l.drop k) k->(n:Int)<=pa l j)/\(a03 n (l.drop k) k<l.length->pa l (a03 n (l.drop k) k)<(n:Int))
 |0,k,hm,hk=>by
  rw[F9 (by omega),a03]
  exact⟨c9 _,hk,fun j h1 h2=>by omega,fun h=>by omega⟩
 |m+1,k,hm,hk=>by
  have D0:k<l.length:=by omega
  obtain⟨h1,h2,h3,h4⟩:=a4r (l:=l) (n:=n) m (k+1) (by omega) (by omega)
  rw[B8 D0,a03];by_cases hx:(n:Int)<=l[k].n
  ·rw[g8 hx]
   refine⟨by omega,h2,fun j D2 D1 => ?_,h4⟩
   by_cases he:j=k
   ·subst he;rw[Z5 D0];exact hx
   ·exact h3 j (by omega) D1
  ·rw[f6 hx]
   refine⟨c9 _,hk,fun j h1 h2=>by omega,fun _ => ?_⟩
   rw[Z5 D0];omega
theorem b08{l:List Nd}{n:Nat}(h:n<l.length):n<a9o l n/\a9o l n<=l.length/\(∀j,n<j->j<a9o l n->(n:Int)<=pa l j)/\(a9o l n<l.length->pa l (a9o l n)<(n:Int)):=by
 obtain⟨h1,h2,h3,h4⟩:=a4r (l:=l) (n:=n) _ (n+1) rfl (by omega)
 exact⟨h1,h2,fun j hj=>h3 j hj,h4⟩
theorem c4g{l:List Nd}{i c:Nat}(hh:W4 l i):∀j,c<=j->j<i->(∀q,c<q->q<=j->(c:Int)<=pa l q)->∀m,m∈T4 l j->m<c->m∈T4 l (pa l c).toNat:=by
 intro j
 induction j using Nat.strongRecOn with
 |ind j ih =>
  intro D1 hj hq m hm D0;have hm':=(b0F hh hj (by omega)).1 hm
  by_cases he:j=c
  ·subst he;exact hm'
  ·have hp:=hq j (by omega) (c9 _)
   have hl:=hh j (by omega) hj
   exact ih _ (by omega) (by omega) (by omega) (fun q h1 h2=>hq q h1 (by omega)) m hm' D0
theorem a6T{l:List Nd}{i:Nat}(h:S4 l i=true):(pa l i).toNat∈T4 l (i-1):=by
 simp only[S4,i4,t8]at h;exact h.1.2
theorem c4l{l:List Nd}{n c:Nat}(hh:W4 l l.length)(hg:∀i,1<=i->i<l.length->S4 l i=true)(hn:n<c)(hc:c<l.length)(D0:pa l c=n)(he:a9o l c<a9o l n):pa l (a9o l c)=n:=by
 obtain⟨a1,a2,a3,a4⟩:=b08 hc;obtain⟨b1,b2,b3,b4⟩:=b08 (show n<l.length by omega)
 have h1:=b3 (a9o l c) (by omega) he
 have h2:=a4 (by omega)
 have h3:=a6T (hg (a9o l c) (by omega) (by omega))
 have h4:=c4g (c:=c) hh (a9o l c-1) (by omega) (by omega) (fun q D1 D2=>a3 q D1 (by omega)) _ h3 (by omega)
 rw[D0]at h4;have h5:=a69 h4;omega
theorem c4B{l:List Nd}{n:Nat}(hh:W4 l l.length)(hn:n<l.length)(he:n+1<a9o l n):pa l (n+1)=n:=by
 obtain⟨b1,b2,b3,b4⟩:=b08 hn;have h1:=b3 (n+1) (by omega) he
 have h2:=hh (n+1) (by omega) (by omega)
 omega
theorem c31{l:List Nd}{n c:Nat}(hn:n<c)(hc:c<a9o l n)(hl:n<l.length):a9o l c<=a9o l n:=by
 obtain⟨b1,b2,b3,b4⟩:=b08 hl;obtain⟨a1,a2,a3,a4⟩:=b08 (show c<l.length by omega)
 by_cases h:a9o l n<a9o l c
 ·have h1:=a3 (a9o l n) (by omega) h
  have h2:=b4 (by omega)
  omega
 ·omega
theorem c4x:(Tryz.prog.info? 3).map (fun i=>(i.zero,i.size,i.bytes))=some (some (.int .i64 0),1,8):=by kernel_rfl
def c21(l:List Int):List Value:=l.map (.int .i64)
theorem m0(l:List Int):(c21 l).length=l.length:=by simp[c21]
theorem c3G(a b:List Int):c21 (a++b)=c21 a++c21 b:=by simp[c21]
theorem c3V(l:List Int):∀u∈c21 l,u.oneCell'=true:=fun u hu=>by
 simp[c21]at hu;obtain⟨z,_,rfl⟩:=hu;rfl
theorem b5s(b o j:Nat):(⟨b,o,none⟩ : Addr).add j=⟨b,o+j,none⟩:=by unfold Addr.add;split<;>simp_all
def c3w(w:World)(B:Nat)(v:Value)(l:List Int):Prop :=
 (v=.slice none 0 0/\l=[])∨∃g cap,v=.slice (some ⟨g,0,none⟩) l.length cap/\B<=g/\g<w.heap.size/\l.length<=cap/\cap<=9223372036854775807 /\
   (∀j,j<cap->(w.cell? ⟨g,j,none⟩).isSome=true/\w.frozen? ⟨g,j,none⟩=false)/\∀j u,(c21 l)[j]? = some u->w.cell? ⟨g,j,none⟩=some u
theorem c3w.nil(w:World)(B:Nat):c3w w B (.slice none 0 0) []:=.inl ⟨rfl,rfl⟩
theorem c3w.later{w w':World}{B:Nat}{v:Value}{l:List Int}(h:c3w w B v l)(hb:Below w.heap.size w w'):c3w w' B v l:=by
 rcases h with h|⟨g,cap,e,h1,h2,h3,h4,h5,h6⟩
 ·exact .inl h
 ·exact .inr ⟨g,cap,e,h1,x9 h2 hb.size,h3,h4,fun j hj=>by rw[hb.cell (p:=⟨g,j,none⟩) h2,hb.frozen (p:=⟨g,j,none⟩) h2];exact h5 j hj,fun j u hu=>by rw[hb.cell (p:=⟨g,j,none⟩) h2];exact h6 j u hu⟩
theorem c3w.of_row{w:World}{B n:Nat}{v:Value}{l:List Int}(h:w.ownsRow B 3 1 v n (c21 l)):c3w w B v l:=by
 obtain⟨hl,h |⟨g,cap,cur,rfl,hg,hh,hn,hc,hs,ht⟩⟩:=h
 ·obtain⟨rfl,rfl⟩:=h
  rw[m0]at hl;exact .inl ⟨rfl,j8 (by simpa using hl)⟩
 ·rw[m0,Nat.mul_one]at hl
  subst hl;rw[Nat.mul_one]at hs ht;refine .inr ⟨g,cap,rfl,hg,(Array.getElem?_eq_some_iff.1 hh).1,hn,by unfold maxLen at hc;exact hc,fun j hj=>⟨?_,frozen_of_row w g j cur 3 hh⟩,fun j u hu => ?_⟩
  ·rw[d9 w g j cur 3 (0,0) hh,r9 (by omega)];rfl
  ·rw[d9 w g j cur 3 (0,0) hh,<-hu,<-ht]
   have hj:j<l.length:=by
    have:=(z8.1 hu).1
    rwa [m0]at this
   rw[List.getElem?_take_of_lt hj,A9]
theorem c3w.lies{w:World}{B:Nat}{v:Value}{l:List Int}(h:c3w w B v l):∃A cap,v=.slice A l.length cap/\l.length<=cap/\cap<=9223372036854775807/\Q3 w w.heap.size A (c21 l):=by
 rcases h with⟨rfl,rfl⟩|⟨g,cap,rfl,h1,h2,h3,h4,h5,h6⟩
 ·exact⟨none,0,rfl,c9 _,by omega,fun h=>absurd rfl h⟩
 ·exact⟨some ⟨g,0,none⟩,cap,rfl,h3,h4,fun _=>⟨g,0,rfl,h2,fun j hj=>by rw[F5];exact h6 j _ (i5 hj)⟩⟩
theorem c3z{B g:Nat}(hB:B<=g){a:World}:∀(vs:List Value) (o:Nat) (w:World),Below B a w->Below B a (w.setCells g o vs)
 | [],_,_,h=>h
 |v::r,o,w,h=>c3z hB r (o+1) _ (h.setCell (p:=⟨g,o,none⟩) hB v)
theorem c3A{g:Nat}:∀(vs:List Value) (o:Nat) (w:World),(w.setCells g o vs).heap.size=w.heap.size
 | [],_,_=>rfl
 |v::r,o,w=>by rw[World.setCells,c3A r];simp[World.setCell]
theorem c37{w:World}{B g cap:Nat}{l y:List Int}(h1:B<=g)(h2:g<w.heap.size)(h4:cap<=9223372036854775807)(D0:l.length+y.length<=cap)
 (h5:∀j,j<cap->(w.cell? ⟨g,j,none⟩).isSome=true/\w.frozen? ⟨g,j,none⟩=false) (h6:∀j u,(c21 l)[j]? = some u->w.cell? ⟨g,j,none⟩=some u) :
 c3w (w.setCells g l.length (c21 y)) B (.slice (some ⟨g,0,none⟩) (l.length+y.length) cap) (l++y):=by
 have D2:=World.cell?_setCells_in g (c21 y) l.length w (fun j hj=>(h5 (l.length+j) (by rw[m0]at hj;omega)).1)
 refine .inr ⟨g,cap,by rw[e8],h1,by rw[c3A];exact h2,by rw[e8];exact D0,h4,fun j hj=>⟨?_,by rw[World.frozen?_setCells];exact(h5 j hj).2⟩,fun j u hu => ?_⟩
 ·by_cases D1:l.length<=j/\j<l.length+y.length
  ·have:=D2 (j-l.length) (by rw[m0];omega)
   rw[show l.length+(j-l.length)=j by omega]at this
   rw[this];rfl
  ·rw[World.cell?_setCells_out g (c21 y) l.length w ⟨g,j,none⟩ (fun _ _=>by rw[m0];show j<l.length∨l.length+y.length<=j;omega)]
   exact(h5 j hj).1
 ·rw[c3G]at hu
  by_cases D1:j<l.length
  ·rw[World.cell?_setCells_out g (c21 y) l.length w ⟨g,j,none⟩ (fun _ _ => .inl D1)]
   rw[List.getElem?_append_left (by rw[m0];exact D1)]at hu
   exact h6 j u hu
  ·rw[List.getElem?_append_right (by rw[m0];omega),m0]at hu
   have D3:=(z8.1 hu).1;have:=D2 (j-l.length) D3;rw[show l.length+(j-l.length)=j by omega]at this
   rw[this,<-hu,i5 D3]
theorem c30{w:World}{B cap:Nat}{l y:List Int}(hB:B<=w.heap.size)(D0:l.length+y.length<=cap)(D1:cap<=maxLen)(Z:Array Value)(hZ:Z.size=cap-(l.length+y.length)) :
 c3w (w.drew.alloc (.cells ((c21 l).toArray++(c21 y).toArray++Z) 3)) B (.slice (some ⟨w.heap.size,0,none⟩) (l.length+y.length) cap) (l++y):=by
 refine c3w.of_row (n:=l.length+y.length) ⟨by rw[m0,e8];omega,.inr ⟨w.heap.size,cap,_,rfl,hB,heap_alloc_new w.drew _,D0,D1,?_,?_⟩⟩
 ·simp only[Array.size_append,List.size_toArray,m0,hZ];omega
 ·rw[Nat.mul_one,c3G]
  simp only[Array.toList_append];rw[List.take_append_of_le_length (by simp[m0])]
  exact C0 (by simp[m0])
theorem c4o{w:World}{B:Nat}{v:Value}{l:List Int}(h:c3w w B v l)(hB:B<=w.heap.size)(ad:Addr)(m c:Nat)(y:List Int)(hm:y.length=m)(hy:∀j u,(c21 y)[j]? = some u->w.cell? (ad.add j)=some u)(hn:l.length+m<=1000000)(ty:TypeId) :
 ∃v' w',(Builtin.append_ #[72,72] ty #[v,.slice (some ad) m c]).run Tryz.prog w=.ok v' w'/\c3w w' B v' (l++y)/\Below B w w':=by
 obtain⟨i0,hi,D2,D1,D3⟩:=info_parts c4x;subst hm;rcases h with⟨rfl,rfl⟩|⟨g,cap,rfl,h1,h2,h3,h4,h5,h6⟩
 ·obtain⟨v',w',hr,ho,hg,_⟩:=run_append_own (P:=Tryz.prog) w B 72 ty 3 i0 (.int .i64 0) 1 8 Tryz.underlying72 hi D2 D1 D3 rfl (by omega) (.slice none 0 0) 0 [] (r5 _ _ _ _) ad y.length c (c21 y) (by rw[m0];omega) hy (c3V y) (by unfold maxLen;omega) (by omega) hB
  exact⟨v',w',hr,c3w.of_row ho,(b8 B w).grown hg hB (fun k hk=>by simp[Value.ownBlock]at hk)⟩
 ·by_cases D0:l.length+y.length<=cap
  ·have hf:=run_firstCells_some (P:=Tryz.prog) w 1 y.length ad y.length c (c21 y) (by rw[m0];omega) hy
   have D9:=run_storeCells_cells (P:=Tryz.prog) g l.length (c21 y) 0 w (fun j hj=>(h5 _ (by rw[m0]at hj;omega)).1) (fun j hj=>(h5 _ (by rw[m0]at hj;omega)).2) (c3V y)
   rw[Nat.add_zero]at D9;exact⟨_,_,by simp[Builtin.append_,run_underlying Tryz.underlying72,sizeOf,typeInfo,hi,D1,Builtin.lenOf,D0,hf,Addr.add_lit,D9],c37 h1 h2 h4 D0 h5 h6,c3z h1 _ _ _ (b8 _ _)⟩
  ·have hr:=run_append_grow (P:=Tryz.prog) w 72 ty 3 i0 (.int .i64 0) Tryz.underlying72 hi D2 ⟨g,0,none⟩ l.length cap (c21 l) (by rw[m0,D1];omega) (fun j u hu=>by rw[b5s,F5];exact h6 j u hu) ad y.length c (c21 y) (by rw[m0,D1];omega) hy (by omega) (by omega) (by rw[D3];exact growslice_fits (by omega) (by omega))
   refine⟨_,_,hr,c30 hB (grownCap_ge w _ cap _) (grownCap_le_maxLen w _ cap _ (by unfold maxLen;omega)) _ ?_,((b8 B w).drew).alloc hB _⟩
   rw[size_zeroCells];simp[Value.cells]
theorem c4d{w:World}{ops:Array Oper}{rest:List Oper}{o:Oper}{a:Act}{Q:Exit->Act->World->Prop}(D1:o.guard=none)(s x:Operand)
 (ho:o.op=.call { callee:=.builtin .append,args:=#[s,x],argTypes:=#[72,72] }) (B:Nat) (l:List Int) (v:Value) (hs:a.eval s=v) (D0:c3w w B v l) (hB:B<=w.heap.size)
 (ad:Addr) (m c:Nat) (y:List Int) (hx:a.eval x=.slice (some ad) m c) (hm:y.length=m) (hy:∀j u,(c21 y)[j]? = some u->w.cell? (ad.add j)=some u) (hn:l.length+m<=1000000)
 (h:∀v' w',c3w w' B v' (l++y)->Below B w w'->wpList Tryz.prog ops Q rest (a.put o.dst v') w'):wpList Tryz.prog ops Q (o::rest) a w:=by
 refine wpList_plain D1 fun K hK => ?_;obtain⟨v',w',hr,h2,h3⟩:=c4o D0 hB ad m c y hm hy hn o.type;unfold Oper.wp execOp;simp only[ho,resolve,invoke,builtin,Sem.run_bind,Sem.run_pure,Result.andThen_ok,List.map_toArray,List.map_cons,List.map_nil,hs,hx,hr];exact hK _ _ (h v' w' h2 h3)
theorem c4e{w:World}{ops:Array Oper}{rest:List Oper}{o:Oper}{a:Act}{Q:Exit->Act->World->Prop}(D1:o.guard=none)(s x:Operand)
 (ho:o.op=.call { callee:=.builtin .append,args:=#[s,x],argTypes:=#[72,72] }) (B:Nat) (l:List Int) (v:Value) (hs:a.eval s=v) (D0:c3w w B v l) (hB:B<=w.heap.size)
 (y:Int) (hx:a.eval x=.slice (some ⟨w.heap.size,0,none⟩) 1 1) (hn:l.length+1<=1000000)
 (h:∀v' w',c3w w' B v' (l++[y])->Below B w w'->wpList Tryz.prog ops Q rest (a.put o.dst v') w'):wpList Tryz.prog ops Q (o::rest) a (w.alloc (.cells #[.int .i64 y] 3)):=by
 have hb:=(b8 w.heap.size w).alloc (c9 _) (.cells #[.int .i64 y] 3);refine c4d D1 s x ho B l v hs (D0.later hb) (d8 hB hb.size) ⟨w.heap.size,0,none⟩ 1 1 [y] hx rfl (fun j u hu => ?_) hn fun v' w' h2 h3=>h v' w' h2 ((hb.mono hB).trans h3);rw[b5s,F5,d9 _ _ j _ _ _ (g9 w _)];exact List.getElem?_toArray.trans hu
def u5(l:List Nd)(n:Nat):Nat->List Int
 |0 => []
 |k+1=>if n<k/\pa l k=(n:Int)then u5 l n k++[(k:Int)]else u5 l n k
theorem c38(l:List Nd)(n:Nat):∀k,(u5 l n k).length<=k
 |0=>c9 _
 |k+1=>by
  have:=c38 l n k;unfold u5;split
  ·simp;exact this
  ·omega
theorem c3T(l:List Nd)(n:Nat):∀k,k<=n+1->u5 l n k=[]
 |0,_=>rfl
 |k+1,h=>by rw[u5,f6 (by omega),c3T l n k (by omega)]
def c4U(w:World)(l:List Nd)(n:Nat)(v i:Value)(wr:World):Prop:=∃k:Nat,n<k/\k<=a9o l n/\i=.int .i64 k/\c3w wr w.heap.size v (u5 l n k)/\Below w.heap.size w wr
theorem c3K(l:List Nd)(n c:Nat):∀e,c<=e->∃r,u5 l n e=u5 l n c++r
 |0,h=>⟨[],by rw[show c=0 by omega];simp⟩
 |e+1,h=>by
  by_cases he:c=e+1
  ·subst he;exact⟨[],by simp⟩
  ·obtain⟨r,hr⟩:=c3K l n c e (by omega)
   rw[u5]
   split
   ·exact⟨r++[(e:Int)],by rw[hr,List.append_assoc]⟩
   ·exact⟨r,hr⟩
theorem c3O{l:List Nd}{n c:Nat}(h:n<c)(hp:pa l c=(n:Int)):u5 l n (c+1)=u5 l n c++[(c:Int)]:=by rw[u5,g8 ⟨h,hp⟩]
theorem c3D{l:List Nd}{n c:Nat}:∀e,c<=e->(∀j,c<=j->j<e->pa l j≠(n:Int))->u5 l n e=u5 l n c
 |0,h,_=>by rw[show c=0 by omega]
 |e+1,h,hn=>by
  by_cases he:c=e+1
  ·subst he;rfl
  ·rw[u5,f6 (fun hh=>hn e (by omega) (by omega) hh.2)]
   exact c3D e (by omega) (fun j h1 h2=>hn j h1 (by omega))
theorem c4m{l:List Nd}{n c e:Nat}(h:n<c)(hc:c<e)(hp:pa l c=(n:Int)):(u5 l n e)[(u5 l n c).length]? = some (c:Int):=by
 obtain⟨r,hr⟩:=c3K l n (c+1) e (by omega)
 rw[hr,c3O h hp,List.append_assoc,List.getElem?_append_right (c9 _)];simp
theorem c4I{l:List Nd}{n c e:Nat}(h:n<c)(hc:c<e)(hp:pa l c=(n:Int)):(u5 l n c).length<(u5 l n e).length:=by
 have:=c4m h hc hp;exact(z8.1 this).1
theorem c4H{l:List Nd}{n c:Nat}(hh:W4 l l.length)(hg:∀i,1<=i->i<l.length->S4 l i=true)(hl:n<l.length)(h:n<c)(hc:c<a9o l n)(hp:pa l c=(n:Int)) :
 n<a9o l c/\a9o l c<=a9o l n/\(u5 l n (a9o l c)).length=(u5 l n c).length+1/\(a9o l c<a9o l n->pa l (a9o l c)=(n:Int)):=by
 obtain⟨e1,e2,_,_⟩:=b08 hl;have D0:c<l.length:=by omega
 obtain⟨a1,a2,a3,a4⟩:=b08 D0;refine⟨by omega,c31 h hc hl,?_,fun he=>c4l hh hg h D0 hp he⟩
 rw[c3D (c:=c+1) (a9o l c) (by omega) (fun j h1 h2 hj=>by have:=a3 j (by omega) h2;omega),c3O h hp]
 simp
def upL(l:List Nd)(n:Nat):List Int :=
 if h:0<=pa l n/\(pa l n).toNat<n then pa l n::upL l (pa l n).toNat else[]
termination_by n
decreasing_by exact h.2
theorem c4i{l:List Nd}{n:Nat}(h:0<=pa l n/\(pa l n).toNat<n):upL l n=pa l n::upL l (pa l n).toNat:=by rw[upL,dif_pos h]
theorem c4h{l:List Nd}{n:Nat}(h:¬(0<=pa l n/\(pa l n).toNat<n)):upL l n=[]:=by rw[upL,dif_neg h]
def c4p(w:World)(l:List Nd)(n:Nat)(v a:Value)(wr:World):Prop:=∃(q:Nat) (r:List Int),q<=n/\a=.int .i64 (pa l q)/\upL l n=r++upL l q/\r.length+q<=n/\c3w wr w.heap.size v r/\Below w.heap.size w wr
theorem c4P{B d:Nat}{l:List Nd}(n:Nat)(w:World)(h:a0Q w B d l)(hn:l.length<=100000)(hs:∀x∈l,Sm x)(D3:n<l.length)(hh:W4 l l.length)(h0:pa l 0 = -1):Calls Tryz.prog 97 #[.pointer (some ⟨d,0,none⟩),.int .i64 (n:Int)] w fun e w' => ∃v',e=.returned v'/\c3w w' w.heap.size v' (upL l n)/\Below w.heap.size w w':=by
 have HH:=a8 (b8M (n:Int) w h hn hs);rw[i6 (by omega)]at HH
 obtain⟨v,hc,hv,E2⟩:=h.list hn hs;obtain⟨b,o,cap,rfl,G4,J5,E3,E4⟩:=hv.open (by intro h;rw[h]at D3;simp at D3)
 have D0:Hid (∀k,k<l.length->w.cell? ⟨b,o+k*8+1,none⟩=some (.int .i64 (pa l k))):=fun k hk=>by
  obtain⟨vd,va,_,d1,_⟩:=(E4 k hk).cells;rw[Z5 hk];exact d1
 have HP:Hid (∀q,q<l.length->0<=pa l q->(pa l q).toNat<q):=fun q hq hp=>by
  rcases B9 q with rfl|h1
  ·rw[h0]at hp;omega
  ·exact(hh.toNat h1 hq).2
 have J6:=D0.out n D3;have G5:Hid (c4p w l n (.slice none 0 0) (.int .i64 (pa l n)) w):=⟨n,[],c9 _,rfl,rfl,by simp,c3w.nil _ _,b8 _ _⟩
 obtain⟨R,hR⟩ : ∃R,upL l n=R:=⟨_,rfl⟩;rw[hR];have HR:=a8 hR;obtain⟨m,E5⟩ : ∃m,l.length=m:=⟨_,rfl⟩;rw[E5]at hn G4 D3 hc D0 HP;have HC:=a8 hc;clear E4 hv h E5 hh h0 hR;generalize pa l n=p0 at *;go_enter Tryz.func97,Tryz.ntmps97
 go_wp2_with fail
 refine HH.out.mono ?_;rintro e w1⟨rfl,hw⟩;rw[hw];clear hw;go_wp2
 go_loopw [5,6] (c4p w l n) (fun v a _=>(intOf a+1).toNat)
 case atStart=>exact G5.out
 case round =>
  obtain⟨q,r,hq,rfl,hE,J7,hO,hb⟩:=hrel;have HO:=a8 hO;have HE:=a8 hE;obtain⟨A0,c0,G6,_⟩:=hO.lies;subst G6;clear hO hE;have HQ:=a8 (HP.out q (by omega))
  by_cases hp:0<=pa l q
  ·have E6:=HQ.out hp
   obtain⟨p,D9⟩ : ∃p:Nat,pa l q=(p:Int):=⟨(pa l q).toNat,by omega⟩
   have HS:Hid (upL l q=(p:Int)::upL l p):=by
    show _=_
    rw[c4i ⟨hp,E6⟩,D9];rfl
   have J8:p<q:=by omega
   have E7:p<m:=by omega
   have G7:wr.cell? ⟨d,0,none⟩=some (.slice (some ⟨b,o,none⟩) m cap):=(hb.cell (p:=⟨d,0,none⟩) E2).trans HC.out;have d1:wr.cell? ⟨b,o+p*8+1,none⟩=some (.int .i64 (pa l p)):=(hb.cell (p:=⟨b,o+p*8+1,none⟩) E3).trans (D0.out p E7);have E8:=HP.out p E7;have G8:=a8 E8;rw[D9];have G9:r.length+1<=1000000:=by omega
   have J1:=hb.size;clear hp E6 D9 E8;have D1:∀v3 w3,c3w w3 w.heap.size v3 (r++[(p:Int)])->Below w.heap.size wr w3->c4p w l n v3 (.int .i64 (pa l p)) w3:=fun v3 w3 E0 D2=>⟨p,r++[(p:Int)],by omega,rfl,by rw[HE.out,HS.out];simp,by simp;omega,E0,hb.trans D2⟩
   have E1:=a8 D1
   have G0:pa l p+1<(p:Int)+1:=by
    rcases Int.lt_or_le (pa l p) 0 with h|h
    ·omega
    ·have:=G8.out h;omega
   have J2:=a8 G0;clear D1 G0;generalize pa l p=z at *;have J9:(0:Int)<=(p:Int):=by omega
   go_wp2_with (at_builtin;refine c4e rfl _ _ rfl w.heap.size r _ rfl HO.out J1 _ rfl G9 ?_;intro v3 w3 E0 D2;have J3:w3.cell? ⟨d,0,none⟩=some (.slice (some ⟨b,o,none⟩) m cap):=(D2.cell (p:=⟨d,0,none⟩) E2).trans G7;have d13:w3.cell? ⟨b,o+p*8+1,none⟩=some (.int .i64 z):=(D2.cell (p:=⟨b,o+p*8+1,none⟩) E3).trans d1)
   go_roundw
   case rel=>exact E1.out _ _ E0 D2
   case measure=>have:=J2.out;simp[intOf];omega
  ·have L0:=f8 hp
   have G1:R=r:=by rw[<-HR.out,HE.out,c4h (fun h=>hp h.1),A7]
   have J4:=a8 G1;clear G1;go_wp2;go_ret;exact⟨_,rfl,by rw[J4.out];exact HO.out,hb⟩
theorem b7l{l:List Nd}{m p a:Nat}(hp:pa l m=(p:Int))(D1:p<m)(D0:a≠m):a∈T4 l m↔a∈T4 l p:=by
 rw[a0q (by rw[hp];omega),q8,hp]
 exact⟨fun h=>h.resolve_left D0,.inr⟩
theorem b7m{l:List Nd}{m a:Nat}(hp:pa l m = -1)(D0:a≠m):a∉T4 l m:=by
 rw[a0N (by rw[hp];omega),r8];exact D0
theorem a6w{l:List Nd}{b m:Nat}(hh:W4 l (b+1))(h0:pa l 0 = -1)(hm:m<=b):(m=0/\pa l m = -1)∨∃p:Nat,pa l m=(p:Int)/\p<m:=by
 rcases B9 m with rfl|h1
 ·exact .inl ⟨rfl,h0⟩
 ·have:=hh m h1 (by omega)
  exact .inr ⟨(pa l m).toNat,by omega,by omega⟩
def c1p(w:World)(l:List Nd)(a b:Nat)(i:Value)(wr:World):Prop:=wr=w/\((∃m:Nat,m<=b/\i=.int .i64 m/\(a∈T4 l b↔a∈T4 l m))∨(i=.int .i64 (-1)/\a∉T4 l b))
theorem b5v(l:List Nd)(v:Value)(a b:Nat)(w:World)(hv:S3 w w.heap.size v l)(hb:b<l.length)(hh:W4 l (b+1))(h0:pa l 0 = -1) :
 Calls Tryz.prog 69 #[v,.int .i64 (a:Int),.int .i64 (b:Int)] w fun e w'=>e=.returned (.bool (decide (a∈T4 l b)))/\w'=w:=by
 obtain⟨bl,o,cap,rfl,E1,E7,E8,D3⟩:=hv.open (by intro h;subst h;simp at hb)
 have D0:Hid (∀k,k<l.length->w.cell? ⟨bl,o+k*8+1,none⟩=some (.int .i64 (pa l k))):=fun k hk=>by
  obtain⟨vd,va,_,d1,_⟩:=(D3 k hk).cells;rw[Z5 hk];exact d1
 have E2:Hid (∀m,m<=b->(m=0/\pa l m = -1)∨∃p:Nat,pa l m=(p:Int)/\p<m):=fun m hm=>a6w hh h0 hm;obtain⟨R,hR⟩ : ∃R,decide (a∈T4 l b)=R:=⟨_,rfl⟩;rw[hR];have HR:=a8 hR;obtain⟨n,D9⟩ : ∃n,l.length=n:=⟨_,rfl⟩;rw[D9]at E1 hb D0 ⊢;clear D3 hv D9 hh h0 hR;go_enter Tryz.func69,Tryz.ntmps69;go_wp2
 go_loopw [2] (c1p w l a b) (fun i _=>(intOf i+1).toNat)
 case atStart=>exact⟨rfl,.inl ⟨b,c9 _,rfl,Iff.rfl⟩⟩
 case round =>
  obtain⟨rfl,⟨m,hm,rfl,D2⟩|⟨rfl,E0⟩⟩:=hrel
  ·have HI:=a8 D2
   clear D2;have E3:m<n:=by omega
   by_cases D1:a=m
   ·have E4:R=true:=by rw[<-HR.out,t8,HI.out,D1];exact b1o l m
    subst E4;have t1:((a:Int)==(m:Int))=true:=by simp;omega
    clear D1;go_wp2;go_ret;exact⟨rfl,rfl⟩
   ·have t1:((a:Int)==(m:Int))=false:=by rw[e9];omega
    have hc:=D0.out m E3;rcases E2.out m hm with⟨rfl,hp⟩|⟨p,hp,E5⟩
    ·have HN:Hid (a∉T4 l b):=fun h=>b7m hp D1 (HI.out.1 h)
     rw[hp]at hc;clear D1 hp HI;go_wp2
     go_roundw
     case rel=>exact⟨rfl,.inr ⟨rfl,HN.out⟩⟩
     case measure=>simp[intOf]
    ·have HN:Hid (a∈T4 l b↔a∈T4 l p):=HI.out.trans (b7l hp E5 D1)
     rw[hp]at hc;clear D1 hp HI;go_wp2
     go_roundw
     case rel=>exact⟨rfl,.inl ⟨p,by omega,rfl,HN.out⟩⟩
     case measure=>simp[intOf];omega
  ·have E6:R=false:=by rw[<-HR.out,F4];exact E0
   subst E6;clear E0;go_wp2;go_ret;exact⟨rfl,rfl⟩
def c3x:List Nd->Nat->Nat
 | [],_=>0
 |x::r,k=>if 0<k/\x.n=0/\x.k=1 then k else c3x r (k+1)
def c4R(w:World)(l:List Nd)(i:Value)(wr:World):Prop:=∃k:Nat,k<=l.length/\i=.int .i64 k/\c3x l 0=c3x (l.drop k) k/\wr=w
def O1(l:List Nd)(n:Nat):Nat->Int
 |0 => -1
 |m+1=>if 0<m/\pa l m=pa l n then(m:Int)else O1 l n m
def c1o(w:World)(l:List Nd)(n:Nat)(i:Value)(wr:World):Prop:=∃m:Nat,m<=n/\i=.int .i64 ((m:Int)-1)/\O1 l n n=O1 l n m/\Below w.heap.size w wr
theorem b5r(l:List Nd)(v:Value)(n:Nat)(w:World)(hv:S3 w w.heap.size v l)(hn:n<l.length)(D1:l.length<=2000000):Calls Tryz.prog 183 #[v,.int .i64 (n:Int)] w fun e w'=>e=.returned (.int .i64 (O1 l n n))/\Below w.heap.size w w':=by
 obtain⟨bl,o,cap,rfl,E3,E6,D3,D9⟩:=hv.open (by intro h;subst h;simp at hn)
 have D0:Hid (∀k,k<l.length->w.cell? ⟨bl,o+k*8+1,none⟩=some (.int .i64 (pa l k))):=fun k hk=>by
  obtain⟨vd,va,_,d1,_⟩:=(D9 k hk).cells;rw[Z5 hk];exact d1
 obtain⟨R,hR⟩ : ∃R,O1 l n n=R:=⟨_,rfl⟩;rw[hR];have HR:=a8 hR;obtain⟨q,E0⟩ : ∃q,l.length=q:=⟨_,rfl⟩;rw[E0]at E3 hn D1 D0 ⊢;clear D9 hv E0 hR;go_enter Tryz.func183,Tryz.ntmps183;go_wp2
 go_loopw [5] (c1o w l n) (fun i _=>(intOf i+1).toNat)
 case atStart=>exact⟨n,c9 _,by go_num,rfl,b8 _ _⟩
 case round =>
  obtain⟨m,hm,rfl,hE,hb⟩:=hrel;have HE:=a8 hE;clear hE;by_cases h1:2<=m
  ·obtain⟨j,rfl⟩ : ∃j,m=j+1:=⟨m-1,by omega⟩
   have hj:((j+1:Nat):Int)-1=(j:Int):=by omega
   rw[hj];have E4:j<q:=by omega
   have E7:(j:Int)>0:=by omega
   have c1:wr.cell? ⟨bl,o+j*8+1,none⟩=some (.int .i64 (pa l j)):=(hb.cell (p:=⟨bl,o+j*8+1,none⟩) D3).trans (D0.out j E4);have c2:wr.cell? ⟨bl,o+n*8+1,none⟩=some (.int .i64 (pa l n)):=(hb.cell (p:=⟨bl,o+n*8+1,none⟩) D3).trans (D0.out n hn)
   have HS:Hid (O1 l n (j+1)=if pa l j=pa l n then(j:Int)else O1 l n j):=by
    show _=_
    rw[O1];by_cases h:pa l j=pa l n
    ·rw[g8 ⟨by omega,h⟩,g8 h]
    ·rw[f6 (fun hh=>h hh.2),f6 h]
   generalize pa l j=x at *;generalize pa l n=y at *;by_cases he:x=y
   ·have E1:R=(j:Int):=by rw[<-HR.out,HE.out,HS.out,g8 he]
    have D2:=a8 E1;have t1:(x==y)=true:=by simpa using he
    clear he E1 hj
    go_wp2_with fail
    go_quiet (fail)
    go_wp2;go_ret;exact⟨by rw[D2.out];rfl,i7 hb _⟩
   ·have E5:Hid (O1 l n n=O1 l n j):=by show _=_;rw[HE.out,HS.out,f6 he]
    have t1:(x==y)=false:=by simpa using he
    clear he hj
    go_wp2_with fail
    go_quiet (fail)
    go_wp2
    go_roundw
    case rel=>exact⟨j,by omega,rfl,E5.out,i7 hb _⟩
    case measure=>simp[intOf]
  ·have hz:¬(m:Int)-1>0:=by omega
   have E8:=f8 hz
   have E2:R = -1:=by
    rw[<-HR.out,HE.out];rcases(show m=0∨m=1 by omega)with rfl|rfl
    ·rfl
    ·rw[O1,f6 (by omega)];rfl
   have D2:=a8 E2;clear E2;go_wp2;go_ret;exact⟨by rw[D2.out];rfl,hb⟩
def c3J(l:List Nd)(n:Nat):Nat->Nat
 |0=>0
 |k+1=>if n∈T4 l k then k+1 else c3J l n k
def c4T(w:World)(l:List Nd)(n:Nat)(out i:Value)(wr:World):Prop:=∃k:Nat,k<=l.length/\i=.int .i64 k/\out=.int .i64 (c3J l n k:Nat)/\wr=w
def c3B(l:List Nd)(n:Nat):Nat->List Int
 |0 => []
 |k+1=>if 0<k/\pa l k=(n:Int)then c3B l n k++[(k:Int)]else c3B l n k
theorem c3Z(l:List Nd)(n:Nat):∀k,(c3B l n k).length<=k
 |0=>c9 _
 |k+1=>by
  have:=c3Z l n k;unfold c3B;split
  ·simp;exact this
  ·omega
def c4S(w:World)(l:List Nd)(n:Nat)(v i:Value)(wr:World):Prop:=∃k:Nat,k<=l.length/\i=.int .i64 k/\c3w wr w.heap.size v (c3B l n k)/\Below w.heap.size w wr
theorem b5j{l:List Nd}{a b:Nat}:∀c,b∈T4 l c->a∈T4 l b->a∈T4 l c:=by
 intro c
 induction c using Nat.strongRecOn with
 |ind c ih =>
  intro hb ha;by_cases hp:0<=pa l c/\(pa l c).toNat<c
  ·rw[a0q hp,q8]at hb
   rcases hb with rfl|hb
   ·exact ha
   ·rw[a0q hp,q8]
    exact .inr (ih _ hp.2 hb ha)
  ·rw[a0N hp,r8]at hb
   subst hb;exact ha
theorem c4y{l:List Nd}{n:Nat}(hh:W4 l l.length)(hl:n<l.length):∀j,n<=j->j<a9o l n->n∈T4 l j:=by
 obtain⟨e1,e2,e3,e4⟩:=b08 hl;intro j
 induction j using Nat.strongRecOn with
 |ind j ih =>
  intro h1 h2;by_cases he:n=j
  ·subst he;exact b1o l n
  ·have hp:=e3 j (by omega) h2
   have hl':=hh j (by omega) (by omega)
   refine(b0F hh (show j<l.length by omega) (by omega)).2 (ih _ (by omega) (by omega) (by omega))
theorem b9g{l:List Nd}{n:Nat}(hh:W4 l l.length)(hg:∀i,1<=i->i<l.length->S4 l i=true)(hl:n<l.length):∀j,a9o l n<=j->j<l.length->n∉T4 l j:=by
 obtain⟨e1,e2,e3,e4⟩:=b08 hl;intro j
 induction j using Nat.strongRecOn with
 |ind j ih =>
  intro h1 h2 hm;have hm':=(b0F hh h2 (by omega)).1 hm
  by_cases he:j=a9o l n
  ·subst he
   have:=e4 h2;have hj:=hh _ (by omega) h2
   have:=a69 hm';omega
  ·exact ih (j-1) (by omega) (by omega) (by omega) (b5j _ (a6T (hg j (by omega) h2)) hm')
theorem c4N{l:List Nd}{n:Nat}(hh:W4 l l.length)(hg:∀i,1<=i->i<l.length->S4 l i=true)(hl:n<l.length):c3J l n l.length=a9o l n:=by
 obtain⟨e1,e2,e3,e4⟩:=b08 hl
 have h1:∀k,a9o l n<=k->k<=l.length->c3J l n k=c3J l n (a9o l n):=fun k=>by
  induction k with
  |zero=>intro h _;rw[show a9o l n=0 by omega]
  |succ k ih =>
   intro ha hb;by_cases he:a9o l n=k+1
   ·rw[he]
   ·rw[c3J,f6 (b9g hh hg hl k (by omega) (by omega))]
    exact ih (by omega) (by omega)
 rw[h1 _ e2 (c9 _)];obtain⟨k,hk⟩ : ∃k,a9o l n=k+1:=⟨a9o l n-1,by omega⟩
 rw[hk,c3J,g8 (c4y hh hl k (by omega) (by omega))]
theorem c4D{l:List Nd}{n:Nat}(hh:W4 l l.length)(hg:∀i,1<=i->i<l.length->S4 l i=true)(hl:n<l.length):c3B l n l.length=u5 l n (a9o l n):=by
 obtain⟨e1,e2,e3,e4⟩:=b08 hl
 have h0:∀k,k<=l.length->c3B l n k=u5 l n k:=fun k=>by
  induction k with
  |zero=>intro _;rfl
  |succ k ih =>
   intro hk;rw[c3B,u5,ih (by omega)]
   by_cases hp:pa l k=(n:Int)
   ·by_cases D0:0<k
    ·have:=hh k (by omega) (by omega)
     rw[g8 ⟨D0,hp⟩,g8 ⟨by omega,hp⟩]
    ·rw[f6 (fun h=>D0 h.1),f6 (fun h=>by omega)]
   ·rw[f6 (fun h=>hp h.2),f6 (fun h=>hp h.2)]
 rw[h0 _ (c9 _)];refine c3D _ e2 (fun j h1 h2 hp => ?_);refine b9g hh hg hl j h1 h2 ?_;have hj:=hh j (by omega) h2
 refine(b0F hh h2 (by omega)).2 ?_
 rw[hp];exact b1o l n
theorem a8J{P:Program}(w:World)(base:Nat)(t ty e:TypeId)(i:TypeInfo)(size c:Nat)(ht:P.underlying t=some (.slice e))(hi:P.info? e=some i)(v:Value)(n:Nat)(xs:List Value)(D0:w.ownsRow base e size v n xs) :
 (Builtin.append_ #[t,t] ty #[v,.slice none 0 c]).run P w=.ok v w:=by
 rcases D0.2 with⟨rfl,rfl⟩|⟨g,cap,cur,rfl,_,_,D1,_⟩
 ·simp[Builtin.append_,run_underlying ht,sizeOf,typeInfo,hi,Builtin.lenOf,Builtin.firstCells]
 ·simp[Builtin.append_,run_underlying ht,sizeOf,typeInfo,hi,Builtin.lenOf,Builtin.firstCells,D1,storeCells]
theorem b4g{w:World}{B:Nat}{v:Value}{n k:Nat}{xs:List Value}(h:R1 w B v n xs)(hk:0<k)(hl:xs.length=n*k):(∃c,v=.slice none 0 c/\n=0)∨∃ad c,v=.slice (some ad) n c/\∀j u,xs[j]? = some u->w.cell? (ad.add j)=some u:=by
 obtain⟨A,cap,rfl,h1,h2,h3⟩:=h;rcases B9 xs.length with h0|h0
 ·cases A with
  |none =>
   rcases B9 n with hn|hn
   ·subst hn;exact .inl ⟨cap,rfl,rfl⟩
   ·exfalso
    have:0<n*k:=Nat.mul_pos hn hk;omega
  |some ad=>exact .inr ⟨ad,cap,rfl,fun j u hu=>by have:=(z8.1 hu).1;omega⟩
 ·obtain⟨b,o,rfl,_,hc⟩:=h3 (by rintro rfl;simp at h0)
  refine .inr ⟨_,cap,rfl,fun j u hu => ?_⟩;obtain⟨hj,rfl⟩:=z8.1 hu;rw[b5s];exact hc j hj
theorem b0l{P:Program}(w:World)(base:Nat)(t ty e:TypeId)(i:TypeInfo)(z:Value)(size bytes:Nat)(ht:P.underlying t=some (.slice e))(hi:P.info? e=some i)(hz:i.zero=some z)(D2:i.size=size)(E1:i.bytes=bytes)(E2:z.cells.size=size)(E3:0<size)
 (v:Value) (n:Nat) (xs:List Value) (D0:w.ownsRow base e size v n xs) (m:Nat) (src:Value) (news:List Value) (E0:(∃c,src=.slice none 0 c/\m=0)∨∃ad c,src=.slice (some ad) m c/\∀j u,news[j]? = some u->w.cell? (ad.add j)=some u) (hl:news.length=m*size) (h1:∀u∈news,u.oneCell'=true)
 (E4:n+m<=maxLen) (D1:(n+m)*bytes<=140737488355328) (D3:base<=w.heap.size) :
 ∃v' w',(Builtin.append_ #[t,t] ty #[v,src]).run P w=.ok v' w'/\w'.ownsRow base e size v' (n+m) (xs++news)/\w.grownBy w' v.ownBlock/\(v'.ownBlock=v.ownBlock∨v'.ownBlock=some w.heap.size):=by
 rcases E0 with⟨c,rfl,rfl⟩|⟨ad,c,rfl,D9⟩
 ·have h0:news=[]:=j8 (by rw[hl];omega)
  subst h0;refine⟨v,w,a8J w base t ty e i size c ht hi v n xs D0,?_,⟨rfl,rfl,rfl,c9 _,fun _ _ _=>rfl⟩,.inl rfl⟩;rw[A7];exact D0
 ·obtain⟨v',w',hr,h2,h3,_,h5⟩:=run_append_own_at (P:=P) w base t ty e i z size bytes ht hi hz D2 E1 E2 E3 v n xs D0 ad m c news hl D9 h1 E4 D1 D3
  exact⟨v',w',hr,h2,h3,h5⟩
theorem U3{P:Program}{w:World}{ops:Array Oper}{o:Oper}{a:Act}{K:Act->World->Prop}{Q:Exit->Act->World->Prop}{E:Prop}(E0:o.guard=none)(s x:Operand)(t:TypeId)(ho:o.op=.call { callee:=.builtin .append,args:=#[s,x],argTypes:=#[t,t] })
 (base:Nat) (e:TypeId) (i:TypeInfo) (z:Value) (size bytes:Nat) (ht:P.underlying t=some (.slice e)) (hi:P.info? e=some i) (hz:i.zero=some z) (D1:i.size=size) (E1:i.bytes=bytes) (E2:z.cells.size=size) (E3:0<size)
 (v:Value) (n:Nat) (xs:List Value) (hs:a.eval s=v) (D3:w.ownsRow base e size v n xs) (m:Nat) (src:Value) (hx:a.eval x=src) (news:List Value) (D9:(∃c,src=.slice none 0 c/\m=0)∨∃ad c,src=.slice (some ad) m c/\∀j u,news[j]? = some u->w.cell? (ad.add j)=some u) (hl:news.length=m*size) (h1:∀u∈news,u.oneCell'=true)
 (E4:n+m<=maxLen) (D0:(n+m)*bytes<=140737488355328) (D2:base<=w.heap.size)
 (h:∀v' w',w'.ownsRow base e size v' (n+m) (xs++news)->w.grownBy w' v.ownBlock->(v'.ownBlock=v.ownBlock∨v'.ownBlock=some w.heap.size)->K (a.put o.dst v') w') :
 if Region.wanted o (yielded ops a.tmps)=true then Oper.wp P o a w K Q else E:=by
 have hw:Region.wanted o (yielded ops a.tmps)=true:=by simp[Region.wanted,E0]
 rw[g8 hw];obtain⟨v',w',hr,h2,h3,h5⟩:=b0l (P:=P) w base t o.type e i z size bytes ht hi hz D1 E1 E2 E3 v n xs D3 m src news D9 hl h1 E4 D0 D2;unfold Oper.wp execOp;simp only[ho,resolve,invoke,builtin,Sem.run_bind,Sem.run_pure,Result.andThen_ok,List.map_toArray,List.map_cons,List.map_nil,hs,hx,hr];exact h v' w' h2 h3 h5
end Go.Proofs.YtlgcigmolfhamaaGreatDoor
