/-
  parse.reader: innermost. Conditions: the reader lies as it is; something is open.
  (*Doc).list, Len, has, Top and End: of a document, and of none. Conditions: the document lies as it is; there are not too many nodes. (*Doc).Top and End of a document. Conditions: the document lies as it is; there are not too many nodes. A node's children, each with all below it, stand side by side: numbers alone. Conditions: the nodes hang where they may. append to one's own row of ints. Conditions: there are not too many. (*Doc).Kids of a document. Conditions: the document lies as it is; there are not too many nodes. The children that are counted as far as a place: numbers alone. Conditions: the nodes hang where they may. (*Doc).Up of a document. Conditions: the document lies as it is; its nodes hang on nodes ahead; there are not too many nodes. apostilleref07.Above, ahead and Top: the document's own. Conditions: the list lies as it is; for Above the nodes hang on nodes ahead. apostilleref07.End, Kids and Up: the document's own. Conditions: the list lies as it is; the nodes hang where they may. Of a formed list the document's End, Kids and Top are the program's: numbers alone. Conditions: the list is formed.
  append of things that lie in memory, none of them too, to a row of one's own, at a step of a region that draws its order. Conditions: there is room in an int.
-/
import Derived.Test.YteinegfbpfhflaaGreatDoorK19
import Derived.StillTailTactics
import Derived.Test.YteinegfbpfhflaaGreatDoorK09
import Derived.Laws.IdiomCopy
import Derived.Laws.AppendOwn
import Derived.Laws.AppendOwnNone
import Derived.Laws.MakeOwn
import Derived.Laws.Externs
import Derived.Lib.AppendStr
import Derived.OwnWalk
import Derived.Deep.Draws
import Derived.Deep.QuietTactic
import Derived.BigQuiet
import Derived.Deep.WholeRow
import Derived.Test.YteinegfbpfhflaaGreatDoorK12
import Derived.Test.YteinegfbpfhflaaGreatDoorK00
namespace Go.Proofs.YteinegfbpfhflaaGreatDoor
open Go.RowKit
set_option linter.unusedVariables false
set_option maxRecDepth 100000
set_option maxHeartbeats 8000000
theorem a8G{w:World}{g:Nat}{c0 c1 c2:Value}{t:TypeId}(v0 v1 v2:Value)(h:w.heap[g]? = some (.cells #[c0,c1,c2] t (0,0))):(((w.setCell ⟨g,0,none⟩ v0).setCell ⟨g,1,none⟩ v1).setCell ⟨g,2,none⟩ v2).heap[g]? = some (.cells #[v0,v1,v2] t (0,0)):=by
 rw[o8 (o8 (o8 h))];rfl
theorem S7.last{w:World}{B rb:Nat}{st:Rd}{vn vo vd vt:Value}{ys:List Ny}(h:S7 w B rb st vn vo vd vt ys){fr:List Po}{o:Po}(ho:st.op=fr++[o]):∃g cap,vo=.slice (some ⟨g,0,none⟩) (fr.length+1) cap/\fr.length+1<=cap/\cap<=9223372036854775807/\g<w.heap.size /\
 w.cell? ⟨g,fr.length*3,none⟩=some (.int .i64 o.node)/\w.cell? ⟨g,fr.length*3+1,none⟩=some (.string (ba o.full))/\w.cell? ⟨g,fr.length*3+2,none⟩=some (.int .i64 o.outer):=by
 have hr:=h.ro;rw[ho]at hr;have hl:(fr++[o]).length=fr.length+1:=by simp
 rw[hl]at hr;obtain⟨h1,⟨_,h2⟩|⟨g,cap,cur,rfl,hg,hh,hn,hc,hs,ht⟩⟩:=hr
 ·omega
 ·refine⟨g,cap,rfl,hn,by unfold maxLen at hc;exact hc,i3 hh,?_⟩
  have D0:∀j,j<3->w.cell? ⟨g,fr.length*3+j,none⟩=(poC o)[j]?:=fun j hj=>by
   rw[d9 w g _ cur _ _ hh,<-A9]
   have e:cur.toList[fr.length*3+j]? = ((fr++[o]).flatMap poC)[fr.length*3+j]?:=by
    rw[<-ht,List.getElem?_take_of_lt (by omega)]
   rw[e,Q6 (f:=poC) (c:=3) a8W (fr++[o]) fr.length j (by simp) hj]
   simp
  exact⟨D0 0 (by omega),D0 1 (by omega),D0 2 (by omega)⟩
theorem a0H(w:World)(B rb:Nat)(st:Rd)(fr:List Po)(o:Po)(ho:st.op=fr++[o])(E6:fr.length<=1000000)(h:O8 w B rb st):Calls Tryz.prog 130 #[.pointer (some ⟨rb,0,none⟩)] w fun e w'=>e=.returned (.agg #[.int .i64 o.node,.string (ba o.full),.int .i64 o.outer])/\Below w.heap.size w w':=by
 obtain⟨vn,vo,vd,vt,ys,h⟩:=h;obtain⟨_,_,c2,_,_⟩:=h.cell;obtain⟨g,cap,rfl,E0,E4,D3,q0,q1,q2⟩:=h.last ho;have E5:=i3 h.box;clear h ho;obtain⟨n,hn⟩ : ∃n,fr.length=n:=⟨_,rfl⟩;rw[hn]at c2 q0 q1 q2 E0 E6;clear hn;obtain⟨W0,D9⟩ : ∃W0,w.alloc (Obj.cells #[.int .i64 0,.string ⟨#[]⟩,.int .i64 0] 87)=W0:=⟨_,rfl⟩;have D1:Below w.heap.size w W0:=by rw[<-D9];exact(b8 _ _).alloc (c9 _) _
 have D2:W0.heap[w.heap.size]? = some (.cells #[.int .i64 0,.string ⟨#[]⟩,.int .i64 0] 87 (0,0)):=by rw[<-D9];exact g9 w _
 obtain⟨x,hx⟩ : ∃x,w.heap.size=x:=⟨_,rfl⟩;replace c2:=(D1.cell (p:=⟨rb,2,none⟩) E5).trans c2;replace q0:=(D1.cell (p:=⟨g,n*3,none⟩) D3).trans q0;replace q1:=(D1.cell (p:=⟨g,n*3+1,none⟩) D3).trans q1;replace q2:=(D1.cell (p:=⟨g,n*3+2,none⟩) D3).trans q2;have g0:W0.cell? ⟨x,0,none⟩=some (.int .i64 0):=by rw[<-hx,d9 W0 _ 0 _ _ _ D2];rfl
 have g1:W0.cell? ⟨x,1,none⟩=some (.string ⟨#[]⟩):=by rw[<-hx,d9 W0 _ 1 _ _ _ D2];rfl
 have g2:W0.cell? ⟨x,2,none⟩=some (.int .i64 0):=by rw[<-hx,d9 W0 _ 2 _ _ _ D2];rfl
 have G4:∀j,W0.frozen? ⟨x,j,none⟩=false:=fun j=>by unfold World.frozen?;rw[<-hx,D2];simp
 have E7:=a8 D2;have E8:=a8 D1;have HX:=a8 hx;have HW:=a8 D9;have hm:((n+1:Nat):Int)-1=(n:Int):=by omega
 clear D2 D1 D3 E5 D9;go_enter Tryz.func130,Tryz.ntmps130
 go_wp2_with fail
 rw[HW.out];clear hx;have G5:(n:Int)<(n:Int)+1:=by omega
 have G6:IntKind.i64.wrap (n:Int)=n:=by rw[IntKind.wrap_i64];omega
 go_still_tail 12,(by kernel_rfl)
 change wpList _ _ _ _ _ W0.drew;have D0:=a8G (.int .i64 o.node) (.string (ba o.full)) (.int .i64 o.outer) E7.out;rw[HX.out]at D0
 have E1:Below w.heap.size w (((W0.setCell ⟨x,0,none⟩ (.int .i64 o.node)).setCell ⟨x,1,none⟩ (.string (ba o.full))).setCell ⟨x,2,none⟩ (.int .i64 o.outer)):=by
  have E2:w.heap.size<=x:=by rw[HX.out];exact c9 _
  exact((E8.out.setCell (p:=⟨x,0,none⟩) E2 _).setCell (p:=⟨x,1,none⟩) E2 _).setCell (p:=⟨x,2,none⟩) E2 _
 obtain⟨W3,E3⟩ : ∃W3,((W0.setCell ⟨x,0,none⟩ (.int .i64 o.node)).setCell ⟨x,1,none⟩ (.string (ba o.full))).setCell ⟨x,2,none⟩ (.int .i64 o.outer)=W3:=⟨_,rfl⟩;rw[E3]at D0 E1;have k0:=d9 _ x 0 _ _ _ D0;have k1:=d9 _ x 1 _ _ _ D0;have k2:=d9 _ x 2 _ _ _ D0;have G0:=a8 E3;have G1:=a8 E1;clear D0 E3 E1;go_wp2;rw[G0.out];exact bodyPost_ret (v:=.agg #[.int .i64 o.node,.string (ba o.full),.int .i64 o.outer]) (by simp[results,Tryz.results130,go_sem,k0,k1,k2]) rfl ⟨rfl,G1.out.drew⟩
theorem a0Q.cell{w:World}{B d:Nat}{l:List Nd}(h:a0Q w B d l):∃v,w.cell? ⟨d,0,none⟩=some v/\a00 w B v l:=by
 obtain⟨v,_,h2,h3⟩:=h;exact⟨v,by rw[d9 w d 0 _ _ _ h2];rfl,h3⟩
theorem a0Q.list{w:World}{B d:Nat}{l:List Nd}(h:a0Q w B d l)(hn:l.length<=100000)(hs:∀x∈l,Sm x):∃v,w.cell? ⟨d,0,none⟩=some v/\S3 w w.heap.size v l/\d<w.heap.size:=by
 obtain⟨v,_,h2,h3⟩:=h;exact⟨v,by rw[d9 w d 0 _ _ _ h2];rfl,h3.at (by omega) hs,i3 h2⟩
theorem b0M(d:Nat)(v:Value)(w:World)(hc:w.cell? ⟨d,0,none⟩=some v):Calls Tryz.prog 38 #[.pointer (some ⟨d,0,none⟩)] w fun e w'=>e=.returned v/\w'=w:=by
 go_enter Tryz.func38,Tryz.ntmps38;go_wp2;go_ret;exact⟨rfl,rfl⟩
theorem b6I(w:World):Calls Tryz.prog 38 #[.pointer none] w fun e w'=>e=.returned (.slice none 0 0)/\w'=w:=by
 go_enter Tryz.func38,Tryz.ntmps38;go_wp2;go_ret;exact⟨rfl,rfl⟩
theorem c0g(P:Value)(A:Option Addr)(n c:Nat)(w:World)(H:Hid (Calls Tryz.prog 38 #[P] w fun e w'=>e=.returned (.slice A n c)/\w'=w)):Calls Tryz.prog 16 #[P] w fun e w'=>e=.returned (.int .i64 (n:Nat))/\w'=w:=by
 go_enter Tryz.func16,Tryz.ntmps16
 go_wp2_with fail
 refine H.out.mono ?_;rintro e w1⟨rfl,hw⟩;rw[hw];go_wp2;go_ret;exact⟨rfl,rfl⟩
theorem a9e{B d:Nat}{l:List Nd}(w:World)(h:a0Q w B d l)(hn:l.length<=100000)(hs:∀x∈l,Sm x):Calls Tryz.prog 16 #[.pointer (some ⟨d,0,none⟩)] w fun e w'=>e=.returned (.int .i64 (l.length:Nat))/\w'=w:=by
 obtain⟨v,hc,hv,_⟩:=h.list hn hs;obtain⟨A,cap,rfl,_⟩:=hv.slice;exact c0g _ A l.length cap w (b0M d _ w hc)
theorem c0l(P:Value)(n:Nat)(z:Int)(w:World)(H:Hid (Calls Tryz.prog 16 #[P] w fun e w'=>e=.returned (.int .i64 (n:Nat))/\w'=w)):Calls Tryz.prog 40 #[P,.int .i64 z] w fun e w'=>e=.returned (.bool (decide (0<=z/\z<(n:Int))))/\w'=w:=by
 by_cases h0:0<=z
 ·go_enter Tryz.func40,Tryz.ntmps40
  go_wp2_with fail
  refine H.out.mono ?_;rintro e w1⟨rfl,hw⟩;rw[hw];go_wp2;go_ret;exact⟨N5 (by simp[h0]),rfl⟩
 ·have h1:=f8 h0
  go_enter Tryz.func40,Tryz.ntmps40;go_wp2;go_ret;exact⟨N5 (by simp),rfl⟩
theorem b8M{B d:Nat}{l:List Nd}(z:Int)(w:World)(h:a0Q w B d l)(hn:l.length<=100000)(hs:∀x∈l,Sm x):Calls Tryz.prog 40 #[.pointer (some ⟨d,0,none⟩),.int .i64 z] w fun e w'=>e=.returned (.bool (decide (0<=z/\z<(l.length:Int))))/\w'=w :=
 c0l _ l.length z w (a9e w h hn hs)
theorem a4U(w:World):Calls Tryz.prog 15 #[.pointer none] w fun e w' => ∃A c,e=.returned (.slice A 0 c)/\Below w.heap.size w w':=by
 have HL:=a8 (b6I w)
 have HC:Hid (Calls Tryz.prog 37 #[.slice none 0 0,.func (.func 39) #[] #[]] w fun e w' => ∃A c,e=.returned (.slice A 0 c)/\Below w.heap.size w w'):=by
  refine(a2G [] (.slice none 0 0) w ⟨none,0,rfl,c9 _,by omega,fun h=>absurd rfl h⟩ (by simp) (by simp)).mono ?_
  rintro e w'⟨v',rfl,h,hb⟩;rcases h with⟨_,rfl⟩|⟨g,cur,rfl,_,h3,h4,_⟩
  ·exact⟨_,_,rfl,hb⟩
  ·exact⟨_,_,rfl,hb⟩
 go_enter Tryz.func15,Tryz.ntmps15
 go_wp2_with fail
 refine HL.out.mono ?_;rintro e w1⟨rfl,hw⟩;rw[hw];clear hw
 go_wp2_with fail
 refine HC.out.mono ?_;rintro e w2⟨A,c,rfl,hb⟩;go_wp2;go_ret;exact⟨_,_,rfl,hb⟩
def a03(n:Nat):List Nd->Nat->Nat
 | [],k=>k
 |x::r,k=>if(n:Int)<=x.n then a03 n r (k+1)else k
def a9o(l:List Nd)(n:Nat):Nat:=a03 n (l.drop (n+1)) (n+1)
theorem a4r{l:List Nd}{n:Nat}:∀(m k:Nat),l.length-k=m->k<=l.length->k<=a03 n (l.drop k) k/\a03 n (l.drop k) k<=l.length/\(∀j,k<=j->j<a03 n (l.drop k) k->(n:Int)<=pa l j)/\(a03 n (l.drop k) k<l.length->pa l (a03 n (l.drop k) k)<(n:Int))
 |0,k,hm,hk=>by
  rw[F9 (by omega),a03]
  exact⟨c9 _,hk,fun j h1 h2=>by omega,fun h=>by omega⟩
 |m+1,k,hm,hk=>by
  have D0:k<l.length:=by omega
  obtain⟨h1,h2,h3,h4⟩:=a4r (l:=l) (n:=n) m (k+1) (by omega) (by omega)
  rw[B8 D0,a03];by_cases hx:(n:Int)<=l[k].n
  ·rw[g8 hx]
   refine⟨by omega,h2,fun j D2 D1 => ?_,h4⟩
   by_cases he:j=k
   ·subst he;rw[Z5 D0];exact hx
   ·exact h3 j (by omega) D1
  ·rw[f6 hx]
   refine⟨c9 _,hk,fun j h1 h2=>by omega,fun _ => ?_⟩
   rw[Z5 D0];omega
theorem b08{l:List Nd}{n:Nat}(h:n<l.length):n<a9o l n/\a9o l n<=l.length/\(∀j,n<j->j<a9o l n->(n:Int)<=pa l j)/\(a9o l n<l.length->pa l (a9o l n)<(n:Int)):=by
 obtain⟨h1,h2,h3,h4⟩:=a4r (l:=l) (n:=n) _ (n+1) rfl (by omega)
 exact⟨h1,h2,fun j hj=>h3 j hj,h4⟩
theorem a6T{l:List Nd}{i:Nat}(h:S4 l i=true):(pa l i).toNat∈chn l (i-1):=by
 simp only[S4,i4,t8]at h;exact h.1.2
theorem b5s(b o j:Nat):(⟨b,o,none⟩ : Addr).add j=⟨b,o+j,none⟩:=by unfold Addr.add;split<;>simp_all
theorem b7l{l:List Nd}{m p a:Nat}(hp:pa l m=(p:Int))(D1:p<m)(D0:a≠m):a∈chn l m↔a∈chn l p:=by
 rw[a0q (by rw[hp];omega),q8,hp]
 exact⟨fun h=>h.resolve_left D0,.inr⟩
theorem b7m{l:List Nd}{m a:Nat}(hp:pa l m = -1)(D0:a≠m):a∉chn l m:=by
 rw[a0N (by rw[hp];omega),r8];exact D0
theorem a6w{l:List Nd}{b m:Nat}(hh:W4 l (b+1))(h0:pa l 0 = -1)(hm:m<=b):(m=0/\pa l m = -1)∨∃p:Nat,pa l m=(p:Int)/\p<m:=by
 rcases B9 m with rfl|h1
 ·exact .inl ⟨rfl,h0⟩
 ·have:=hh m h1 (by omega)
  exact .inr ⟨(pa l m).toNat,by omega,by omega⟩
def c1p(w:World)(l:List Nd)(a b:Nat)(i:Value)(wr:World):Prop:=wr=w/\((∃m:Nat,m<=b/\i=.int .i64 m/\(a∈chn l b↔a∈chn l m))∨(i=.int .i64 (-1)/\a∉chn l b))
theorem b5v(l:List Nd)(v:Value)(a b:Nat)(w:World)(hv:S3 w w.heap.size v l)(hb:b<l.length)(hh:W4 l (b+1))(h0:pa l 0 = -1) :
 Calls Tryz.prog 107 #[v,.int .i64 (a:Int),.int .i64 (b:Int)] w fun e w'=>e=.returned (.bool (decide (a∈chn l b)))/\w'=w:=by
 obtain⟨bl,o,cap,rfl,E1,E7,E8,D3⟩:=hv.open (by intro h;subst h;simp at hb)
 have D0:Hid (∀k,k<l.length->w.cell? ⟨bl,o+k*8+1,none⟩=some (.int .i64 (pa l k))):=fun k hk=>by
  obtain⟨vd,va,_,d1,_⟩:=(D3 k hk).cells;rw[Z5 hk];exact d1
 have E2:Hid (∀m,m<=b->(m=0/\pa l m = -1)∨∃p:Nat,pa l m=(p:Int)/\p<m):=fun m hm=>a6w hh h0 hm;obtain⟨R,hR⟩ : ∃R,decide (a∈chn l b)=R:=⟨_,rfl⟩;rw[hR];have HR:=a8 hR;obtain⟨n,D9⟩ : ∃n,l.length=n:=⟨_,rfl⟩;rw[D9]at E1 hb D0 ⊢;clear D3 hv D9 hh h0 hR;go_enter Tryz.func107,Tryz.ntmps107;go_wp2
 go_loopw [2] (c1p w l a b) (fun i _=>(intOf i+1).toNat)
 case atStart=>exact⟨rfl,.inl ⟨b,c9 _,rfl,Iff.rfl⟩⟩
 case round =>
  obtain⟨rfl,⟨m,hm,rfl,D2⟩|⟨rfl,E0⟩⟩:=hrel
  ·have HI:=a8 D2
   clear D2;have E3:m<n:=by omega
   by_cases D1:a=m
   ·have E4:R=true:=by rw[<-HR.out,t8,HI.out,D1];exact b1o l m
    subst E4;have t1:((a:Int)==(m:Int))=true:=by simp;omega
    clear D1;go_wp2;go_ret;exact⟨rfl,rfl⟩
   ·have t1:((a:Int)==(m:Int))=false:=by rw[e9];omega
    have hc:=D0.out m E3;rcases E2.out m hm with⟨rfl,hp⟩|⟨p,hp,E5⟩
    ·have HN:Hid (a∉chn l b):=fun h=>b7m hp D1 (HI.out.1 h)
     rw[hp]at hc;clear D1 hp HI;go_wp2
     go_roundw
     case rel=>exact⟨rfl,.inr ⟨rfl,HN.out⟩⟩
     case measure=>simp[intOf]
    ·have HN:Hid (a∈chn l b↔a∈chn l p):=HI.out.trans (b7l hp E5 D1)
     rw[hp]at hc;clear D1 hp HI;go_wp2
     go_roundw
     case rel=>exact⟨rfl,.inl ⟨p,by omega,rfl,HN.out⟩⟩
     case measure=>simp[intOf];omega
  ·have E6:R=false:=by rw[<-HR.out,F4];exact E0
   subst E6;clear E0;go_wp2;go_ret;exact⟨rfl,rfl⟩
def O1(l:List Nd)(n:Nat):Nat->Int
 |0 => -1
 |m+1=>if 0<m/\pa l m=pa l n then(m:Int)else O1 l n m
def c1o(w:World)(l:List Nd)(n:Nat)(i:Value)(wr:World):Prop:=∃m:Nat,m<=n/\i=.int .i64 ((m:Int)-1)/\O1 l n n=O1 l n m/\Below w.heap.size w wr
theorem b5r(l:List Nd)(v:Value)(n:Nat)(w:World)(hv:S3 w w.heap.size v l)(hn:n<l.length)(D1:l.length<=2000000):Calls Tryz.prog 155 #[v,.int .i64 (n:Int)] w fun e w'=>e=.returned (.int .i64 (O1 l n n))/\Below w.heap.size w w':=by
 obtain⟨bl,o,cap,rfl,E3,E6,D3,D9⟩:=hv.open (by intro h;subst h;simp at hn)
 have D0:Hid (∀k,k<l.length->w.cell? ⟨bl,o+k*8+1,none⟩=some (.int .i64 (pa l k))):=fun k hk=>by
  obtain⟨vd,va,_,d1,_⟩:=(D9 k hk).cells;rw[Z5 hk];exact d1
 obtain⟨R,hR⟩ : ∃R,O1 l n n=R:=⟨_,rfl⟩;rw[hR];have HR:=a8 hR;obtain⟨q,E0⟩ : ∃q,l.length=q:=⟨_,rfl⟩;rw[E0]at E3 hn D1 D0 ⊢;clear D9 hv E0 hR;go_enter Tryz.func155,Tryz.ntmps155;go_wp2
 go_loopw [5] (c1o w l n) (fun i _=>(intOf i+1).toNat)
 case atStart=>exact⟨n,c9 _,by go_num,rfl,b8 _ _⟩
 case round =>
  obtain⟨m,hm,rfl,hE,hb⟩:=hrel;have HE:=a8 hE;clear hE;by_cases h1:2<=m
  ·obtain⟨j,rfl⟩ : ∃j,m=j+1:=⟨m-1,by omega⟩
   have hj:((j+1:Nat):Int)-1=(j:Int):=by omega
   rw[hj];have E4:j<q:=by omega
   have E7:(j:Int)>0:=by omega
   have c1:wr.cell? ⟨bl,o+j*8+1,none⟩=some (.int .i64 (pa l j)):=(hb.cell (p:=⟨bl,o+j*8+1,none⟩) D3).trans (D0.out j E4);have c2:wr.cell? ⟨bl,o+n*8+1,none⟩=some (.int .i64 (pa l n)):=(hb.cell (p:=⟨bl,o+n*8+1,none⟩) D3).trans (D0.out n hn)
   have HS:Hid (O1 l n (j+1)=if pa l j=pa l n then(j:Int)else O1 l n j):=by
    show _=_
    rw[O1];by_cases h:pa l j=pa l n
    ·rw[g8 ⟨by omega,h⟩,g8 h]
    ·rw[f6 (fun hh=>h hh.2),f6 h]
   generalize pa l j=x at *;generalize pa l n=y at *;by_cases he:x=y
   ·have E1:R=(j:Int):=by rw[<-HR.out,HE.out,HS.out,g8 he]
    have D2:=a8 E1;have t1:(x==y)=true:=by simpa using he
    clear he E1 hj
    go_wp2_with fail
    go_quiet (fail)
    go_wp2;go_ret;exact⟨by rw[D2.out];rfl,i7 hb _⟩
   ·have E5:Hid (O1 l n n=O1 l n j):=by show _=_;rw[HE.out,HS.out,f6 he]
    have t1:(x==y)=false:=by simpa using he
    clear he hj
    go_wp2_with fail
    go_quiet (fail)
    go_wp2
    go_roundw
    case rel=>exact⟨j,by omega,rfl,E5.out,i7 hb _⟩
    case measure=>simp[intOf]
  ·have hz:¬(m:Int)-1>0:=by omega
   have E8:=f8 hz
   have E2:R = -1:=by
    rw[<-HR.out,HE.out];rcases(show m=0∨m=1 by omega)with rfl|rfl
    ·rfl
    ·rw[O1,f6 (by omega)];rfl
   have D2:=a8 E2;clear E2;go_wp2;go_ret;exact⟨by rw[D2.out];rfl,hb⟩
theorem b5j{l:List Nd}{a b:Nat}:∀c,b∈chn l c->a∈chn l b->a∈chn l c:=by
 intro c
 induction c using Nat.strongRecOn with
 |ind c ih =>
  intro hb ha;by_cases hp:0<=pa l c/\(pa l c).toNat<c
  ·rw[a0q hp,q8]at hb
   rcases hb with rfl|hb
   ·exact ha
   ·rw[a0q hp,q8]
    exact .inr (ih _ hp.2 hb ha)
  ·rw[a0N hp,r8]at hb
   subst hb;exact ha
theorem b9g{l:List Nd}{n:Nat}(hh:W4 l l.length)(hg:∀i,1<=i->i<l.length->S4 l i=true)(hl:n<l.length):∀j,a9o l n<=j->j<l.length->n∉chn l j:=by
 obtain⟨e1,e2,e3,e4⟩:=b08 hl;intro j
 induction j using Nat.strongRecOn with
 |ind j ih =>
  intro h1 h2 hm;have hm':=(b0F hh h2 (by omega)).1 hm
  by_cases he:j=a9o l n
  ·subst he
   have:=e4 h2;have hj:=hh _ (by omega) h2
   have:=a69 hm';omega
  ·exact ih (j-1) (by omega) (by omega) (by omega) (b5j _ (a6T (hg j (by omega) h2)) hm')
theorem a8J{P:Program}(w:World)(base:Nat)(t ty e:TypeId)(i:TypeInfo)(size c:Nat)(ht:P.underlying t=some (.slice e))(hi:P.info? e=some i)(v:Value)(n:Nat)(xs:List Value)(D0:w.ownsRow base e size v n xs) :
 (Builtin.append_ #[t,t] ty #[v,.slice none 0 c]).run P w=.ok v w:=by
 rcases D0.2 with⟨rfl,rfl⟩|⟨g,cap,cur,rfl,_,_,D1,_⟩
 ·simp[Builtin.append_,run_underlying ht,sizeOf,typeInfo,hi,Builtin.lenOf,Builtin.firstCells]
 ·simp[Builtin.append_,run_underlying ht,sizeOf,typeInfo,hi,Builtin.lenOf,Builtin.firstCells,D1,storeCells]
theorem b4g{w:World}{B:Nat}{v:Value}{n k:Nat}{xs:List Value}(h:R1 w B v n xs)(hk:0<k)(hl:xs.length=n*k):(∃c,v=.slice none 0 c/\n=0)∨∃ad c,v=.slice (some ad) n c/\∀j u,xs[j]? = some u->w.cell? (ad.add j)=some u:=by
 obtain⟨A,cap,rfl,h1,h2,h3⟩:=h;rcases B9 xs.length with h0|h0
 ·cases A with
  |none =>
   rcases B9 n with hn|hn
   ·subst hn;exact .inl ⟨cap,rfl,rfl⟩
   ·exfalso
    have:0<n*k:=Nat.mul_pos hn hk;omega
  |some ad=>exact .inr ⟨ad,cap,rfl,fun j u hu=>by have:=(z8.1 hu).1;omega⟩
 ·obtain⟨b,o,rfl,_,hc⟩:=h3 (by rintro rfl;simp at h0)
  refine .inr ⟨_,cap,rfl,fun j u hu => ?_⟩;obtain⟨hj,rfl⟩:=z8.1 hu;rw[b5s];exact hc j hj
theorem b0l{P:Program}(w:World)(base:Nat)(t ty e:TypeId)(i:TypeInfo)(z:Value)(size bytes:Nat)(ht:P.underlying t=some (.slice e))(hi:P.info? e=some i)(hz:i.zero=some z)(D2:i.size=size)(E1:i.bytes=bytes)(E2:z.cells.size=size)(E3:0<size)
 (v:Value) (n:Nat) (xs:List Value) (D0:w.ownsRow base e size v n xs) (m:Nat) (src:Value) (news:List Value) (E0:(∃c,src=.slice none 0 c/\m=0)∨∃ad c,src=.slice (some ad) m c/\∀j u,news[j]? = some u->w.cell? (ad.add j)=some u) (hl:news.length=m*size) (h1:∀u∈news,u.oneCell'=true)
 (E4:n+m<=maxLen) (D1:(n+m)*bytes<=140737488355328) (D3:base<=w.heap.size) :
 ∃v' w',(Builtin.append_ #[t,t] ty #[v,src]).run P w=.ok v' w'/\w'.ownsRow base e size v' (n+m) (xs++news)/\w.grownBy w' v.ownBlock/\(v'.ownBlock=v.ownBlock∨v'.ownBlock=some w.heap.size):=by
 rcases E0 with⟨c,rfl,rfl⟩|⟨ad,c,rfl,D9⟩
 ·have h0:news=[]:=j8 (by rw[hl];omega)
  subst h0;refine⟨v,w,a8J w base t ty e i size c ht hi v n xs D0,?_,⟨rfl,rfl,rfl,c9 _,fun _ _ _=>rfl⟩,.inl rfl⟩;rw[A7];exact D0
 ·obtain⟨v',w',hr,h2,h3,_,h5⟩:=run_append_own_at (P:=P) w base t ty e i z size bytes ht hi hz D2 E1 E2 E3 v n xs D0 ad m c news hl D9 h1 E4 D1 D3
  exact⟨v',w',hr,h2,h3,h5⟩
theorem U3{P:Program}{w:World}{ops:Array Oper}{o:Oper}{a:Act}{K:Act->World->Prop}{Q:Exit->Act->World->Prop}{E:Prop}(E0:o.guard=none)(s x:Operand)(t:TypeId)(ho:o.op=.call { callee:=.builtin .append,args:=#[s,x],argTypes:=#[t,t] })
 (base:Nat) (e:TypeId) (i:TypeInfo) (z:Value) (size bytes:Nat) (ht:P.underlying t=some (.slice e)) (hi:P.info? e=some i) (hz:i.zero=some z) (D1:i.size=size) (E1:i.bytes=bytes) (E2:z.cells.size=size) (E3:0<size)
 (v:Value) (n:Nat) (xs:List Value) (hs:a.eval s=v) (D3:w.ownsRow base e size v n xs) (m:Nat) (src:Value) (hx:a.eval x=src) (news:List Value) (D9:(∃c,src=.slice none 0 c/\m=0)∨∃ad c,src=.slice (some ad) m c/\∀j u,news[j]? = some u->w.cell? (ad.add j)=some u) (hl:news.length=m*size) (h1:∀u∈news,u.oneCell'=true)
 (E4:n+m<=maxLen) (D0:(n+m)*bytes<=140737488355328) (D2:base<=w.heap.size)
 (h:∀v' w',w'.ownsRow base e size v' (n+m) (xs++news)->w.grownBy w' v.ownBlock->(v'.ownBlock=v.ownBlock∨v'.ownBlock=some w.heap.size)->K (a.put o.dst v') w') :
 if Region.wanted o (yielded ops a.tmps)=true then Oper.wp P o a w K Q else E:=by
 have hw:Region.wanted o (yielded ops a.tmps)=true:=by simp[Region.wanted,E0]
 rw[g8 hw];obtain⟨v',w',hr,h2,h3,h5⟩:=b0l (P:=P) w base t o.type e i z size bytes ht hi hz D1 E1 E2 E3 v n xs D3 m src news D9 hl h1 E4 D0 D2;unfold Oper.wp execOp;simp only[ho,resolve,invoke,builtin,Sem.run_bind,Sem.run_pure,Result.andThen_ok,List.map_toArray,List.map_cons,List.map_nil,hs,hx,hr];exact h v' w' h2 h3 h5
end Go.Proofs.YteinegfbpfhflaaGreatDoor
