/-
  parse.reader: innermost. Conditions: the reader lies as it is; something is open.
  (*Doc).list, Len, has, Top and End: of a document, and of none. Conditions: the document lies as it is; there are not too many nodes. (*Doc).Top and End of a document. Conditions: the document lies as it is; there are not too many nodes. A node's children, each with all below it, stand side by side: numbers alone. Conditions: the nodes hang where they may. append to one's own row of ints. Conditions: there are not too many. (*Doc).Kids of a document. Conditions: the document lies as it is; there are not too many nodes. The children that are counted as far as a place: numbers alone. Conditions: the nodes hang where they may. (*Doc).Up of a document. Conditions: the document lies as it is; its nodes hang on nodes ahead; there are not too many nodes. apostilleref07.Above, ahead and Top: the document's own. Conditions: the list lies as it is; for Above the nodes hang on nodes ahead. apostilleref07.End, Kids and Up: the document's own. Conditions: the list lies as it is; the nodes hang where they may. Of a formed list the document's End, Kids and Top are the program's: numbers alone. Conditions: the list is formed.
  append of things that lie in memory, none of them too, to a row of one's own, at a step of a region that draws its order. Conditions: there is room in an int.
-/
import Derived.Test.YteinegfbpfhflaaGreatDoorM19
import Derived.StillTailTactics
import Derived.Test.YteinegfbpfhflaaGreatDoorM09
import Derived.Laws.IdiomCopy
import Derived.Laws.AppendOwn
import Derived.Laws.AppendOwnNone
import Derived.Laws.MakeOwn
import Derived.Laws.Externs
import Derived.Lib.AppendStr
import Derived.OwnWalk
import Derived.Deep.Draws
import Derived.Deep.QuietTactic
import Derived.BigQuiet
import Derived.Deep.WholeRow
import Derived.Test.YteinegfbpfhflaaGreatDoorM12
import Derived.Test.YteinegfbpfhflaaGreatDoorM00
namespace Go.Proofs.YteinegfbpfhflaaGreatDoor
open Go.RowKit
set_option linter.unusedVariables false
set_option maxRecDepth 100000
set_option maxHeartbeats 8000000
theorem sv{w:World}{g:Nat}{c0 c1 c2:Value}{t:TypeId}(v0 v1 v2:Value)(h:w.heap[g]? = some (.cells #[c0,c1,c2] t (0,0))):(((w.setCell ⟨g,0,none⟩ v0).setCell ⟨g,1,none⟩ v1).setCell ⟨g,2,none⟩ v2).heap[g]? = some (.cells #[v0,v1,v2] t (0,0)):=by
 rw[aL (aL (aL h))];rfl
theorem eH.last{w:World}{B rb:Nat}{st:Rd}{vn vo vd vt:Value}{ys:List Ny}(h:eH w B rb st vn vo vd vt ys){fr:List Po}{o:Po}(ho:st.op=fr++[o]):∃g cap,vo=.slice (some ⟨g,0,none⟩) (fr.length+1) cap/\fr.length+1<=cap/\cap<=9223372036854775807/\g<w.heap.size /\
 w.cell? ⟨g,fr.length*3,none⟩=some (.int .i64 o.node)/\w.cell? ⟨g,fr.length*3+1,none⟩=some (.string (ba o.full))/\w.cell? ⟨g,fr.length*3+2,none⟩=some (.int .i64 o.outer):=by
 have hr:=h.ro;rw[ho]at hr;have hl:(fr++[o]).length=fr.length+1:=by simp
 rw[hl]at hr;obtain⟨h1,⟨_,h2⟩|⟨g,cap,cur,rfl,hg,hh,hn,hc,hs,ht⟩⟩:=hr
 ·omega
 ·refine⟨g,cap,rfl,hn,by unfold maxLen at hc;exact hc,au hh,?_⟩
  have hat:∀j,j<3->w.cell? ⟨g,fr.length*3+j,none⟩=(wK o)[j]?:=fun j hj=>by
   rw[ai w g _ cur _ _ hh,<-bi]
   have e:cur.toList[fr.length*3+j]? = ((fr++[o]).flatMap wK)[fr.length*3+j]?:=by
    rw[<-ht,List.getElem?_take_of_lt (by omega)]
   rw[e,ei (f:=wK) (c:=3) sQ (fr++[o]) fr.length j (by simp) hj]
   simp
  exact⟨hat 0 (by omega),hat 1 (by omega),hat 2 (by omega)⟩
theorem gF(w:World)(B rb:Nat)(st:Rd)(fr:List Po)(o:Po)(ho:st.op=fr++[o])(hfr:fr.length<=1000000)(h:dS w B rb st):Calls Tryz.prog 130 #[.pointer (some ⟨rb,0,none⟩)] w fun e w'=>e=.returned (.agg #[.int .i64 o.node,.string (ba o.full),.int .i64 o.outer])/\Below w.heap.size w w':=by
 obtain⟨vn,vo,vd,vt,ys,h⟩:=h;obtain⟨_,_,c2,_,_⟩:=h.cell;obtain⟨g,cap,rfl,hcap,hcap2,hlt,q0,q1,q2⟩:=h.last ho;have hrl:=au h.box;clear h ho;obtain⟨n,hn⟩ : ∃n,fr.length=n:=⟨_,rfl⟩;rw[hn]at c2 q0 q1 q2 hcap hfr;clear hn;obtain⟨W0,hW0⟩ : ∃W0,w.alloc (Obj.cells #[.int .i64 0,.string ⟨#[]⟩,.int .i64 0] 87)=W0:=⟨_,rfl⟩;have hb0:Below w.heap.size w W0:=by rw[<-hW0];exact(ae _ _).alloc (af _) _
 have hbx:W0.heap[w.heap.size]? = some (.cells #[.int .i64 0,.string ⟨#[]⟩,.int .i64 0] 87 (0,0)):=by rw[<-hW0];exact ar w _
 obtain⟨x,hx⟩ : ∃x,w.heap.size=x:=⟨_,rfl⟩;replace c2:=(hb0.cell (p:=⟨rb,2,none⟩) hrl).trans c2;replace q0:=(hb0.cell (p:=⟨g,n*3,none⟩) hlt).trans q0;replace q1:=(hb0.cell (p:=⟨g,n*3+1,none⟩) hlt).trans q1;replace q2:=(hb0.cell (p:=⟨g,n*3+2,none⟩) hlt).trans q2;have g0:W0.cell? ⟨x,0,none⟩=some (.int .i64 0):=by rw[<-hx,ai W0 _ 0 _ _ _ hbx];rfl
 have g1:W0.cell? ⟨x,1,none⟩=some (.string ⟨#[]⟩):=by rw[<-hx,ai W0 _ 1 _ _ _ hbx];rfl
 have g2:W0.cell? ⟨x,2,none⟩=some (.int .i64 0):=by rw[<-hx,ai W0 _ 2 _ _ _ hbx];rfl
 have hfz:∀j,W0.frozen? ⟨x,j,none⟩=false:=fun j=>by unfold World.frozen?;rw[<-hx,hbx];simp
 have HBX:=aa hbx;have HB0:=aa hb0;have HX:=aa hx;have HW:=aa hW0;have hm:((n+1:Nat):Int)-1=(n:Int):=by omega
 clear hbx hb0 hlt hrl hW0;go_enter Tryz.func130,Tryz.ntmps130
 go_wp2_with fail
 rw[HW.out];clear hx;have hnn:(n:Int)<(n:Int)+1:=by omega
 have hwr:IntKind.i64.wrap (n:Int)=n:=by rw[IntKind.wrap_i64];omega
 go_still_tail 12,(by kernel_rfl)
 change wpList _ _ _ _ _ W0.drew;have hset:=sv (.int .i64 o.node) (.string (ba o.full)) (.int .i64 o.outer) HBX.out;rw[HX.out]at hset
 have hfb:Below w.heap.size w (((W0.setCell ⟨x,0,none⟩ (.int .i64 o.node)).setCell ⟨x,1,none⟩ (.string (ba o.full))).setCell ⟨x,2,none⟩ (.int .i64 o.outer)):=by
  have hle:w.heap.size<=x:=by rw[HX.out];exact af _
  exact((HB0.out.setCell (p:=⟨x,0,none⟩) hle _).setCell (p:=⟨x,1,none⟩) hle _).setCell (p:=⟨x,2,none⟩) hle _
 obtain⟨W3,hW3⟩ : ∃W3,((W0.setCell ⟨x,0,none⟩ (.int .i64 o.node)).setCell ⟨x,1,none⟩ (.string (ba o.full))).setCell ⟨x,2,none⟩ (.int .i64 o.outer)=W3:=⟨_,rfl⟩;rw[hW3]at hset hfb;have k0:=ai _ x 0 _ _ _ hset;have k1:=ai _ x 1 _ _ _ hset;have k2:=ai _ x 2 _ _ _ hset;have HW3:=aa hW3;have HFB:=aa hfb;clear hset hW3 hfb;go_wp2;rw[HW3.out];exact bodyPost_ret (v:=.agg #[.int .i64 o.node,.string (ba o.full),.int .i64 o.outer]) (by simp[results,Tryz.results130,go_sem,k0,k1,k2]) rfl ⟨rfl,HFB.out.drew⟩
theorem iy.cell{w:World}{B d:Nat}{l:List Nd}(h:iy w B d l):∃v,w.cell? ⟨d,0,none⟩=some v/\gV w B v l:=by
 obtain⟨v,_,h2,h3⟩:=h;exact⟨v,by rw[ai w d 0 _ _ _ h2];rfl,h3⟩
theorem iy.list{w:World}{B d:Nat}{l:List Nd}(h:iy w B d l)(hn:l.length<=100000)(hs:∀x∈l,Sm x):∃v,w.cell? ⟨d,0,none⟩=some v/\eD w w.heap.size v l/\d<w.heap.size:=by
 obtain⟨v,_,h2,h3⟩:=h;exact⟨v,by rw[ai w d 0 _ _ _ h2];rfl,h3.at (by omega) hs,au h2⟩
theorem vi(d:Nat)(v:Value)(w:World)(hc:w.cell? ⟨d,0,none⟩=some v):Calls Tryz.prog 38 #[.pointer (some ⟨d,0,none⟩)] w fun e w'=>e=.returned v/\w'=w:=by
 go_enter Tryz.func38,Tryz.ntmps38;go_wp2;go_ret;exact⟨rfl,rfl⟩
theorem CZ(w:World):Calls Tryz.prog 38 #[.pointer none] w fun e w'=>e=.returned (.slice none 0 0)/\w'=w:=by
 go_enter Tryz.func38,Tryz.ntmps38;go_wp2;go_ret;exact⟨rfl,rfl⟩
theorem GM(P:Value)(A:Option Addr)(n c:Nat)(w:World)(H:Hid (Calls Tryz.prog 38 #[P] w fun e w'=>e=.returned (.slice A n c)/\w'=w)):Calls Tryz.prog 16 #[P] w fun e w'=>e=.returned (.int .i64 (n:Nat))/\w'=w:=by
 go_enter Tryz.func16,Tryz.ntmps16
 go_wp2_with fail
 refine H.out.mono ?_;rintro e w1⟨rfl,hw⟩;rw[hw];go_wp2;go_ret;exact⟨rfl,rfl⟩
theorem yK{B d:Nat}{l:List Nd}(w:World)(h:iy w B d l)(hn:l.length<=100000)(hs:∀x∈l,Sm x):Calls Tryz.prog 16 #[.pointer (some ⟨d,0,none⟩)] w fun e w'=>e=.returned (.int .i64 (l.length:Nat))/\w'=w:=by
 obtain⟨v,hc,hv,_⟩:=h.list hn hs;obtain⟨A,cap,rfl,_⟩:=hv.slice;exact GM _ A l.length cap w (vi d _ w hc)
theorem GR(P:Value)(n:Nat)(z:Int)(w:World)(H:Hid (Calls Tryz.prog 16 #[P] w fun e w'=>e=.returned (.int .i64 (n:Nat))/\w'=w)):Calls Tryz.prog 40 #[P,.int .i64 z] w fun e w'=>e=.returned (.bool (decide (0<=z/\z<(n:Int))))/\w'=w:=by
 by_cases h0:0<=z
 ·go_enter Tryz.func40,Tryz.ntmps40
  go_wp2_with fail
  refine H.out.mono ?_;rintro e w1⟨rfl,hw⟩;rw[hw];go_wp2;go_ret;exact⟨dH (by simp[h0]),rfl⟩
 ·have h1:=ap h0
  go_enter Tryz.func40,Tryz.ntmps40;go_wp2;go_ret;exact⟨dH (by simp),rfl⟩
theorem Fe{B d:Nat}{l:List Nd}(z:Int)(w:World)(h:iy w B d l)(hn:l.length<=100000)(hs:∀x∈l,Sm x):Calls Tryz.prog 40 #[.pointer (some ⟨d,0,none⟩),.int .i64 z] w fun e w'=>e=.returned (.bool (decide (0<=z/\z<(l.length:Int))))/\w'=w :=
 GR _ l.length z w (yK w h hn hs)
theorem Af(w:World):Calls Tryz.prog 15 #[.pointer none] w fun e w' => ∃A c,e=.returned (.slice A 0 c)/\Below w.heap.size w w':=by
 have HL:=aa (CZ w)
 have HC:Hid (Calls Tryz.prog 37 #[.slice none 0 0,.func (.func 39) #[] #[]] w fun e w' => ∃A c,e=.returned (.slice A 0 c)/\Below w.heap.size w w'):=by
  refine(j8 [] (.slice none 0 0) w ⟨none,0,rfl,af _,by omega,fun h=>absurd rfl h⟩ (by simp) (by simp)).mono ?_
  rintro e w'⟨v',rfl,h,hb⟩;rcases h with⟨_,rfl⟩|⟨g,cur,rfl,_,h3,h4,_⟩
  ·exact⟨_,_,rfl,hb⟩
  ·exact⟨_,_,rfl,hb⟩
 go_enter Tryz.func15,Tryz.ntmps15
 go_wp2_with fail
 refine HL.out.mono ?_;rintro e w1⟨rfl,hw⟩;rw[hw];clear hw
 go_wp2_with fail
 refine HC.out.mono ?_;rintro e w2⟨A,c,rfl,hb⟩;go_wp2;go_ret;exact⟨_,_,rfl,hb⟩
def gY(n:Nat):List Nd->Nat->Nat
 | [],k=>k
 |x::r,k=>if(n:Int)<=x.n then gY n r (k+1)else k
def tz(l:List Nd)(n:Nat):Nat:=gY n (l.drop (n+1)) (n+1)
theorem mw{l:List Nd}{n:Nat}:∀(m k:Nat),l.length-k=m->k<=l.length->k<=gY n (l.drop k) k/\gY n (l.drop k) k<=l.length/\(∀j,k<=j->j<gY n (l.drop k) k->(n:Int)<=pa l j)/\(gY n (l.drop k) k<l.length->pa l (gY n (l.drop k) k)<(n:Int))
 |0,k,hm,hk=>by
  rw[cj (by omega),gY]
  exact⟨af _,hk,fun j h1 h2=>by omega,fun h=>by omega⟩
 |m+1,k,hm,hk=>by
  have hkl:k<l.length:=by omega
  obtain⟨h1,h2,h3,h4⟩:=mw (l:=l) (n:=n) m (k+1) (by omega) (by omega)
  rw[bv hkl,gY];by_cases hx:(n:Int)<=l[k].n
  ·rw[av hx]
   refine⟨by omega,h2,fun j hj1 hj2 => ?_,h4⟩
   by_cases he:j=k
   ·subst he;rw[fS hkl];exact hx
   ·exact h3 j (by omega) hj2
  ·rw[am hx]
   refine⟨af _,hk,fun j h1 h2=>by omega,fun _ => ?_⟩
   rw[fS hkl];omega
theorem vL{l:List Nd}{n:Nat}(h:n<l.length):n<tz l n/\tz l n<=l.length/\(∀j,n<j->j<tz l n->(n:Int)<=pa l j)/\(tz l n<l.length->pa l (tz l n)<(n:Int)):=by
 obtain⟨h1,h2,h3,h4⟩:=mw (l:=l) (n:=n) _ (n+1) rfl (by omega)
 exact⟨h1,h2,fun j hj=>h3 j hj,h4⟩
theorem pU{l:List Nd}{i:Nat}(h:ej l i=true):(pa l i).toNat∈gQ l (i-1):=by
 simp only[ej,aO,bj]at h;exact h.1.2
theorem BF(b o j:Nat):(⟨b,o,none⟩ : Addr).add j=⟨b,o+j,none⟩:=by unfold Addr.add;split<;>simp_all
theorem DC{l:List Nd}{m p a:Nat}(hp:pa l m=(p:Int))(hlt:p<m)(hne:a≠m):a∈gQ l m↔a∈gQ l p:=by
 rw[fh (by rw[hp];omega),aU,hp]
 exact⟨fun h=>h.resolve_left hne,.inr⟩
theorem DD{l:List Nd}{m a:Nat}(hp:pa l m = -1)(hne:a≠m):a∉gQ l m:=by
 rw[iu (by rw[hp];omega),aW];exact hne
theorem pD{l:List Nd}{b m:Nat}(hh:fl l (b+1))(h0:pa l 0 = -1)(hm:m<=b):(m=0/\pa l m = -1)∨∃p:Nat,pa l m=(p:Int)/\p<m:=by
 rcases bw m with rfl|h1
 ·exact .inl ⟨rfl,h0⟩
 ·have:=hh m h1 (by omega)
  exact .inr ⟨(pa l m).toNat,by omega,by omega⟩
def IM(w:World)(l:List Nd)(a b:Nat)(i:Value)(wr:World):Prop:=wr=w/\((∃m:Nat,m<=b/\i=.int .i64 m/\(a∈gQ l b↔a∈gQ l m))∨(i=.int .i64 (-1)/\a∉gQ l b))
theorem BK(l:List Nd)(v:Value)(a b:Nat)(w:World)(hv:eD w w.heap.size v l)(hb:b<l.length)(hh:fl l (b+1))(h0:pa l 0 = -1) :
 Calls Tryz.prog 107 #[v,.int .i64 (a:Int),.int .i64 (b:Int)] w fun e w'=>e=.returned (.bool (decide (a∈gQ l b)))/\w'=w:=by
 obtain⟨bl,o,cap,rfl,hc1,hc2,hbB,hnd⟩:=hv.open (by intro h;subst h;simp at hb)
 have HCELL:Hid (∀k,k<l.length->w.cell? ⟨bl,o+k*8+1,none⟩=some (.int .i64 (pa l k))):=fun k hk=>by
  obtain⟨vd,va,_,d1,_⟩:=(hnd k hk).cells;rw[fS hk];exact d1
 have HPC:Hid (∀m,m<=b->(m=0/\pa l m = -1)∨∃p:Nat,pa l m=(p:Int)/\p<m):=fun m hm=>pD hh h0 hm;obtain⟨R,hR⟩ : ∃R,decide (a∈gQ l b)=R:=⟨_,rfl⟩;rw[hR];have HR:=aa hR;obtain⟨n,hnE⟩ : ∃n,l.length=n:=⟨_,rfl⟩;rw[hnE]at hc1 hb HCELL ⊢;clear hnd hv hnE hh h0 hR;go_enter Tryz.func107,Tryz.ntmps107;go_wp2
 go_loopw [2] (IM w l a b) (fun i _=>(intOf i+1).toNat)
 case atStart=>exact⟨rfl,.inl ⟨b,af _,rfl,Iff.rfl⟩⟩
 case round =>
  obtain⟨rfl,⟨m,hm,rfl,hiff⟩|⟨rfl,hno⟩⟩:=hrel
  ·have HI:=aa hiff
   clear hiff;have hmn:m<n:=by omega
   by_cases ham:a=m
   ·have hR1:R=true:=by rw[<-HR.out,bj,HI.out,ham];exact wj l m
    subst hR1;have t1:((a:Int)==(m:Int))=true:=by simp;omega
    clear ham;go_wp2;go_ret;exact⟨rfl,rfl⟩
   ·have t1:((a:Int)==(m:Int))=false:=by rw[ak];omega
    have hc:=HCELL.out m hmn;rcases HPC.out m hm with⟨rfl,hp⟩|⟨p,hp,hlt⟩
    ·have HN:Hid (a∉gQ l b):=fun h=>DD hp ham (HI.out.1 h)
     rw[hp]at hc;clear ham hp HI;go_wp2
     go_roundw
     case rel=>exact⟨rfl,.inr ⟨rfl,HN.out⟩⟩
     case measure=>simp[intOf]
    ·have HN:Hid (a∈gQ l b↔a∈gQ l p):=HI.out.trans (DC hp hlt ham)
     rw[hp]at hc;clear ham hp HI;go_wp2
     go_roundw
     case rel=>exact⟨rfl,.inl ⟨p,by omega,rfl,HN.out⟩⟩
     case measure=>simp[intOf];omega
  ·have hR0:R=false:=by rw[<-HR.out,bT];exact hno
   subst hR0;clear hno;go_wp2;go_ret;exact⟨rfl,rfl⟩
def dN(l:List Nd)(n:Nat):Nat->Int
 |0 => -1
 |m+1=>if 0<m/\pa l m=pa l n then(m:Int)else dN l n m
def IL(w:World)(l:List Nd)(n:Nat)(i:Value)(wr:World):Prop:=∃m:Nat,m<=n/\i=.int .i64 ((m:Int)-1)/\dN l n n=dN l n m/\Below w.heap.size w wr
theorem BD(l:List Nd)(v:Value)(n:Nat)(w:World)(hv:eD w w.heap.size v l)(hn:n<l.length)(hlen:l.length<=2000000):Calls Tryz.prog 155 #[v,.int .i64 (n:Int)] w fun e w'=>e=.returned (.int .i64 (dN l n n))/\Below w.heap.size w w':=by
 obtain⟨bl,o,cap,rfl,hc1,hc2,hbB,hnd⟩:=hv.open (by intro h;subst h;simp at hn)
 have HCELL:Hid (∀k,k<l.length->w.cell? ⟨bl,o+k*8+1,none⟩=some (.int .i64 (pa l k))):=fun k hk=>by
  obtain⟨vd,va,_,d1,_⟩:=(hnd k hk).cells;rw[fS hk];exact d1
 obtain⟨R,hR⟩ : ∃R,dN l n n=R:=⟨_,rfl⟩;rw[hR];have HR:=aa hR;obtain⟨q,hqE⟩ : ∃q,l.length=q:=⟨_,rfl⟩;rw[hqE]at hc1 hn hlen HCELL ⊢;clear hnd hv hqE hR;go_enter Tryz.func155,Tryz.ntmps155;go_wp2
 go_loopw [5] (IL w l n) (fun i _=>(intOf i+1).toNat)
 case atStart=>exact⟨n,af _,by go_num,rfl,ae _ _⟩
 case round =>
  obtain⟨m,hm,rfl,hE,hb⟩:=hrel;have HE:=aa hE;clear hE;by_cases h1:2<=m
  ·obtain⟨j,rfl⟩ : ∃j,m=j+1:=⟨m-1,by omega⟩
   have hj:((j+1:Nat):Int)-1=(j:Int):=by omega
   rw[hj];have hjq:j<q:=by omega
   have hj0:(j:Int)>0:=by omega
   have c1:wr.cell? ⟨bl,o+j*8+1,none⟩=some (.int .i64 (pa l j)):=(hb.cell (p:=⟨bl,o+j*8+1,none⟩) hbB).trans (HCELL.out j hjq);have c2:wr.cell? ⟨bl,o+n*8+1,none⟩=some (.int .i64 (pa l n)):=(hb.cell (p:=⟨bl,o+n*8+1,none⟩) hbB).trans (HCELL.out n hn)
   have HS:Hid (dN l n (j+1)=if pa l j=pa l n then(j:Int)else dN l n j):=by
    show _=_
    rw[dN];by_cases h:pa l j=pa l n
    ·rw[av ⟨by omega,h⟩,av h]
    ·rw[am (fun hh=>h hh.2),am h]
   generalize pa l j=x at *;generalize pa l n=y at *;by_cases he:x=y
   ·have hRj:R=(j:Int):=by rw[<-HR.out,HE.out,HS.out,av he]
    have HRJ:=aa hRj;have t1:(x==y)=true:=by simpa using he
    clear he hRj hj
    go_wp2_with fail
    go_quiet (fail)
    go_wp2;go_ret;exact⟨by rw[HRJ.out];rfl,ay hb _⟩
   ·have HNX:Hid (dN l n n=dN l n j):=by show _=_;rw[HE.out,HS.out,am he]
    have t1:(x==y)=false:=by simpa using he
    clear he hj
    go_wp2_with fail
    go_quiet (fail)
    go_wp2
    go_roundw
    case rel=>exact⟨j,by omega,rfl,HNX.out,ay hb _⟩
    case measure=>simp[intOf]
  ·have hz:¬(m:Int)-1>0:=by omega
   have hzd:=ap hz
   have hR1:R = -1:=by
    rw[<-HR.out,HE.out];rcases(show m=0∨m=1 by omega)with rfl|rfl
    ·rfl
    ·rw[dN,am (by omega)];rfl
   have HRJ:=aa hR1;clear hR1;go_wp2;go_ret;exact⟨by rw[HRJ.out];rfl,hb⟩
theorem Bm{l:List Nd}{a b:Nat}:∀c,b∈gQ l c->a∈gQ l b->a∈gQ l c:=by
 intro c
 induction c using Nat.strongRecOn with
 |ind c ih =>
  intro hb ha;by_cases hp:0<=pa l c/\(pa l c).toNat<c
  ·rw[fh hp,aU]at hb
   rcases hb with rfl|hb
   ·exact ha
   ·rw[fh hp,aU]
    exact .inr (ih _ hp.2 hb ha)
  ·rw[iu hp,aW]at hb
   subst hb;exact ha
theorem FH{l:List Nd}{n:Nat}(hh:fl l l.length)(hg:∀i,1<=i->i<l.length->ej l i=true)(hl:n<l.length):∀j,tz l n<=j->j<l.length->n∉gQ l j:=by
 obtain⟨e1,e2,e3,e4⟩:=vL hl;intro j
 induction j using Nat.strongRecOn with
 |ind j ih =>
  intro h1 h2 hm;have hm':=(u0 hh h2 (by omega)).1 hm
  by_cases he:j=tz l n
  ·subst he
   have:=e4 h2;have hj:=hh _ (by omega) h2
   have:=qj hm';omega
  ·exact ih (j-1) (by omega) (by omega) (by omega) (Bm _ (pU (hg j (by omega) h2)) hm')
theorem sD{P:Program}(w:World)(base:Nat)(t ty e:TypeId)(i:TypeInfo)(size c:Nat)(ht:P.underlying t=some (.slice e))(hi:P.info? e=some i)(v:Value)(n:Nat)(xs:List Value)(hown:w.ownsRow base e size v n xs) :
 (Builtin.append_ #[t,t] ty #[v,.slice none 0 c]).run P w=.ok v w:=by
 rcases hown.2 with⟨rfl,rfl⟩|⟨g,cap,cur,rfl,_,_,hnc,_⟩
 ·simp[Builtin.append_,run_underlying ht,sizeOf,typeInfo,hi,Builtin.lenOf,Builtin.firstCells]
 ·simp[Builtin.append_,run_underlying ht,sizeOf,typeInfo,hi,Builtin.lenOf,Builtin.firstCells,hnc,storeCells]
theorem zL{w:World}{B:Nat}{v:Value}{n k:Nat}{xs:List Value}(h:em w B v n xs)(hk:0<k)(hl:xs.length=n*k):(∃c,v=.slice none 0 c/\n=0)∨∃ad c,v=.slice (some ad) n c/\∀j u,xs[j]? = some u->w.cell? (ad.add j)=some u:=by
 obtain⟨A,cap,rfl,h1,h2,h3⟩:=h;rcases bw xs.length with h0|h0
 ·cases A with
  |none =>
   rcases bw n with hn|hn
   ·subst hn;exact .inl ⟨cap,rfl,rfl⟩
   ·exfalso
    have:0<n*k:=Nat.mul_pos hn hk;omega
  |some ad=>exact .inr ⟨ad,cap,rfl,fun j u hu=>by have:=(bh.1 hu).1;omega⟩
 ·obtain⟨b,o,rfl,_,hc⟩:=h3 (by rintro rfl;simp at h0)
  refine .inr ⟨_,cap,rfl,fun j u hu => ?_⟩;obtain⟨hj,rfl⟩:=bh.1 hu;rw[BF];exact hc j hj
theorem uH{P:Program}(w:World)(base:Nat)(t ty e:TypeId)(i:TypeInfo)(z:Value)(size bytes:Nat)(ht:P.underlying t=some (.slice e))(hi:P.info? e=some i)(hz:i.zero=some z)(hsize:i.size=size)(hby:i.bytes=bytes)(hzs:z.cells.size=size)(hsz:0<size)
 (v:Value) (n:Nat) (xs:List Value) (hown:w.ownsRow base e size v n xs) (m:Nat) (src:Value) (news:List Value) (hsrc:(∃c,src=.slice none 0 c/\m=0)∨∃ad c,src=.slice (some ad) m c/\∀j u,news[j]? = some u->w.cell? (ad.add j)=some u) (hl:news.length=m*size) (h1:∀u∈news,u.oneCell'=true)
 (h63:n+m<=maxLen) (hbytes:(n+m)*bytes<=140737488355328) (hbase:base<=w.heap.size) :
 ∃v' w',(Builtin.append_ #[t,t] ty #[v,src]).run P w=.ok v' w'/\w'.ownsRow base e size v' (n+m) (xs++news)/\w.grownBy w' v.ownBlock/\(v'.ownBlock=v.ownBlock∨v'.ownBlock=some w.heap.size):=by
 rcases hsrc with⟨c,rfl,rfl⟩|⟨ad,c,rfl,hnews⟩
 ·have h0:news=[]:=aD (by rw[hl];omega)
  subst h0;refine⟨v,w,sD w base t ty e i size c ht hi v n xs hown,?_,⟨rfl,rfl,rfl,af _,fun _ _ _=>rfl⟩,.inl rfl⟩;rw[bo];exact hown
 ·obtain⟨v',w',hr,h2,h3,_,h5⟩:=run_append_own_at (P:=P) w base t ty e i z size bytes ht hi hz hsize hby hzs hsz v n xs hown ad m c news hl hnews h1 h63 hbytes hbase
  exact⟨v',w',hr,h2,h3,h5⟩
theorem eO{P:Program}{w:World}{ops:Array Oper}{o:Oper}{a:Act}{K:Act->World->Prop}{Q:Exit->Act->World->Prop}{E:Prop}(hgd:o.guard=none)(s x:Operand)(t:TypeId)(ho:o.op=.call { callee:=.builtin .append,args:=#[s,x],argTypes:=#[t,t] })
 (base:Nat) (e:TypeId) (i:TypeInfo) (z:Value) (size bytes:Nat) (ht:P.underlying t=some (.slice e)) (hi:P.info? e=some i) (hz:i.zero=some z) (hsize:i.size=size) (hby:i.bytes=bytes) (hzs:z.cells.size=size) (hsz:0<size)
 (v:Value) (n:Nat) (xs:List Value) (hs:a.eval s=v) (hown:w.ownsRow base e size v n xs) (m:Nat) (src:Value) (hx:a.eval x=src) (news:List Value) (hsrc:(∃c,src=.slice none 0 c/\m=0)∨∃ad c,src=.slice (some ad) m c/\∀j u,news[j]? = some u->w.cell? (ad.add j)=some u) (hl:news.length=m*size) (h1:∀u∈news,u.oneCell'=true)
 (h63:n+m<=maxLen) (hbytes:(n+m)*bytes<=140737488355328) (hbase:base<=w.heap.size)
 (h:∀v' w',w'.ownsRow base e size v' (n+m) (xs++news)->w.grownBy w' v.ownBlock->(v'.ownBlock=v.ownBlock∨v'.ownBlock=some w.heap.size)->K (a.put o.dst v') w') :
 if Region.wanted o (yielded ops a.tmps)=true then Oper.wp P o a w K Q else E:=by
 have hw:Region.wanted o (yielded ops a.tmps)=true:=by simp[Region.wanted,hgd]
 rw[av hw];obtain⟨v',w',hr,h2,h3,h5⟩:=uH (P:=P) w base t o.type e i z size bytes ht hi hz hsize hby hzs hsz v n xs hown m src news hsrc hl h1 h63 hbytes hbase;unfold Oper.wp execOp;simp only[ho,resolve,invoke,builtin,Sem.run_bind,Sem.run_pure,Result.andThen_ok,List.map_toArray,List.map_cons,List.map_nil,hs,hx,hr];exact h v' w' h2 h3 h5
end Go.Proofs.YteinegfbpfhflaaGreatDoor
