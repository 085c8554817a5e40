/-
  (*Doc).Nodes and Node of a document: copies in new memory. Conditions: the document lies as it is; there are not too many nodes, the texts are not too long.
  Doc.Top. Conditions: the document lies as it is; nothing is too long.
-/
import Derived.Test.YtlgcigmolfhamaaGreatDoorK20
namespace Go.Proofs.YtlgcigmolfhamaaGreatDoor
open Go.RowKit
set_option linter.unusedVariables false
set_option maxRecDepth 100000
set_option maxHeartbeats 8000000
theorem a00.form{w:World}{B:Nat}{v:Value}{l:List Nd}(h:a00 w B v l):∃A c,v=.slice A l.length c:=by
 rcases h with⟨rfl,rfl⟩|⟨g,cur,rfl,_⟩
 ·exact⟨_,_,rfl⟩
 ·exact⟨_,_,rfl⟩
theorem a4V{B d:Nat}{l:List Nd}(w:World)(h:a0Q w B d l)(hn:l.length<=100000)(hs:∀x∈l,Sm x):Calls Tryz.prog 61 #[.pointer (some ⟨d,0,none⟩)] w fun e w' => ∃v',e=.returned v'/\a00 w' w.heap.size v' l/\Below w.heap.size w w':=by
 obtain⟨v,hc,hv,_⟩:=h.list hn hs;have HL:=a8 (b0M d v w hc);have HC:=a8 (a2G l v w hv (by omega) hs)
 obtain⟨A,cap,rfl,_,_⟩:=hv.slice;clear hc hv h;go_enter Tryz.func61,Tryz.ntmps61
 go_wp2_with fail
 refine HL.out.mono ?_;rintro e w1⟨rfl,hw⟩;rw[hw];clear hw
 go_wp2_with fail
 refine HC.out.mono ?_;rintro e w2⟨v',rfl,ho,hb⟩;have HO:=a8 ho;obtain⟨A',c',rfl⟩:=ho.form;clear ho;go_wp2;go_ret;exact⟨_,rfl,HO.out,hb⟩
theorem b2F{w2:World}{b:Nat}{cs:Array Value}{t:TypeId}{fz:Nat×Nat}(v0 v1 v2 v3 v4 v5 v6 v7:Value)(h:w2.heap[b]? = some (.cells cs t fz))(h8:cs.size=8) :
 ∃W8,W8=((((((((w2.setCell ⟨b,0,none⟩ v0).setCell ⟨b,1,none⟩ v1).setCell ⟨b,2,none⟩ v2).setCell ⟨b,3,none⟩ v3).setCell ⟨b,4,none⟩ v4).setCell ⟨b,5,none⟩ v5).setCell ⟨b,6,none⟩ v6).setCell ⟨b,7,none⟩ v7)/\(∀g,g≠b->W8.heap[g]? = w2.heap[g]?)/\(∀(B:Nat) (a:World),Below B a w2->B<=b->Below B a W8)/\W8.cell? ⟨b,0,none⟩=some v0/\W8.cell? ⟨b,1,none⟩=some v1/\W8.cell? ⟨b,2,none⟩=some v2/\W8.cell? ⟨b,3,none⟩=some v3/\W8.cell? ⟨b,4,none⟩=some v4/\W8.cell? ⟨b,5,none⟩=some v5/\W8.cell? ⟨b,6,none⟩=some v6/\W8.cell? ⟨b,7,none⟩=some v7:=by
 have hb:(((((((((w2.setCell ⟨b,0,none⟩ v0).setCell ⟨b,1,none⟩ v1).setCell ⟨b,2,none⟩ v2).setCell ⟨b,3,none⟩ v3).setCell ⟨b,4,none⟩ v4).setCell ⟨b,5,none⟩ v5).setCell ⟨b,6,none⟩ v6).setCell ⟨b,7,none⟩ v7)).heap[b]? = some (.cells ((((((((cs.setIfInBounds 0 v0).setIfInBounds 1 v1).setIfInBounds 2 v2).setIfInBounds 3 v3).setIfInBounds 4 v4).setIfInBounds 5 v5).setIfInBounds 6 v6).setIfInBounds 7 v7) t fz):=(o8 (o8 (o8 (o8 (o8 (o8 (o8 (o8 h))))))));refine⟨_,rfl,fun g hg=>((f7 _ _ _ _ hg).trans ((f7 _ _ _ _ hg).trans ((f7 _ _ _ _ hg).trans ((f7 _ _ _ _ hg).trans ((f7 _ _ _ _ hg).trans ((f7 _ _ _ _ hg).trans ((f7 _ _ _ _ hg).trans ((f7 _ _ _ _ hg).trans rfl)))))))),fun B a hB D0=>((((((((hB.setCell (p:=⟨b,0,none⟩) D0 v0).setCell (p:=⟨b,1,none⟩) D0 v1).setCell (p:=⟨b,2,none⟩) D0 v2).setCell (p:=⟨b,3,none⟩) D0 v3).setCell (p:=⟨b,4,none⟩) D0 v4).setCell (p:=⟨b,5,none⟩) D0 v5).setCell (p:=⟨b,6,none⟩) D0 v6).setCell (p:=⟨b,7,none⟩) D0 v7),?_⟩;have hc:=fun j=>d9 _ b j _ _ _ hb;refine⟨?_,?_,?_,?_,?_,?_,?_,?_⟩<;>rw[hc]<;>simp[h8]
theorem b6k{B d:Nat}{l:List Nd}(n:Nat)(w:World)(h:a0Q w B d l)(hn:l.length<=100000)(hs:∀x∈l,Sm x)(D2:n<l.length):Calls Tryz.prog 20 #[.pointer (some ⟨d,0,none⟩),.int .i64 (n:Int)] w fun e w' => ∃vd va,e=.returned (.agg #[.int .i64 l[n].k,.int .i64 l[n].n,.string l[n].p,.string l[n].l,.string l[n].u,.string l[n].t,vd,va])/\a1A w' w.heap.size vd l[n].ds/\a1B w' w.heap.size va l[n].ats/\Below w.heap.size w w':=by
 have HH:Hid (∀w',Below w.heap.size w w'->Calls Tryz.prog 59 #[.pointer (some ⟨d,0,none⟩),.int .i64 (n:Int)] w' fun e w''=>e=.returned (.bool true)/\w''=w'):=fun w' hb=>by
  have:=b8M (n:Int) w' (h.later hb) hn hs;rw[i6 (by omega)]at this
  exact this
 obtain⟨v,hc,hv,hd⟩:=h.list hn hs;obtain⟨b,o,cap,rfl,G0,J2,J3,E2⟩:=hv.open (by intro h;rw[h]at D2;simp at D2)
 obtain⟨vd,va,d0,d1,d2,d3,d4,d5,d6,d7,E3,E4⟩:=(E2 n D2).cells;have HX:Hid (NdV w w.heap.size (.agg #[.int .i64 l[n].k,.int .i64 l[n].n,.string l[n].p,.string l[n].l,.string l[n].u,.string l[n].t,vd,va]) l[n]):=⟨vd,va,rfl,E3,E4⟩;obtain⟨A1,c1,rfl,_⟩:=E3;obtain⟨A2,c2,rfl,_⟩:=E4;have G1:=hs _ (o0 D2)
 have G4:Hid (∀w',Below w.heap.size w w'->Calls Tryz.prog 60 #[.agg #[.int .i64 l[n].k,.int .i64 l[n].n,.string l[n].p,.string l[n].l,.string l[n].u,.string l[n].t,.slice A1 l[n].ds.length c1,.slice A2 l[n].ats.length c2]] w' fun e w'' => ∃vd va,e=.returned (.agg #[.int .i64 l[n].k,.int .i64 l[n].n,.string l[n].p,.string l[n].l,.string l[n].u,.string l[n].t,vd,va])/\a1A w'' w'.heap.size vd l[n].ds/\a1B w'' w'.heap.size va l[n].ats/\Below w'.heap.size w' w''):=fun w' hb' =>
  a36 l[n] _ G1 w' (HX.out.later hb')
 obtain⟨m,E5⟩ : ∃m,l.length=m:=⟨_,rfl⟩;rw[E5]at hn G0 D2 hc;generalize l[n]=x at *;clear E2 hv h E5;go_enter Tryz.func20,Tryz.ntmps20
 go_wp2_with fail
 refine(HH.out _ (by first|exact b8 _ _|exact(b8 _ _).alloc (c9 _) _)).mono ?_
 rintro e w1⟨rfl,hw⟩;rw[hw];clear hw
 go_wp2_with fail
 refine(G4.out _ (by first|exact b8 _ _|exact(b8 _ _).alloc (c9 _) _)).mono ?_
 rintro e w2⟨vd',va',rfl,D9,E0,E1⟩;obtain⟨A3,c3,rfl⟩:=J8.form D9;obtain⟨A4,c4,rfl⟩:=J8.form E0;have G5:Hid (a1A w2 w.heap.size (.slice A3 x.ds.length c3) x.ds):=J8.mono D9 (by simp)
 have G6:Hid (a1B w2 w.heap.size (.slice A4 x.ats.length c4) x.ats):=J8.mono E0 (by simp)
 have E6:=E8 E1;have D0:w2.heap[w.heap.size]? = some (.cells #[.int .i64 0,.int .i64 0,.string ⟨#[]⟩,.string ⟨#[]⟩,.string ⟨#[]⟩,.string ⟨#[]⟩,.slice none 0 0,.slice none 0 0] 46 (0,0)):=(E1.block _ (by simp)).trans (g9 w _)
 have J4:∀j,w2.frozen? ⟨w.heap.size,j,none⟩=false:=fun j=>by unfold World.frozen?;rw[D0];simp
 have g0:w2.cell? ⟨w.heap.size,0,none⟩=some (.int .i64 0):=by rw[d9 w2 w.heap.size _ _ _ _ D0];rfl
 have g1:w2.cell? ⟨w.heap.size,1,none⟩=some (.int .i64 0):=by rw[d9 w2 w.heap.size _ _ _ _ D0];rfl
 have g2:w2.cell? ⟨w.heap.size,2,none⟩=some (.string ⟨#[]⟩):=by rw[d9 w2 w.heap.size _ _ _ _ D0];rfl
 have g3:w2.cell? ⟨w.heap.size,3,none⟩=some (.string ⟨#[]⟩):=by rw[d9 w2 w.heap.size _ _ _ _ D0];rfl
 have g4:w2.cell? ⟨w.heap.size,4,none⟩=some (.string ⟨#[]⟩):=by rw[d9 w2 w.heap.size _ _ _ _ D0];rfl
 have g5:w2.cell? ⟨w.heap.size,5,none⟩=some (.string ⟨#[]⟩):=by rw[d9 w2 w.heap.size _ _ _ _ D0];rfl
 have g6:w2.cell? ⟨w.heap.size,6,none⟩=some (.slice none 0 0):=by rw[d9 w2 w.heap.size _ _ _ _ D0];rfl
 have g7:w2.cell? ⟨w.heap.size,7,none⟩=some (.slice none 0 0):=by rw[d9 w2 w.heap.size _ _ _ _ D0];rfl
 obtain⟨W8,E7,D1,D3,q0,q1,q2,q3,q4,q5,q6,q7⟩:=b2F (.int .i64 x.k) (.int .i64 x.n) (.string x.p) (.string x.l) (.string x.u) (.string x.t) (.slice A3 x.ds.length c3) (.slice A4 x.ats.length c4) D0 rfl;have G7:Hid (a1A W8 w.heap.size (.slice A3 x.ds.length c3) x.ds):=J8.aside G5.out D0 (by decide) D1
 have G8:Hid (a1B W8 w.heap.size (.slice A4 x.ats.length c4) x.ats):=J8.aside G6.out D0 (by decide) D1
 have G9:Hid (Below w.heap.size w W8):=D3 _ _ E6 (c9 _);have J1:=a8 E7;clear D9 E0 D0 E6 E1 E7 D1 D3;go_wp2;rw[<-J1.out];refine bodyPost_ret (v:=.agg #[.int .i64 x.k,.int .i64 x.n,.string x.p,.string x.l,.string x.u,.string x.t,.slice A3 x.ds.length c3,.slice A4 x.ats.length c4]) (by simp[results,Tryz.results20,go_sem,q0,q1,q2,q3,q4,q5,q6,q7]) rfl ⟨_,_,rfl,G7.out,G8.out,G9.out⟩
def c1E:List Nd->Nat->Nat
 | [],_=>0
 |x::r,k=>if x.k=1 then k else c1E r (k+1)
def c1V(l:List Nd):Nat:=c1E l 0
theorem c1O{l:List Nd}:∀k,k<=l.length->(∀j (hj:j<l.length),j<k->l[j].k≠1)->c1V l=c1E (l.drop k) k
 |0,_,_=>rfl
 |k+1,h,hn=>by
  rw[c1O k (by omega) (fun j hj hk=>hn j hj (by omega)),B8 (show k<l.length by omega),c1E,f6 (hn k (by omega) (by omega))]
def c3u(w:World)(l:List Nd)(i:Value)(wr:World):Prop:=∃k:Nat,k<=l.length/\i=.int .i64 k/\(∀j (hj:j<l.length),j<k->l[j].k≠1)/\Below w.heap.size w wr
theorem c3k(P v:Value)(l:List Nd)(w:World)(H:Hid (Calls Tryz.prog 58 #[P] w fun e w'=>e=.returned v/\w'=w))(hv:S3 w w.heap.size v l)(hn:l.length<=100000):Calls Tryz.prog 19 #[P] w fun e w'=>e=.returned (.int .i64 (c1V l:Nat))/\Below w.heap.size w w':=by
 have HV:=a8 hv;obtain⟨A,cap,rfl,E1,G0⟩:=hv.slice;obtain⟨R,hR⟩ : ∃R,c1V l=R:=⟨_,rfl⟩;rw[hR];have HR:=a8 hR;obtain⟨n,D1⟩ : ∃n,l.length=n:=⟨_,rfl⟩;have HN:=a8 D1;rw[D1]at hn E1 H;clear hR D1;go_enter Tryz.func19,Tryz.ntmps19
 go_wp2_with fail
 refine H.out.mono ?_;rintro e w1⟨rfl,hw⟩;rw[hw];clear hw;go_wp2
 go_loopw [8] (c3u w l) (fun i _=>n-(intOf i).toNat)
 case atStart=>exact⟨0,o4 _,rfl,fun j _ h=>by omega,b8 _ _⟩
 case round =>
  obtain⟨k,hk,rfl,D3,hb⟩:=hrel;rw[HN.out]at hk;have D2:=a8 D3;clear D3;by_cases E2:k<n
  ·have D0:k<l.length:=by rw[HN.out];exact E2
   obtain⟨b,o,cap',e,_,_,G1,D9⟩:=(HV.out.below hb).open (by intro h;rw[h]at D0;simp at D0)
   simp only[o5]at e;obtain⟨rfl,_,rfl⟩:=e;obtain⟨vd,va,d0,d1,d2,d3,d4,d5,d6,d7,⟨A1,q1,rfl,_⟩,⟨A2,q2,rfl,_⟩⟩:=(D9 k D0).cells;have E3:(k:Int)<(n:Int):=by omega
   have HF:Hid (c1V l=c1E (l.drop k) k):=c1O k (by omega) D2.out
   have HD:Hid (l.drop k=l[k]::l.drop (k+1)):=B8 D0
   have E4:Hid (l[k].k≠1->∀j (hj:j<l.length),j<k+1->l[j].k≠1):=fun h j hj E5=>by
    rcases E9 (I2 E5)with h1|h1
    ·exact D2.out j hj h1
    ·subst h1;exact h
   generalize l[k]=x at *;clear D9;by_cases hx:x.k=1
   ·have t1:(x.k==1)=true:=by simpa using hx
    have E0:R=k:=by rw[<-HR.out,HF.out,HD.out,c1E,g8 hx]
    have E6:=a8 E0;clear hx E0;go_wp2;go_ret;exact⟨by rw[E6.out];rfl,hb.alloc hb.size _⟩
   ·have t1:(x.k==1)=false:=by simpa using hx
    have E7:=a8 (E4.out hx);clear hx;go_wp2
    go_roundw
    case rel=>exact⟨k+1,D0,by go_num,E7.out,hb.alloc hb.size _⟩
    case measure=>simp[intOf];omega
  ·have E3:¬(k:Int)<(n:Int):=by omega
   have E8:R=0:=by
    rw[<-HR.out,c1O k (by rw[HN.out];exact hk) D2.out,F9 (by rw[HN.out];omega)];rfl
   subst E8;go_wp2;go_ret;exact⟨rfl,hb⟩
theorem c4L(w:World):Calls Tryz.prog 19 #[.pointer none] w fun e w'=>e=.returned (.int .i64 0)/\Below w.heap.size w w' :=
 c3k _ _ [] w (b6I w) ⟨none,0,rfl,c9 _,by omega,fun h=>absurd rfl h⟩ (by simp)
theorem c2D{B d:Nat}{l:List Nd}(w:World)(h:a0Q w B d l)(hn:l.length<=100000)(hs:∀x∈l,Sm x):Calls Tryz.prog 19 #[.pointer (some ⟨d,0,none⟩)] w fun e w'=>e=.returned (.int .i64 (c1V l:Nat))/\Below w.heap.size w w':=by
 obtain⟨v,hc,hv,_⟩:=h.list hn hs;exact c3k _ v l w (b0M d v w hc) hv hn
end Go.Proofs.YtlgcigmolfhamaaGreatDoor
