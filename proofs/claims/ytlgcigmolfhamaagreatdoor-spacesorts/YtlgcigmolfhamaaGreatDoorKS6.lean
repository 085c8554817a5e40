/-
  space.declared: how its walk ends, wherever its caller stands. Conditions: the document lies as it is.
  How often a prefix has been met, as a map's datum. Plain mathematics.
  space.Find. Conditions: a walk over the declarations is at hand.
  slices.SortFunc of no list. Conditions: none.
-/
import Derived.Test.YtlgcigmolfhamaaGreatDoorKS5
import Derived.Maps.OwnIn
import Derived.Maps.Views
namespace Go.Proofs.YtlgcigmolfhamaaGreatDoor
open Go.RowKit
set_option linter.unusedVariables false
set_option maxRecDepth 100000
set_option maxHeartbeats 4000000
section
def c49(w0:World)(q:Option Addr)(z:Int)(L:List Dc):Prop :=
 ∀(nn:Nat) (Bd Bn:Nat) (Nm:World->Nat->Prop) (wS:World),1<=nn->Below w0.heap.size w0 wS->Boxed wS Bd 24 (.pointer q)->Boxed wS Bn 3 (.int .i64 z) ->
  (∀W W':World,wS.heap.size<=W.heap.size->Below W.heap.size W W'->∀k,Nm W' k->Nm W k)->¬Nm wS Bd->¬Nm wS Bn->(∀k,Nm wS k->k<wS.heap.size) ->
  SeqStopsK Fence.wide nn Tryz.prog 96 #[.pointer (some ⟨Bd,0,none⟩),.pointer (some ⟨Bn,0,none⟩)] (fun x:Ds => #[dcV x.1]) (c4Y w0.heap.size Nm) (fun xs=>vls xs=L) (fun pre=>vls pre <+: L) L.length wS
attribute [local go_sem] Oper.semAt_some
theorem c56(nn:Nat)(E1:1<=nn)(lp:Nat)(q:Option Addr)(z:Int)(w0:World)(Bd Bn:Nat)(J Jx:List Dc->World->Prop)(W:World)(hJ:AbidesFrom W.heap.size J)
 (HN:∀w',Below w0.heap.size w0 w'->Calls Tryz.prog 20 #[.pointer q,.int .i64 z] w' fun e w''=>(∃(k n:Int) (p l u t:ByteArray) (A1 A2:Option Addr) (n1 c1 n2 c2:Nat),(k != 1)=true/\e=.returned (.agg #[.int .i64 k,.int .i64 n,.string p,.string l,.string u,.string t,.slice A1 n1 c1,.slice A2 n2 c2]))/\Below w'.heap.size w' w'')
 (D1:Below w0.heap.size w0 W) (bD:Boxed W Bd 24 (.pointer q)) (bN:Boxed W Bn 3 (.int .i64 z)) (D0:J [] W) :
 CallsIn Fence.wide nn Tryz.prog 96 #[.func (.yield lp) #[] #[],.pointer (some ⟨Bd,0,none⟩),.pointer (some ⟨Bn,0,none⟩)] W fun e W'=>(∃v,e=.returned v)/\((∃xs,xs=[]/\J xs W')∨(∃pre,pre <+: []/\Jx pre W')):=by
 have HN:=a8 (HN W D1);have cD:=bD.cell;have cN:=bN.cell;have D2:Hid (∀W1,Below W.heap.size W W1->J [] W1):=fun W1 hb=>hJ _ _ _ none D0 (c4W hb) (fun r e=>by cases e)
 refine callsIn_of_wp Tryz.func96 rfl trivial ?_ rfl;simp only[Tryz.ntmps96,List.size_toArray,i8,t7,Nat.reduceAdd,Nat.reduceSub,Array.replicate_succ,Array.replicate_zero,List.push_toArray,List.append_toArray,l7,i9];have D3:=c53;clear bD bN D0
 gi_wp2_with (refine⟨trivial,?_⟩;gi_at_call 20;refine(callsIn_wide.2 HN.out).mono ?_;rintro e W1 ⟨⟨k,n,p,l,u,t,A1,A2,n1,c1,n2,c2,hk,rfl⟩,D9⟩;have E0:=D2.out W1 D9)
 refine⟨fun _ h=>(by cases h),?_⟩
 gi_wp2
 refine bodyPost_ret (results_none rfl _ _ _) rfl ?_;exact⟨⟨_,rfl⟩,.inl ⟨_,rfl,E0⟩⟩
theorem c6z(xs:List Ds):vls xs=xs.map (·.1):=rfl
theorem c5U{B d:Nat}{l:List Nd}(n:Nat)(w0:World)(h:a0Q w0 B d l)(D1:l.length<=100000)(hs:∀x∈l,Sm x)(E0:n<l.length)(hh:W4 l l.length)(h0:pa l 0 = -1)(hk:l[n].k=1):c49 w0 (some ⟨d,0,none⟩) (n:Int) (c48 l n) :=
 fun nn Bd Bn Nm wS E1 hW bD bN D9 nD nN E2 lp J Jx W D0 hJ E6 hY E3=>by
  have D2:∀k,Nm W k->Nm wS k:=D9 wS W (c9 _) D0;refine CallsIn.mono (c57 nn E1 lp n w0 h D1 hs E0 hh h0 hk Bd Bn wS.heap.size Nm hW.size D9 (fun pre W => ∃p,vls p=pre/\J p W) (fun pre W => ∃p,vls p=pre/\Jx p W) W ?_ ?_ (hW.trans (D0.mono hW.size)) D0.size ((D0.block _ bD.lt).trans bD) ((D0.block _ bN.lt).trans bN) (fun x=>nD (D2 _ x)) (fun x=>nN (D2 _ x)) (fun k hk=>x9 (E2 k (D2 k hk)) D0.size) ⟨[],rfl,E3⟩) ?_
  ·rintro s W1 W2 row⟨p,e,hp⟩hg hr
   exact⟨p,e,hJ _ _ _ row hp hg hr⟩
  ·rintro pre x W1 E4 E5⟨p,e,hp⟩hl
   refine(hY p ⟨x,E4,E5⟩ W1 hp (by rw[<-c5x,e];exact hl)).mono ?_
   rintro e2 W2 (⟨h1,h2,h3⟩|⟨h1,h2⟩)
   ·exact .inl ⟨h1,⟨_,by rw[c44,e],h2⟩,h3⟩
   ·exact .inr ⟨h1,⟨_,by rw[c44,e],h2⟩⟩
  ·rintro e W2⟨hv,⟨xs,hx,p,hp,D3⟩|⟨pre,hx,p,hp,D3⟩⟩
   ·exact⟨hv,.inl ⟨p,hp.trans hx,D3⟩⟩
   ·exact⟨hv,.inr ⟨p,(by subst hp;exact hx),D3⟩⟩
theorem c47(q:Option Addr)(z:Int)(w0:World)
 (HN:∀w',Below w0.heap.size w0 w'->Calls Tryz.prog 20 #[.pointer q,.int .i64 z] w' fun e w''=>(∃(k n:Int) (p l u t:ByteArray) (A1 A2:Option Addr) (n1 c1 n2 c2:Nat),(k != 1)=true/\e=.returned (.agg #[.int .i64 k,.int .i64 n,.string p,.string l,.string u,.string t,.slice A1 n1 c1,.slice A2 n2 c2]))/\Below w'.heap.size w' w''):c49 w0 q z [] :=
 fun nn Bd Bn Nm wS D2 hW bD bN D9 nD nN E0 lp J Jx W D0 hJ E1 hY D3=>by
  refine CallsIn.mono (c56 nn D2 lp q z w0 Bd Bn (fun pre W => ∃p,vls p=pre/\J p W) (fun pre W => ∃p,vls p=pre/\Jx p W) W ?_ HN (hW.trans (D0.mono hW.size)) ((D0.block _ bD.lt).trans bD) ((D0.block _ bN.lt).trans bN) ⟨[],rfl,D3⟩) ?_
  ·rintro s W1 W2 row⟨p,e,hp⟩hg hr
   exact⟨p,e,hJ _ _ _ row hp hg hr⟩
  ·rintro e W2⟨hv,⟨xs,hx,p,hp,D1⟩|⟨pre,hx,p,hp,D1⟩⟩
   ·exact⟨hv,.inl ⟨p,hp.trans hx,D1⟩⟩
   ·exact⟨hv,.inr ⟨p,(by subst hp;exact hx),D1⟩⟩
theorem c5B{B d:Nat}{l:List Nd}(z:Int)(w:World)(h:a0Q w B d l)(hn:l.length<=100000)(hs:∀x∈l,Sm x)(hz:¬(0<=z/\z<(l.length:Int))):Calls Tryz.prog 20 #[.pointer (some ⟨d,0,none⟩),.int .i64 z] w fun e w'=>e=.returned c4f/\Below w.heap.size w w':=by
 have HH:Hid (∀w',Below w.heap.size w w'->Calls Tryz.prog 59 #[.pointer (some ⟨d,0,none⟩),.int .i64 z] w' fun e w''=>e=.returned (.bool false)/\w''=w'):=fun w' hb=>by
  have:=b8M z w' (h.later hb) hn hs;rw[f8 hz]at this;exact this
 clear h hs hn hz;go_enter Tryz.func20,Tryz.ntmps20
 go_wp2_with fail
 refine(HH.out _ (by first|exact b8 _ _|exact(b8 _ _).alloc (c9 _) _)).mono ?_
 rintro e w1⟨rfl,hw⟩;rw[hw];clear hw;go_wp2;refine bodyPost_ret (v:=c4f) (by simp[results,c4f,Tryz.results20,go_sem]) rfl ⟨rfl,?_⟩
 exact(b8 _ _).alloc (c9 _) _
def scD(l:List Nd)(z:Int):List Dc:=if h:0<=z/\z.toNat<l.length then(if l[z.toNat].k=1 then c48 l z.toNat else[])else[]
theorem c5g{B d:Nat}{l:List Nd}(z:Int)(w0:World)(h:a0Q w0 B d l)(D0:l.length<=100000)(hs:∀x∈l,Sm x)(hh:W4 l l.length)(h0:pa l 0 = -1):c49 w0 (some ⟨d,0,none⟩) z (scD l z):=by
 unfold scD;by_cases hz:0<=z/\z.toNat<l.length
 ·rw[dif_pos hz]
  obtain⟨n,rfl⟩ : ∃n:Nat,z=(n:Int):=⟨z.toNat,by omega⟩
  have hn:n<l.length:=by omega
  simp only[J0];by_cases hk:l[n].k=1
  ·rw[g8 hk];exact c5U n w0 h D0 hs hn hh h0 hk
  ·rw[f6 hk]
   refine c47 _ _ w0 fun w' hb=>(b6k n w' (h.later hb) D0 hs hn).mono ?_;rintro e w2⟨vd,va,rfl,h1,h2,h3⟩;obtain⟨A1,c1,rfl⟩:=J8.form h1;obtain⟨A2,c2,rfl⟩:=J8.form h2;exact⟨⟨_,_,_,_,_,_,_,_,_,_,_,_,by simpa using hk,rfl⟩,h3⟩
 ·rw[dif_neg hz]
  refine c47 _ _ w0 fun w' hb=>(c5B z w' (h.later hb) D0 hs (by omega)).mono ?_
  rintro e w2⟨rfl,h3⟩;exact⟨⟨_,_,_,_,_,_,_,_,_,_,_,_,rfl,rfl⟩,h3⟩
end
def c6q{H:Type}:DataW H->Int
 | .lit (.int _ c)=>c
 |_=>0
def c6k{H:Type}(D:DataW H)(x:Dc):DataW H:=D.put (.string x.p.data.toList) (.lit (.int .i64 (wrap64 (c6q (D.atKey (.string x.p.data.toList) (.lit (.int .i64 0)))+1))))
def c5j{H:Type}(L:List Dc):DataW H:=L.foldl c6k (.map [])
theorem c5i{H:Type}(L:List Dc)(x:Dc):c5j (H:=H) (L++[x])=c6k (c5j L) x:=by simp[c5j]
def c5o(L:List Dc)(s:List UInt8):Nat:=(L.filter (fun d=>decide (d.p.data.toList=s))).length
theorem c5V(L:List Dc)(x:Dc)(s:List UInt8):c5o (L++[x]) s=c5o L s+(if x.p.data.toList=s then 1 else 0):=by
 unfold c5o;rw[List.filter_append,e8];by_cases h:x.p.data.toList=s<;>simp[h]
theorem c5L(L:List Dc)(s:List UInt8):c5o L s<=L.length:=List.length_filter_le _ _
theorem c5u{L:List Dc}{s:List UInt8}:c5o L s=0↔a0b L s=none:=by
 rw[c40];unfold c5o;rw[List.length_eq_zero_iff,List.filter_eq_nil_iff];simp
theorem c5M{H:Type}(L:List Dc):Maps.IsMap (c5j (H:=H) L):=by
 generalize hk:L.length=k
 induction k generalizing L with
 |zero=>obtain rfl:=List.length_eq_zero_iff.1 hk;exact Maps.isMap_empty
 |succ k ih =>
  obtain⟨M,x,rfl⟩ : ∃M x,L=M++[x]:=by
   rcases List.eq_nil_or_concat L with h|⟨M,x,h⟩
   ·rw[h]at hk;simp at hk
   ·exact⟨M,x,by simpa using h⟩
  rw[c5i];exact(ih M (by simpa using hk)).put _ _
theorem c5N{H:Type}(L:List Dc)(hL:L.length<=1000000000)(s:List UInt8):(c5j (H:=H) L).atKey (.string s) (.lit (.int .i64 0))=.lit (.int .i64 (c5o L s)):=by
 generalize hk:L.length=k
 induction k generalizing L with
 |zero =>
  obtain rfl:=List.length_eq_zero_iff.1 hk
  rfl
 |succ k ih =>
  obtain⟨M,x,rfl⟩ : ∃M x,L=M++[x]:=by
   rcases List.eq_nil_or_concat L with h|⟨M,x,h⟩
   ·rw[h]at hk;simp at hk
   ·exact⟨M,x,by simpa using h⟩
  have hM:M.length=k:=by simpa using hk
  have hm:=ih M (by omega) hM
  rw[c5i,c5V];unfold c6k;by_cases h:x.p.data.toList=s
  ·subst h
   rw[Maps.atKey_put_same (c5M M) (show WideAt.IsKeyLit (.string _)from trivial),hm,g8 rfl];have:=c5L M x.p.data.toList;simp only[c6q];rw[show wrap64 ((c5o M x.p.data.toList:Nat)+1:Int)=((c5o M x.p.data.toList+1:Nat):Int)from by unfold wrap64;omega]
  ·rw[Maps.atKey_put_other (by simp;exact fun e=>h e.symm),hm,f6 h]
   rfl
section
theorem c5I(x:Dc)(w:World):Calls Tryz.prog 53 #[dcV x] w fun e w'=>e=.returned (.bool (!N4 x.u []))/\Below w.heap.size w w':=by
 obtain⟨b,hb⟩ : ∃b,N4 x.u []=b:=⟨_,rfl⟩;obtain⟨e1,e2⟩:=a13 hb;rw[hb];unfold dcV;go_enter Tryz.func53,Tryz.ntmps53;go_wp2;go_ret;exact⟨rfl,(b8 _ _).alloc (c9 _) _⟩
attribute [local go_sem] Oper.semAt_some
theorem c5D(q:Option Addr)(z:Int)(p:ByteArray)(w:World)(L:List Dc)(hS:c49 w q z L):Calls Tryz.prog 14 #[.pointer q,.int .i64 z,.string p] w fun e w'=>e=.returned (.tuple #[.string (c41 L p.data.toList).1,.bool (c41 L p.data.toList).2])/\Below w.heap.size w w':=by
 refine(callsIn_wide (n:=6)).1 ?_;refine callsIn_of_wp_marks Tryz.func14 rfl trivial ?_ rfl;simp only[Tryz.ntmps14,List.size_toArray,i8,t7,Nat.reduceAdd,Nat.reduceSub,Array.replicate_succ,Array.replicate_zero,List.push_toArray,List.append_toArray,l7,i9]
 gi_wp2_with (refine⟨trivial,?_⟩;gi_at_call 52;refine(callsIn_wide.2 (c5d _ _ _)).mono ?_;rintro e w' ⟨rfl,rfl⟩)
 have bP:=((((Boxed.new w 9 (.string p)).alloc (.cells #[.string ⟨#[]⟩] 9)).alloc (.cells #[.bool false] 4)).alloc (.cells #[.pointer q] 24)).alloc (.cells #[.int .i64 z] 3);have bU:=(((Boxed.new (w.alloc (.cells #[.string p] 9)) 9 (.string ⟨#[]⟩)).alloc (.cells #[.bool false] 4)).alloc (.cells #[.pointer q] 24)).alloc (.cells #[.int .i64 z] 3);have bK:=((Boxed.new ((w.alloc (.cells #[.string p] 9)).alloc (.cells #[.string ⟨#[]⟩] 9)) 4 (.bool false)).alloc (.cells #[.pointer q] 24)).alloc (.cells #[.int .i64 z] 3);have bD:=(Boxed.new (((w.alloc (.cells #[.string p] 9)).alloc (.cells #[.string ⟨#[]⟩] 9)).alloc (.cells #[.bool false] 4)) 24 (.pointer q)).alloc (.cells #[.int .i64 z] 3);have bN:=Boxed.new ((((w.alloc (.cells #[.string p] 9)).alloc (.cells #[.string ⟨#[]⟩] 9)).alloc (.cells #[.bool false] 4)).alloc (.cells #[.pointer q] 24)) 3 (.int .i64 z);have D2:Below w.heap.size w (((((w.alloc (.cells #[.string p] 9)).alloc (.cells #[.string ⟨#[]⟩] 9)).alloc (.cells #[.bool false] 4)).alloc (.cells #[.pointer q] 24)).alloc (.cells #[.int .i64 z] 3)):=(((((b8 _ w).alloc (c9 _) _).alloc (by simp) _).alloc (by simp;omega) _).alloc (by simp;omega) _).alloc (by simp;omega) _
 have E8:(((((w.alloc (.cells #[.string p] 9)).alloc (.cells #[.string ⟨#[]⟩] 9)).alloc (.cells #[.bool false] 4)).alloc (.cells #[.pointer q] 24)).alloc (.cells #[.int .i64 z] 3)).heap.size=w.heap.size+5:=by simp
 simp only[World.size_alloc]at bU bK bD bN
 try simp only[World.size_alloc]
 obtain⟨W0,E4⟩ : ∃W0,((((w.alloc (.cells #[.string p] 9)).alloc (.cells #[.string ⟨#[]⟩] 9)).alloc (.cells #[.bool false] 4)).alloc (.cells #[.pointer q] 24)).alloc (.cells #[.int .i64 z] 3)=W0:=⟨_,rfl⟩;rw[E4]at bP bU bK bD bN D2 E8 ⊢;clear E4
 refine wpIn_rangeFunc_ownH rfl (by omega) (gf:=96) (lb:=#[.pointer (some ⟨w.heap.size+1+1+1,0,none⟩),.pointer (some ⟨w.heap.size+1+1+1+1,0,none⟩)]) rfl trivial (enters_of Tryz.func96 (by kernel_rfl) rfl)
  (hS (6-1) _ _ (fun _ _=>False) W0 (by omega) D2 bD bN (fun _ _ _ _ _ h=>h) (fun h=>h) (fun h=>h) (fun _ h=>h.elim)) c4Y.trans
  (fun W l o o' hl ho h1 h2=>⟨belowK_b (w:=w) (c9 _) W l o o' (by omega) ho h1 h2,fun k o1 hk hc _=>by
    have G0:k≠l:=fun e=>by subst e;rw[ho]at hk;cases hk;rw[h1]at hc;cases hc
    exact((grownBy_putObj' W l o').block k (Array.getElem?_eq_some_iff.1 hk).1 (fun e=>G0 (by cases e;rfl))).trans hk,fun _ h=>h.elim⟩) (b8 _ _) (fun _=>rfl)
  (fun pre W=>((Boxed W w.heap.size 9 (.string p)/\Boxed W (w.heap.size+1) 9 (.string ⟨#[]⟩)/\Boxed W (w.heap.size+2) 4 (.bool false))/\a0b (vls pre) p.data.toList=none)/\Below w.heap.size w W)
  (fun c pre W=>((Boxed W (w.heap.size+1) 9 (.string (c41 (vls pre) p.data.toList).1)/\Boxed W (w.heap.size+2) 4 (.bool (c41 (vls pre) p.data.toList).2))/\c=.ret/\a0b (vls pre) p.data.toList≠none)/\Below w.heap.size w W)
  (OwnFrom.and (OwnFrom.and (Own.from (fun s X Y row hs hg hr=>⟨boxed_own _ _ (fun _=>Value.string p) s X Y row hs.1 hg hr,boxed_own _ _ (fun _=>Value.string ⟨#[]⟩) s X Y row hs.2.1 hg hr,boxed_own _ _ (fun _=>Value.bool false) s X Y row hs.2.2 hg hr⟩) _) (fun s X Y row hs _ _=>hs)) (ownFrom_below (c9 _) (by omega)))
  (fun c=>OwnFrom.and (OwnFrom.and (Own.from (fun s X Y row hs hg hr=>⟨boxed_own _ _ (fun pre=>Value.string (c41 (vls pre) p.data.toList).1) s X Y row hs.1 hg hr,boxed_own _ _ (fun pre=>Value.bool (c41 (vls pre) p.data.toList).2) s X Y row hs.2 hg hr⟩) _) (fun s X Y row hs _ _=>hs)) (ownFrom_below (c9 _) (by omega)))
  ⟨⟨⟨bP,bU,bK⟩,rfl⟩,D2⟩
  (fun x a' W => ∃Bx,w.heap.size+2<Bx/\Bx<W.heap.size/\W.heap[Bx]? = some (.cells #[.string x.1.p,.string x.1.u] 34 (0,0))/\a'={ tmps:=#[.pointer q,.int .i64 z,.string p,undef,undef,.pointer (some ⟨w.heap.size,0,none⟩),.pointer (some ⟨w.heap.size+1,0,none⟩),.pointer (some ⟨w.heap.size+1+1,0,none⟩),.pointer (some ⟨Bx,0,none⟩),.pointer q,.int .i64 z,.func (.func 96) #[] #[.pointer (some ⟨w.heap.size+1+1+1,0,none⟩),.pointer (some ⟨w.heap.size+1+1+1+1,0,none⟩)],dcV x.1,undef,undef,undef,undef,undef,undef,undef,undef],defers:=[] })
  (fun x a' _ X Y row hs hg hr=>by
    obtain⟨Bx,h1,h2,h3,h4⟩:=hs;refine⟨Bx,h1,x9 h2 hg.size,(hg.block _ h2 (fun e => ?_)).trans h3,h4⟩;obtain⟨_,o,ho,hc⟩:=hr _ e.symm;rw[h3]at ho;cases ho;cases hc)
  ?assign ?body ?done ?stop
 case assign =>
  rintro l pre⟨x,D0⟩W K⟨⟨⟨bP,bU,bK⟩,hf⟩,hB⟩hK;unfold dcV at hK ⊢
  gi_wp2
  exact hK _ _ ((KeepsOthers.alloc _ _).from _) (c4Y.of_below ((b8 _ _).alloc (c9 _) _) hB.size (fun _ h=>h)) ⟨⟨⟨bP.alloc _,bU.alloc _,bK.alloc _⟩,hf⟩,hB.alloc hB.size _⟩ ⟨W.heap.size,bK.lt,by simp,World.alloc_heap_new W _,rfl⟩
 case body =>
  rintro l pre⟨x,D0⟩a' W hl⟨r,hr⟩⟨⟨⟨bP,bU,bK⟩,hf⟩,hB⟩⟨Bx,G5,E5,bX,rfl⟩G6;have cX0:W.cell? ⟨Bx,0,none⟩=some (.string x.p):=by simp[World.cell?,bX]
  have cX1:W.cell? ⟨Bx,1,none⟩=some (.string x.u):=by simp[World.cell?,bX]
  have cP:=bP.cell;have cU:=bU.cell;have cK:=bK.cell;have fU:=bU.frozen;have fK:=bK.frozen;unfold dcV;have hd:1<=6-1-1:=by omega
  have D1:Hid (∀W',Below W.heap.size W W'->W'.cell? ⟨Bx,0,none⟩=some (.string x.p)/\W'.cell? ⟨Bx,1,none⟩=some (.string x.u)/\W'.cell? ⟨w.heap.size+1,0,none⟩=some (.string ⟨#[]⟩)/\W'.cell? ⟨w.heap.size+2,0,none⟩=some (.bool false)/\W'.frozen? ⟨w.heap.size+1,0,none⟩=false/\W'.frozen? ⟨w.heap.size+2,0,none⟩=false):=fun W' hb=>by
   have e1:Boxed W' (w.heap.size+1) 9 (.string ⟨#[]⟩):=(hb.block _ bU.lt).trans bU;have e2:Boxed W' (w.heap.size+2) 4 (.bool false):=(hb.block _ bK.lt).trans bK;exact⟨(hb.cell (p:=⟨Bx,0,none⟩) E5).trans cX0,(hb.cell (p:=⟨Bx,1,none⟩) E5).trans cX1,e1.cell,e2.cell,e1.frozen,e2.frozen⟩
  obtain⟨t,ht⟩ : ∃t,(x.p.toList==p.toList)=t:=⟨_,rfl⟩;have HT:=a8 ht;obtain⟨uu,D3⟩ : ∃uu,(!N4 x.u [])=uu:=⟨_,rfl⟩;have HU:=a8 D3;have HM:=a8 (fun w'=>c5I x w');rw[D3]at HM;unfold dcV at HM;cases t with
  |false =>
   clear HU D3 HM
   gi_wp2
   exact⟨KeepsFrom.refl _ _,c4Y.refl _,⟨⟨bP,bU,bK⟩,by rw[c44,c5h,hf,f6 (c5J HT.out)];rfl⟩,hB⟩
  |true =>
   have D9:Hid (∀w1,Below W.heap.size W w1->KeepsFrom W0.heap.size W ((w1.setCell ⟨w.heap.size+1,0,none⟩ (.string x.u)).setCell ⟨w.heap.size+1+1,0,none⟩ (.bool uu))/\((Boxed ((w1.setCell ⟨w.heap.size+1,0,none⟩ (.string x.u)).setCell ⟨w.heap.size+1+1,0,none⟩ (.bool uu)) (w.heap.size+1) 9 (.string (c41 (vls (pre++[⟨x,D0⟩])) p.data.toList).1)/\Boxed ((w1.setCell ⟨w.heap.size+1,0,none⟩ (.string x.u)).setCell ⟨w.heap.size+1+1,0,none⟩ (.bool uu)) (w.heap.size+2) 4 (.bool (c41 (vls (pre++[⟨x,D0⟩])) p.data.toList).2))/\a0b (vls (pre++[⟨x,D0⟩])) p.data.toList≠none)/\Below w.heap.size w ((w1.setCell ⟨w.heap.size+1,0,none⟩ (.string x.u)).setCell ⟨w.heap.size+1+1,0,none⟩ (.bool uu))):=fun w1 hb=>by
    have E0:a0b (vls (pre++[⟨x,D0⟩])) p.data.toList=some x.u:=by rw[c44,c5h,hf,g8 (c5K HT.out)];rfl
    have e1:Boxed w1 (w.heap.size+1) 9 (.string ⟨#[]⟩):=(hb.block _ bU.lt).trans bU;have e2:Boxed w1 (w.heap.size+2) 4 (.bool false):=(hb.block _ bK.lt).trans bK;have G1:KeepsOthers W w1:=⟨hb.size,fun k o hk _=>(hb.block k (i3 hk)).trans hk⟩;refine⟨((G1.trans (KeepsOthers.setCell _ _ _)).trans (KeepsOthers.setCell _ _ _)).from _,⟨⟨?_,?_⟩,by rw[E0];simp⟩,((hB.trans (hb.mono hB.size)).setCell (p:=⟨w.heap.size+1,0,none⟩) (by simp) _).setCell (p:=⟨w.heap.size+1+1,0,none⟩) (by simp;omega) _⟩
    ·unfold c41;rw[E0]
     exact(e1.set _).other (by omega) _
    ·unfold c41;rw[E0]
     show Boxed _ (w.heap.size+2) _ (.bool (!N4 x.u []))
     rw[HU.out];exact(e2.other (by omega) _).set _
   gi_upto_region 4 with fail
   gi_region_with (refine⟨trivial,?_⟩;gi_at_call 53;refine(CallsIn.inRound l (callsIn_wide.2 (HM.out _))).mono ?_;rintro e w1 ⟨rfl,E6⟩;have E7:Below W.heap.size W w1:=(by first|exact E6|exact((b8 _ _).drew).trans E6);obtain⟨q0,q1,q2,q3,q4,q6⟩:=D1.out w1 E7)
   all_goals gi_wp2
   all_goals
    obtain⟨g1,⟨g2,g3⟩,g4⟩:=D9.out _ E7;exact⟨g1,⟨g2,rfl,g3⟩,g4⟩
 case done =>
  rintro D xs W hD G4⟨⟨⟨bP,bU,bK⟩,hf⟩,hB⟩hK;have cU:=bU.cell;have cK:=bK.cell;have fU:=bU.frozen;have fK:=bK.frozen
  gi_wp2
  have bU2:=(bU.set (.string ⟨#[]⟩)).other (B':=w.heap.size+2) (by omega) (.bool false)
  have bK2:=(bK.other (B':=w.heap.size+1) (by omega) (.string ⟨#[]⟩)).set (.bool false)
  have hK':=((KeepsOthers.setCell W ⟨w.heap.size+1,0,none⟩ (.string ⟨#[]⟩)).trans (KeepsOthers.setCell _ ⟨w.heap.size+1+1,0,none⟩ (.bool false))).same D _ hK rfl;refine⟨by simp,.inl ⟨_,_,rfl,run_takeDeferred hK',?_⟩⟩
  have E1:=cell_kept bU2.cell (grownBy_putObj' _ D (.deferred none)) (fun r e=>by cases e;exact⟨_,hK',rfl⟩)
  have E2:=cell_kept bK2.cell (grownBy_putObj' _ D (.deferred none)) (fun r e=>by cases e;exact⟨_,hK',rfl⟩)
  have E3:c41 L p.data.toList=(⟨#[]⟩,false):=by unfold c41;rw[<-G4,hf]
  rw[E3];refine⟨.tuple #[.string ⟨#[]⟩,.bool false],?_,rfl,((hB.setCell (p:=⟨w.heap.size+1,0,none⟩) (by simp) _).setCell (p:=⟨w.heap.size+1+1,0,none⟩) (by simp;omega) _).trans (belowK_b (w:=w) (c9 _) _ D _ _ (by omega) hK' rfl rfl)⟩
  simp[results,Tryz.results14,go_sem,E1,E2]
 case stop =>
  rintro D c pre W hD hp⟨⟨⟨bU,bK⟩,rfl,hf⟩,hB⟩hK
  gi_wp2
  refine⟨by simp,.inl ⟨_,_,rfl,run_takeDeferred hK,?_⟩⟩
  have E1:=cell_kept bU.cell (grownBy_putObj' _ D (.deferred none)) (fun r e=>by cases e;exact⟨_,hK,rfl⟩)
  have E2:=cell_kept bK.cell (grownBy_putObj' _ D (.deferred none)) (fun r e=>by cases e;exact⟨_,hK,rfl⟩)
  have E3:c41 L p.data.toList=c41 (vls pre) p.data.toList:=by
   obtain⟨r,hr⟩:=hp;unfold c41;rw[<-hr,c5k];cases h:a0b (vls pre) p.data.toList with
   |none=>exact absurd h hf
   |some u=>rfl
  rw[E3];refine⟨.tuple #[.string (c41 (vls pre) p.data.toList).1,.bool (c41 (vls pre) p.data.toList).2],?_,rfl,hB.trans (belowK_b (w:=w) (c9 _) _ D _ _ (by omega) hK rfl rfl)⟩
  simp[results,Tryz.results14,go_sem,E1,E2]
end
theorem c6i(g:FuncId)(w:World):Calls Tryz.prog 137 #[.slice none 0 0,.int .i64 0,.int .i64 0,.func (.func g) #[] #[]] w fun e w'=>e=.returned (.tuple #[])/\w'=w:=by
 go_enter Tryz.func137,Tryz.ntmps137
 go_wp2_with fail
 go_loopw [8] (fun i wr=>i=.int .i64 1/\wr=w) (fun _ _=>0)
 case atStart=>exact⟨rfl,rfl⟩
 case round =>
  obtain⟨rfl,rfl⟩:=hrel;go_wp2
  go_end0
  try exact⟨rfl,rfl⟩
theorem c6f(g:FuncId)(k:Int)(w:World):Calls Tryz.prog 98 #[.slice none 0 0,.int .i64 0,.int .i64 0,.int .i64 k,.func (.func g) #[] #[]] w fun e w'=>e=.returned (.tuple #[])/\w'=w:=by
 have HI:=a8 (c6i g w);go_enter Tryz.func98,Tryz.ntmps98
 go_wp2_with fail
 go_loopw [1,2,3,10,11] (fun a b c p q wr=>a=.int .i64 0/\b=.int .i64 0/\c=.int .i64 k/\p=.bool true/\q=.bool true/\wr=w) (fun _ _ _ _ _ _=>0)
 case atStart=>exact⟨rfl,rfl,rfl,rfl,rfl,rfl⟩
 case round =>
  obtain⟨rfl,rfl,rfl,rfl,rfl,rfl⟩:=hrel
  go_wp2_with (go_at_call 137;refine HI.out.mono ?_;rintro e w1 ⟨rfl,rfl⟩)
  refine bodyPost_ret (results_none rfl _ _ _) rfl ?_;exact⟨rfl,rfl⟩
theorem c6g(w:World):Calls Tryz.prog 146 #[.int .u64 0] w fun e w'=>e=.returned (.int .i64 0)/\w'=w:=by
 go_enter Tryz.func146,Tryz.ntmps146;go_wp2;go_ret;exact⟨by kernel_rfl,rfl⟩
theorem c6y(w:World):Calls Tryz.prog 99 #[.int .u64 0] w fun e w'=>e=.returned (.int .i64 0)/\w'=w:=by
 have HI:=a8 (c6g w);go_enter Tryz.func99,Tryz.ntmps99
 go_wp2_with (go_at_call 146;refine HI.out.mono ?_;rintro e w1 ⟨rfl,rfl⟩)
 go_ret;exact⟨rfl,rfl⟩
theorem c5Z(g:FuncId)(w:World):Calls Tryz.prog 54 #[.slice none 0 0,.func (.func g) #[] #[]] w fun e w'=>e=.returned (.tuple #[])/\w'=w:=by
 have HI:=a8 (fun k=>c6f g k w);go_enter Tryz.func54,Tryz.ntmps54;have HL:=a8 (c6y w)
 go_wp2_with fail
 refine HL.out.mono ?_;rintro e w1⟨rfl,hw⟩;rw[hw];clear hw
 go_wp2_with fail
 refine(HI.out 0).mono ?_;rintro e w2⟨rfl,hw⟩;rw[hw];clear hw;go_wp2
 go_end0
 exact⟨rfl,rfl⟩
end Go.Proofs.YtlgcigmolfhamaaGreatDoor
