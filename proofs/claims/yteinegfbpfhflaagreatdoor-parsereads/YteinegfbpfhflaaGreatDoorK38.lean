/-
  The document's own reader (apostilleref08): its small steps, as plain mathematics. Conditions: none.
  The document's own reader (apostilleref08), as plain mathematics. Conditions: none.
  Small steps of the document's own reader; where a text is cut. Plain mathematics. Conditions: none.
  The document's own reader and the program's: names, texts up to a letter. Plain mathematics. Conditions: none.
  What the program's reader comes to, step by step; what the document's own keeps. Plain mathematics. Conditions: none.
-/
import Derived.Test.YteinegfbpfhflaaGreatDoorK13
import Derived.Test.YteinegfbpfhflaaGreatDoorK08
import Derived.Test.YteinegfbpfhflaaGreatDoorK36
import Derived.Test.YteinegfbpfhflaaGreatDoorK19
namespace Go.Proofs.YteinegfbpfhflaaGreatDoor
open Go.RowKit
set_option linter.unusedVariables false
theorem b14{s:List UInt8}{l l':List Int}{x x':List UInt8}(h:Run s l x)(h':Run s l' x'):l=l':=by
 obtain⟨d,e⟩:=Run.most (c:=[]) (a:=l) (b:=l') (x:=x) (y:=x') (by simpa using h.ok) (by simpa using h'.ok) (by rw[<-h.eq,h'.eq]) (by simpa using h.stop)
 obtain⟨d',e'⟩:=Run.most (c:=[]) (a:=l') (b:=l) (x:=x') (y:=x) (by simpa using h'.ok) (by simpa using h.ok) (by rw[<-h'.eq,h.eq]) (by simpa using h'.stop)
 have h1:=congrArg List.length e;have h2:=congrArg List.length e';rw[e8]at h1 h2;have:d=[]:=j8 (by omega)
 rw[e,this,A7]
open Classical in
noncomputable def a7o(s:List UInt8):List UInt8:=if h:∃l x,Run s l x then y9 h.choose else[]
theorem a4f{s:List UInt8}{l:List Int}{x:List UInt8}(h:Run s l x):a7o s=y9 l:=by
 have hx:∃l x,Run s l x:=⟨l,x,h⟩;unfold a7o;rw[dif_pos hx];obtain⟨y,hy⟩:=hx.choose_spec;rw[b14 hy h]
theorem b0J(s:List UInt8):∃x,s=a7o s++x:=by
 by_cases h:∃l x,Run s l x
 ·obtain⟨l,x,h⟩:=h
  exact⟨x,by rw[a4f h];exact h.eq⟩
 ·refine⟨s,?_⟩
  unfold a7o;rw[dif_neg h];rfl
theorem a4g(s:List UInt8):(a7o s).length<=s.length:=by
 obtain⟨x,h⟩:=b0J s;have:=congrArg List.length h;rw[e8]at this;omega
structure Rf where
 rest:List UInt8
 ns:List Nd
 bad:Bool
def Rf.to(s:Rf)(r:List UInt8):Rf:={ s with rest:=r }
def Rf.or(s:Rf)(b:Bool):Rf:={ s with bad:=s.bad||b }
def Rf.fail(s:Rf):Rf:={ s with bad:=true }
def Rf.add(s:Rf)(x:Nd):Rf:={ s with ns:=s.ns++[x] }
def F3(p:List UInt8)(s:Rf):Bool:=(m9 p s.rest).isSome
def D0(p:List UInt8)(s:Rf):Rf:=match m9 p s.rest with
 |some r=>s.to r
 |none=>s.fail
def J3(t:List UInt8)(s:Rf):List UInt8×Rf:=match K5 t s.rest with
 |some (p,r)=>(p,s.to r)
 |none=>([],s.fail)
def C8(s:Rf):Rf:=s.to (n8 s.rest)
def Y6(s:Rf):Nat:=s.rest.length-(n8 s.rest).length
noncomputable def a1H(s:Rf):List UInt8:=a7o s.rest
noncomputable def O5(s:Rf):Rf:=(s.to (s.rest.drop (a7o s.rest).length)).or (decide (a7o s.rest=[]))
noncomputable def K8(s:Rf):(List UInt8×List UInt8)×Rf:=match m9 [58] (O5 s).rest with
 |some r=>((a1H s,a1H ((O5 s).to r)),O5 ((O5 s).to r))
 |none=>(([],a1H s),O5 s)
def M1(s:Rf):List UInt8×Rf:=match m9 [39] (C8 (D0 [61] (C8 s))).rest with
 |some r=>J3 [39] ((C8 (D0 [61] (C8 s))).to r)
 |none=>match m9 [34] (C8 (D0 [61] (C8 s))).rest with
  |some r=>J3 [34] ((C8 (D0 [61] (C8 s))).to r)
  |none=>([],(C8 (D0 [61] (C8 s))).fail)
def Q0(key:List UInt8)(s:Rf):Option (List UInt8)×Rf :=
 if Y6 s=0∨F3 key (C8 s)=false then(none,s)else(some (M1 (D0 key (C8 s))).1,(M1 (D0 key (C8 s))).2)
def b4i(c:UInt8):UInt8:=if 65<=c.toNat/\c.toNat<=90 then c+32 else c
def a2B(s:List UInt8):List UInt8:=s.map b4i
def a3P(s:Rf):Rf:=(Q0 a0u s).2.or (match (Q0 a0u s).1 with|some v=>decide (v≠[49,46,48])|none=>true)
def a3v(s:Rf):Rf:=(Q0 Q2 s).2.or (match (Q0 Q2 s).1 with|some v=>decide (a2B v≠[117,116,102,45,56])|none=>false)
def a3u(s:Rf):Rf:=(Q0 V6 s).2.or (match (Q0 V6 s).1 with|some v=>decide (v≠[121,101,115])&&decide (v≠[110,111])|none=>false)
def a1k(s:List UInt8):Bool:=match m9 [60,63,120,109,108] s with
 |some (c::_)=>X0 c
 |_=>false
def a04(s:Rf):Rf:=if a1k s.rest=true then D0 [63,62] (C8 (a3u (a3v (a3P (D0 [60,63,120,109,108] s)))))else s
def a0d(n:Int)(s:Rf):Rf:=(J3 [45,45,62] (D0 [60,33,45,45] s)).2.add ⟨3,n,⟨#[]⟩,⟨#[]⟩,⟨#[]⟩,ba (J3 [45,45,62] (D0 [60,33,45,45] s)).1,[],[]⟩
def a0v(s:Rf):Rf:=if F3 [63,62] s=true then s else(C8 s).or (decide (Y6 s=0))
noncomputable def W5(n:Int)(s:Rf):Rf :=
 (J3 [63,62] (a0v (O5 (D0 [60,63] s)))).2.add ⟨4,n,⟨#[]⟩,ba (a1H (D0 [60,63] s)),⟨#[]⟩,ba (J3 [63,62] (a0v (O5 (D0 [60,63] s)))).1,[],[]⟩
noncomputable def a1t:Nat->Rf->Rf
 |0,s=>s
 |k+1,s=>if s.bad=true then s else
  if F3 [60,33,45,45] (C8 s)=true then a1t k (a0d 0 (C8 s))
  else if F3 [60,63] (C8 s)=true then a1t k (W5 0 (C8 s))
  else C8 s
noncomputable def a2k(s:Rf)(x:Nd):Nd:=V4 x (K8 s).1.1 (K8 s).1.2 (ba ((X5 (M1 (K8 s).2).1).getD []))
noncomputable def a4Y(s:Rf):Rf:=(M1 (K8 s).2).2.or (X5 (M1 (K8 s).2).1).isNone
noncomputable def Y4:Nat->Rf->Nd->Rf×Nd
 |0,s,x=>(s,x)
 |k+1,s,x=>if s.bad=true then(s,x)else
  if(F3 [62] (C8 s)||F3 [47,62] (C8 s))=true then(C8 s,x)
  else if Y6 s=0 then((C8 s).fail,x)
  else Y4 k (a4Y (C8 s)) (a2k (C8 s) x)
noncomputable def b5q(l:List Nd)(n:Nat)(a:At):At:=if a.p.data.toList=[]then a else { a with u:=(G4 l n a.p).1 }
noncomputable def Q4(l:List Nd)(x:Nd):Nd:={ x with u:=(G4 (l++[x]) l.length x.p).1,ats:=x.ats.map (b5q (l++[x]) l.length) }
def J2(n:Int)(t:List UInt8)(s:Rf):Rf:=if t=[]then s else s.add ⟨2,n,⟨#[]⟩,⟨#[]⟩,⟨#[]⟩,ba t,[],[]⟩
noncomputable def M6(E:Int->Rf->Rf):Nat->Int->List UInt8->Rf->Rf
 |0,n,t,s=>J2 n t s
 |k+1,n,t,s=>if s.bad=true∨s.rest=[]∨F3 [60,47] s=true then J2 n t s else
  if F3 [60,33,91,67,68,65,84,65,91] s=true then M6 E k n (t++(J3 [93,93,62] (D0 [60,33,91,67,68,65,84,65,91] s)).1) (J3 [93,93,62] (D0 [60,33,91,67,68,65,84,65,91] s)).2
  else if F3 [60] s=false then M6 E k n (t++(J7 (G9 [60] s.rest)).getD []) ((s.to (J9 [60] s.rest)).or (J7 (G9 [60] s.rest)).isNone)
  else if F3 [60,33,45,45] s=true then M6 E k n [] (a0d n (J2 n t s))
  else if F3 [60,63] s=true then M6 E k n [] (W5 n (J2 n t s))
  else M6 E k n [] (E n (J2 n t s))
noncomputable def W9(s:Rf):(List UInt8×List UInt8)×Rf:=K8 (D0 [60] s)
noncomputable def F6(n:Int)(s:Rf):Rf×Nd:=Y4 ((W9 s).2.rest.length+1) (W9 s).2 ⟨1,n,ba (W9 s).1.1,ba (W9 s).1.2,⟨#[]⟩,⟨#[]⟩,[],[]⟩
noncomputable def a9s(pl:List UInt8×List UInt8)(s:Rf):Rf:=(D0 [62] (C8 (K8 (D0 [60,47] s)).2)).or (decide ((K8 (D0 [60,47] s)).1≠pl))
noncomputable def M0:Nat->Int->Rf->Rf
 |0,n,s=>s
 |f+1,n,s =>
  if(F6 n s).1.bad=true then(F6 n s).1.add (F6 n s).2 else
  if F3 [47,62] (F6 n s).1=true then D0 [47,62] ((F6 n s).1.add (Q4 (F6 n s).1.ns (F6 n s).2))
  else a9s (W9 s).1 (M6 (M0 f) ((F6 n s).1.rest.length+1) ((F6 n s).1.ns.length:Nat) [] (D0 [62] ((F6 n s).1.add (Q4 (F6 n s).1.ns (F6 n s).2))))
def rf0(s:List UInt8):Rf:=⟨s,[Y3],false⟩
noncomputable def a1r(s:List UInt8):Rf:=a1t (s.length+1) (a04 (rf0 s))
noncomputable def a0a(s:List UInt8):Rf:=if(a1r s).bad=true then a1r s else M0 (s.length+1) 0 (a1r s)
noncomputable def a0U(s:List UInt8):Rf:=if(a0a s).bad=true then a0a s else a1t (s.length+1) (a0a s)
noncomputable def a3Y(s:List UInt8):Option (List Nd):=if(a0U s).bad=true∨(a0U s).rest≠[]then none else some (a0U s).ns
theorem T0(s:Rf):s.or false=s:=by cases s;simp[Rf.or]
theorem a6y(s:Rf):s.or true=s.fail:=by cases s;simp[Rf.or,Rf.fail]
theorem a1G{s:Rf}(h:s.bad=true)(b:Bool):(s.or b).bad=true:=by simp[Rf.or,h]
theorem a29(c:UInt8)(s:List UInt8):m9 [c] (c::s)=some s:=by simp[m9]
theorem a0K{c d:UInt8}(h:c≠d)(s:List UInt8):m9 [c] (d::s)=none:=by simp[m9,h]
theorem a1U(c:UInt8)(p:List UInt8):m9 (c::p) []=none:=by simp[m9]
theorem L4{p:List UInt8}{s:Rf}{r:List UInt8}(h:m9 p s.rest=some r):D0 p s=s.to r:=by unfold D0;rw[h]
theorem V5{p:List UInt8}{s:Rf}(h:m9 p s.rest=none):D0 p s=s.fail:=by unfold D0;rw[h]
theorem a0I{t:List UInt8}{s:Rf}{p r:List UInt8}(h:K5 t s.rest=some (p,r)):J3 t s=(p,s.to r):=by unfold J3;rw[h]
theorem a1c{t:List UInt8}{s:Rf}(h:K5 t s.rest=none):J3 t s=([],s.fail):=by unfold J3;rw[h]
theorem a8I{p:List UInt8}{s:Rf}:F3 p s=true↔∃r,m9 p s.rest=some r:=by
 unfold F3;rw[Option.isSome_iff_exists]
theorem Q9{p:List UInt8}{s:Rf}(h:m9 p s.rest=none):F3 p s=false:=by unfold F3;rw[h];rfl
theorem L8{p:List UInt8}{s:Rf}{r:List UInt8}(h:m9 p s.rest=some r):F3 p s=true:=by unfold F3;rw[h];rfl
theorem a2S(t:List UInt8)(c:UInt8)(l:List UInt8):K5 t (c::l)=if t.isPrefixOf (c::l)=true then some ([],(c::l).drop t.length)else(K5 t l).map fun q=>(c::q.1,q.2):=by
 have D0:=Lib.index_ge l t;unfold K5;rw[Lib.index]
 split
 ·next h=>rw[g8 (Int.le_refl 0)];simp
 ·next h =>
  split
  ·next h2 =>
   rw[x8]at h2;rw[f6 (by omega),f6 (by omega)];rfl
  ·next h2 =>
   rw[x8]at h2;rw[g8 (by omega),g8 (by omega)]
   obtain⟨n,hn⟩ : ∃n:Nat,Lib.index l t=n:=⟨(Lib.index l t).toNat,by omega⟩
   rw[hn];have e1:((n:Int)+1).toNat=n+1:=by omega
   have e2:(n:Int).toNat=n:=by omega
   rw[e1,e2];simp only[Option.map_some,List.take_succ_cons];rw[show n+1+t.length=(n+t.length)+1 by omega,List.drop_succ_cons]
theorem b9c(c:UInt8)(t:List UInt8):K5 (c::t) []=none:=by
 have:Lib.index [] (c::t) = -1:=by rw[Lib.index];rfl
 unfold K5;rw[this,f6 (by omega)]
theorem a5T{c:UInt8}{t:List UInt8}:∀{a:List UInt8} (h:c∉a) (x:List UInt8),K5 (c::t) (a++x)=(K5 (c::t) x).map fun q=>(a++q.1,q.2)
 | [],_,x=>by cases h:K5 (c::t) ([]++x)<;>(rw[l7]at h;rw[h];rfl)
 |d::a,h,x=>by
  have hd:¬(c::t).isPrefixOf (d::a++x)=true:=by
   rw[i9,List.isPrefixOf_cons_cons,i4,x8];rintro⟨rfl,_⟩;exact h List.mem_cons_self
  rw[i9,a2S,f6 (by rw[<-i9];exact hd),a5T (fun hm=>h (List.mem_cons_of_mem _ hm)) x,Option.map_map]
  rfl
theorem a08{p s r:List UInt8}(h:m9 p s=some r):s.length=p.length+r.length:=by rw[I6 h,e8]
theorem b54:∀(m:Nat) (s:List UInt8) (l:List Int) (x:List UInt8),x.length<=m->s=y9 l++x->nmL l=true->∃l' x',Run s l' x':=fun m=>by
 induction m with
 |zero =>
  intro s l x hm he hn;refine⟨l,x,he,hn,fun r z hr hx => ?_⟩;have hp:=P7 r;have hl:=congrArg List.length hx;rw[e8]at hl;omega
 |succ m ih =>
  intro s l x hm he hn;by_cases h:∃r z,R7 r=true/\x=C3 r++z/\a3M l r=true
  ·obtain⟨r,z,hr,hx,hg⟩:=h
   have hp:=P7 r;have hl:=congrArg List.length hx;rw[e8]at hl;exact ih s (l++[r]) z (by omega) (by rw[K7,he,hx,List.append_assoc];simp[y9]) (by rw[a6C,hn,hg];rfl)
  ·refine⟨l,x,he,hn,fun r z hr hx => ?_⟩
   cases hg:a3M l r with
   |false=>rfl
   |true=>exact absurd ⟨r,z,hr,hx,hg⟩ h
theorem a2e(s:List UInt8):∃l x,Run s l x:=b54 s.length s [] s (c9 _) rfl rfl
def Off(c:UInt8):Prop:=c.toNat<128/\Z9 (c.toNat:Int)=false
theorem a5G{c:UInt8}(h:Off c){l:List Int}(hl:nmL l=true):c∉y9 l:=fun hc=>by
 simp only[y9,List.mem_flatMap]at hc;obtain⟨r,hr,hc⟩:=hc;have hs:=a88 hl r hr;obtain⟨_,e⟩:=a63 (a8E hs) hc h.1;rw[e,h.2]at hs;cases hs
theorem b0z:∀c∈y8,Off c:=fun c hc=>by
 simp only[y8,q8,C5,or_false]at hc;rcases hc with rfl|rfl|rfl|rfl|rfl|rfl<;>exact⟨by decide,by decide⟩
theorem b4w:∀c∈([32,9,10] : List UInt8),Off c:=fun c hc=>by
 simp only[q8,C5,or_false]at hc;rcases hc with rfl|rfl|rfl<;>exact⟨by decide,by decide⟩
theorem a2y{e a:List UInt8}(h:∀c∈a,c∉e)(x:List UInt8):G9 e (a++x)=a++G9 e x/\J9 e (a++x)=J9 e x:=by
 have h1:∀c∈a,(!e.contains c)=true:=fun c hc=>by simpa using h c hc
 exact⟨List.takeWhile_append_of_pos h1,List.dropWhile_append_of_pos h1⟩
theorem a26(e s:List UInt8):G9 e s++J9 e s=s:=List.takeWhile_append_dropWhile
theorem b5G{e s:List UInt8}{c:UInt8}(h:c∈G9 e s):c∉e:=by
 have:=List.all_takeWhile (p:=fun c => !e.contains c) (l:=s);rw[o9]at this;simpa using this c h
theorem b52{e s x:List UInt8}{n:List Int}(he:∀c∈e,Off c)(h:Run s n x):G9 e s=y9 n++G9 e x/\J9 e s=J9 e x/\Run (G9 e s) n (G9 e x):=by
 have D0:∀c∈y9 n,c∉e:=fun c hc D1=>a5G (he c D1) h.ok hc;obtain⟨h1,h2⟩:=a2y D0 x;rw[<-h.eq]at h1 h2;refine⟨h1,h2,h1,h.ok,fun r z hr hz=>h.stop r (z++J9 e x) hr ?_⟩;rw[<-List.append_assoc,<-hz,a26]
theorem a5J{s:Rf}(h:s.bad=true):(O5 s).bad=true:=a1G h _
theorem a9l{s:Rf}(h:s.bad=true):(K8 s).2.bad=true:=by
 unfold K8
 split
 ·exact a5J (a5J h)
 ·exact a5J h
theorem b0W{s:Rf}(h:(O5 s).bad=true):(K8 s).2.bad=true:=by
 unfold K8
 split
 ·exact a5J h
 ·exact h
theorem a6H{s:Rf}{n:List Int}{x:List UInt8}(h:Run s.rest n x)(hn:n≠[]):O5 s=s.to x/\a1H s=y9 n:=by
 have e:=a4f h
 have hd:s.rest.drop (a7o s.rest).length=x:=by
  rw[e]
  conv=>lhs;rw[h.eq]
  rw[List.drop_left]
 refine⟨?_,e⟩;unfold O5;rw[hd,f8 (by rw[e];exact fun h0=>hn (a44 h0)),T0]
theorem a39{s:Rf}{x:List UInt8}(h:Run s.rest [] x):(O5 s).bad=true:=by
 have e:=a4f h;unfold O5;rw[i6 (by rw[e];rfl),a6y];rfl
theorem a6V(s:Rf):(∀p l,M4 (G9 y8 s.rest)=some (p,l)->K8 s=((p,l),s.to (J9 y8 s.rest))) /\
 (M4 (G9 y8 s.rest)=none->(K8 s).2.bad=true∨∃c z,(K8 s).2.rest=c::z/\c∈s.rest/\c∉y8):=by
 obtain⟨n,x,hr⟩:=a2e s.rest;obtain⟨h1,h2,hT⟩:=b52 b0z hr
 have D0:∀p l,M4 (G9 y8 s.rest)=some (p,l)↔a3x (G9 y8 s.rest) p l:=fun p l=>by
  constructor
  ·intro h
   unfold M4 at h
   split at h
   ·next hx =>
    simp only[f5]at h;have:=hx.choose_spec;rw[h]at this;exact this
   ·cases h
  ·exact Y8
 have E2:∀{p l},a3x (G9 y8 s.rest) p l->M4 (G9 y8 s.rest)=none->False:=fun h h0=>by
  rw[Y8 h]at h0;cases h0
 have D1:∀c,c∈x->c∈s.rest:=fun c hc=>by rw[hr.eq];exact List.mem_append_right _ hc
 by_cases hn:n=[]
 ·subst hn
  have hb:=a39 hr;refine⟨fun p l h => ?_,fun _ => .inl (b0W hb)⟩;exact absurd rfl ((hT.full p l).1 ((D0 p l).1 h)).1
 obtain⟨e1,e2⟩:=a6H hr hn;cases hx:x with
 |nil =>
  rw[hx]at hT h1 h2 e1;have hc:m9 [58] (O5 s).rest=none:=by rw[e1];exact a1U _ _
  have hf:K8 s=(([],a1H s),O5 s):=by unfold K8;rw[hc]
  refine⟨fun p l h => ?_,fun h => ?_⟩
  ·rcases((hT.full p l).1 ((D0 p l).1 h)).2 with⟨_,hp,hl⟩|⟨b,hb,_⟩
   ·rw[hf,e2,e1,hp,hl,h2,h1];simp[G9,J9]
   ·simp[G9]at hb
  ·exact(E2 ((hT.full [] _).2 ⟨hn,.inl ⟨rfl,rfl,rfl⟩⟩) h).elim
 |cons c z =>
  rw[hx]at hT h1 h2 e1 D1;by_cases hc:c=58
  ·subst hc
   have hu:G9 y8 (58::z)=58::G9 y8 z:=by unfold G9;rw[List.takeWhile_cons_of_pos (by decide)]
   have E3:J9 y8 (58::z)=J9 y8 z:=by unfold J9;rw[List.dropWhile_cons_of_pos (by decide)]
   rw[hu]at hT h1;rw[E3]at h2;have hp:m9 [58] (O5 s).rest=some z:=by rw[e1];exact a29 _ _
   have hf:K8 s=((a1H s,a1H ((O5 s).to z)),O5 ((O5 s).to z)):=by unfold K8;rw[hp]
   obtain⟨n2,x2,E0⟩:=a2e z;obtain⟨k1,k2,D3⟩:=b52 b0z E0;by_cases E4:n2=[]
   ·subst E4
    have hb:=a39 (s:=(O5 s).to z) E0;refine⟨fun p l h => ?_,fun _ => .inl (by rw[hf];exact hb)⟩
    rcases((hT.full p l).1 ((D0 p l).1 h)).2 with⟨h0,_⟩|⟨b,hb,D2,_⟩
    ·cases h0
    ·injection hb with _ hb
     rw[<-hb]at D2;exact absurd rfl (D3.is.1 D2).1
   obtain⟨f1,f2⟩:=a6H (s:=(O5 s).to z) E0 E4;cases D9:G9 y8 x2 with
   |nil =>
    rw[D9]at D3 k1;refine⟨fun p l h => ?_,fun h => ?_⟩
    ·rcases((hT.full p l).1 ((D0 p l).1 h)).2 with⟨h0,_⟩|⟨b,hb,D2,hp,hl⟩
     ·cases h0
     ·injection hb with _ hb
      have E5:x2=J9 y8 s.rest:=by
       rw[h2,k2];have:=a26 y8 x2;rw[D9]at this;exact this.symm
      rw[hf,e2,f2,f1,hp,hl,<-hb,k1,A7,<-E5,e1];rfl
    ·exact(E2 ((hT.full (y9 n) (G9 y8 z)).2 ⟨hn,.inr ⟨_,rfl,D3.is.2 ⟨E4,rfl⟩,rfl,rfl⟩⟩) h).elim
   |cons c2 z2 =>
    rw[D9]at D3;refine⟨fun p l h => ?_,fun _ => .inr ?_⟩
    ·rcases((hT.full p l).1 ((D0 p l).1 h)).2 with⟨h0,_⟩|⟨b,hb,D2,_⟩
     ·cases h0
     ·injection hb with _ hb
      rw[<-hb]at D2;exact absurd (D3.is.1 D2).2 (by simp)
    ·have hj:=a26 y8 x2
     rw[D9,i9]at hj;refine⟨c2,z2++J9 y8 x2,by rw[hf,f1];exact hj.symm,D1 _ (List.mem_cons_of_mem _ ?_),b5G (by rw[D9];exact List.mem_cons_self)⟩
     rw[E0.eq,<-hj];simp
  ·have hp:m9 [58] (O5 s).rest=none:=by rw[e1];exact a0K (Ne.symm hc) _
   have hf:K8 s=(([],a1H s),O5 s):=by unfold K8;rw[hp]
   by_cases E1:c∈y8
   ·have hu:G9 y8 (c::z)=[]:=by unfold G9;rw[List.takeWhile_cons_of_neg (by simpa using E1)]
    have E3:J9 y8 (c::z)=c::z:=by unfold J9;rw[List.dropWhile_cons_of_neg (by simpa using E1)]
    rw[hu]at hT h1;rw[E3]at h2;refine⟨fun p l h => ?_,fun h => ?_⟩
    ·rcases((hT.full p l).1 ((D0 p l).1 h)).2 with⟨_,hp,hl⟩|⟨b,hb,_⟩
     ·rw[hf,e2,e1,hp,hl,h2,h1,A7]
     ·cases hb
    ·exact(E2 ((hT.full [] _).2 ⟨hn,.inl ⟨rfl,rfl,rfl⟩⟩) h).elim
   ·have hu:G9 y8 (c::z)=c::G9 y8 z:=by unfold G9;rw[List.takeWhile_cons_of_pos (by simpa using E1)]
    rw[hu]at hT;refine⟨fun p l h => ?_,fun _ => .inr ⟨c,z,by rw[hf,e1];rfl,D1 _ List.mem_cons_self,E1⟩⟩
    rcases((hT.full p l).1 ((D0 p l).1 h)).2 with⟨h0,_⟩|⟨b,hb,_⟩
    ·cases h0
    ·injection hb with hb _
     exact absurd hb hc
theorem a6E{st st':Rd}{fr:List Po}{o:Po}(ho:st.op=fr++[o])(hr:st.rest≠[])(hn:L0 st fr o=some st'):st'.rest.length<st.rest.length:=by
 have go:∀{m:Nat} {r:List UInt8},st.rest.length=m+r.length->1<=m->a4I { st with rest:=r } st' 1->st'.rest.length<st.rest.length:=fun {m r} hl hm hg=>by
  have hr:=hg.r;dsimp only at hr;omega
 unfold L0 at hn;cases h1:m9 [60,33,45,45] st.rest with
 |some r=>rw[h1]at hn;exact go (I7 h1) (by simp) (a8m hn)
 |none =>
 rw[h1]at hn;dsimp only at hn;cases h2:m9 [60,33,91,67,68,65,84,65,91] st.rest with
 |some r=>rw[h2]at hn;exact go (I7 h2) (by simp) (a8k hn)
 |none =>
 rw[h2]at hn;dsimp only at hn;cases h3:m9 [60,63] st.rest with
 |some r=>rw[h3]at hn;exact go (I7 h3) (by simp) (a7Z hn)
 |none =>
 rw[h3]at hn;dsimp only at hn;cases h4:m9 [60,47] st.rest with
 |some r=>rw[h4]at hn;exact go (I7 h4) (by simp) (a60 (st:={ st with rest:=r }) ho hn)
 |none =>
 rw[h4]at hn;dsimp only at hn;cases h5:m9 [60] st.rest with
 |some r=>rw[h5]at hn;exact go (I7 h5) (by simp) (a7F hn)
 |none =>
 rw[h5]at hn;dsimp only at hn;obtain⟨hg,he⟩:=a7P hn;rw[he];cases hs:st.rest with
 |nil=>exact absurd hs hr
 |cons c s =>
  rw[hs]at h5
  have hc:c≠60:=by
   rintro rfl;simp[m9,List.isPrefixOf]at h5
  have hw:J9 [60] (c::s)=J9 [60] s:=by
   unfold J9;rw[List.dropWhile_cons_of_pos (by simp;exact hc)]
  rw[hw];have:=a0R [60] s;rw[i8];omega
theorem a4p(st:Rd)(o:Po):st.ns <+: (Q1 st o).ns:=F8 _ _
theorem a4G(st:Rd)(o:Po)(x:Nd):st.ns <+: (a1o st o x).ns:=(a4p st o).trans (F8 _ _)
theorem a95(full:List UInt8)(o:Po):∀(n:Nat) (st st':Rd) (x:Nd),a2A full o n st x=some st'->st.ns <+: st'.ns
 |0,st,st',x,h=>by cases h
 |n+1,st,st',x,h=>by
  rw[a2A]at h;cases h1:m9 [62] (n8 st.rest)with
  |some r =>
   rw[h1]at h;simp only[f5]at h;subst h;exact a4G { st with rest:=r,ds:=st.ds++x.ds } o _
  |none =>
   rw[h1]at h;dsimp only at h;cases h2:m9 [47,62] (n8 st.rest)with
   |some r =>
    rw[h2]at h;simp only[f5]at h;subst h;exact(a4G { st with rest:=r,ds:=st.ds++x.ds } o _).trans (a4p _ _)
   |none =>
    rw[h2]at h;dsimp only at h
    split at h
    ·cases hm:T5 (n8 st.rest) x with
     |none=>rw[hm]at h;cases h
     |some q =>
      obtain⟨r,x'⟩:=q;rw[hm]at h;exact a95 full o n { st with rest:=r } st' x' h
    ·cases h
theorem b6t{st st':Rd}{fr:List Po}{o:Po}(hn:L0 st fr o=some st'):st.ns <+: st'.ns:=by
 unfold L0 at hn;cases h1:m9 [60,33,45,45] st.rest with
 |some r =>
  rw[h1]at hn;dsimp only[a3R]at hn
  split at hn
  ·cases hn
  ·simp only[f5]at hn
   subst hn;exact a4G _ _ _
 |none =>
 rw[h1]at hn;dsimp only at hn;cases h2:m9 [60,33,91,67,68,65,84,65,91] st.rest with
 |some r =>
  rw[h2]at hn;dsimp only[a4w]at hn
  split at hn
  ·cases hn
  ·split at hn
   ·cases hn
   ·simp only[f5]at hn
    subst hn;exact List.prefix_refl _
 |none =>
 rw[h2]at hn;dsimp only at hn;cases h3:m9 [60,63] st.rest with
 |some r =>
  rw[h3]at hn;dsimp only[a2v]at hn
  split at hn
  ·cases hn
  ·simp only[f5]at hn
   subst hn;exact a4G _ _ _
 |none =>
 rw[h3]at hn;dsimp only at hn;cases h4:m9 [60,47] st.rest with
 |some r =>
  rw[h4]at hn;dsimp only[Z8]at hn
  split at hn
  ·cases hn
  ·split at hn
   ·cases hn
   ·split at hn
    ·cases hn
    ·simp only[f5]at hn
     subst hn;exact a4p _ _
 |none =>
 rw[h4]at hn;dsimp only at hn;cases h5:m9 [60] st.rest with
 |some r =>
  rw[h5]at hn;dsimp only[a1Q]at hn
  split at hn
  ·cases hn
  ·exact a95 _ _ _ { st with rest:=J9 y8 r } st' _ hn
 |none =>
 rw[h5]at hn;dsimp only[a3t]at hn
 split at hn
 ·split at hn
  ·simp only[f5]at hn
   subst hn;exact List.prefix_refl _
  ·cases hn
 ·split at hn
  ·cases hn
  ·simp only[f5]at hn
   subst hn;exact List.prefix_refl _
theorem a7M:∀(n m:Nat) (st:Rd),st.rest.length<n->st.rest.length<m->Q7 n st=Q7 m st
 |0,_,_,h,_=>by omega
 |_,0,_,_,h=>by omega
 |n+1,m+1,st,h1,h2=>by
  rw[Q7,Q7];by_cases hr:st.rest=[]
  ·rw[g8 hr,g8 hr]
  ·rw[f6 hr,f6 hr]
   cases hl:st.op.getLast? with
   |none=>rfl
   |some o =>
    dsimp only
    have ho:st.op=st.op.dropLast++[o]:=by
     obtain⟨ys,e⟩:=List.getLast?_eq_some_iff.1 hl;rw[e];simp
    cases hn:L0 st st.op.dropLast o with
    |none=>rfl
    |some st' =>
     dsimp only;have:=a6E ho hr hn;exact a7M n m st' (by omega) (by omega)
noncomputable def X6(st:Rd):Option (List Nd):=Q7 (st.rest.length+1) st
theorem b93{n:Nat}{st:Rd}(h:st.rest.length<n):Q7 n st=X6 st:=a7M _ _ _ h (Nat.lt_succ_self _)
theorem b0w{st:Rd}{fr:List Po}{o:Po}(ho:st.op=fr++[o]):st.op.getLast? = some o/\st.op.dropLast=fr:=by rw[ho];simp
theorem U8{st st':Rd}{fr:List Po}{o:Po}(ho:st.op=fr++[o])(hr:st.rest≠[])(hn:L0 st fr o=some st'):X6 st=X6 st':=by
 obtain⟨h1,h2⟩:=b0w ho;unfold X6;rw[Q7,f6 hr,h1,h2];dsimp only;rw[hn];exact b93 (a6E ho hr hn)
theorem R3{st:Rd}{fr:List Po}{o:Po}(ho:st.op=fr++[o])(hr:st.rest≠[])(hn:L0 st fr o=none):X6 st=none:=by
 obtain⟨h1,h2⟩:=b0w ho;unfold X6;rw[Q7,f6 hr,h1,h2];dsimp only;rw[hn]
theorem a8X{st:Rd}(hr:st.rest=[]):X6 st=if st.op.length=1 then some st.ns else none:=by
 unfold X6;rw[Q7,g8 hr]
theorem b0p:∀(n:Nat) (st:Rd) (l:List Nd),Q7 n st=some l->st.ns <+: l
 |0,st,l,h=>by cases h
 |n+1,st,l,h=>by
  rw[Q7]at h
  split at h
  ·split at h
   ·simp only[f5]at h
    subst h;exact List.prefix_refl _
   ·cases h
  ·split at h
   ·cases h
   ·next o hl =>
    split at h
    ·cases h
    ·next st' hn=>exact(b6t hn).trans (b0p n st' l h)
theorem b3d{st:Rd}{l:List Nd}(h:X6 st=some l):st.ns <+: l:=b0p _ _ _ h
def a2Y(ns:List Nd):Prop:=∃(i:Nat) (x:Nd),1<=i/\ns[i]? = some x/\N0 x=false
theorem a9H{ns l:List Nd}{i:Nat}{x:Nd}(hp:ns <+: l)(h:ns[i]? = some x):l[i]? = some x:=by
 obtain⟨t,rfl⟩:=hp;rw[List.getElem?_append_left (z8.1 h).1];exact h
theorem a9E{ns l:List Nd}(hp:ns <+: l)(h:a2Y ns):a2Y l:=by
 obtain⟨i,x,h1,h2,h3⟩:=h;exact⟨i,x,h1,a9H hp h2,h3⟩
theorem a17{ns:List Nd}{x:Nd}(h0:ns≠[])(h:N0 x=false):a2Y (ns++[x]):=⟨ns.length,x,D7.2 h0,by simp,h⟩
theorem a7f{l:List Nd}(h:a2Y l):K6 l=false:=by
 obtain⟨i,x,h1,h2,h3⟩:=h;cases l with
 |nil=>simp at h2
 |cons y r =>
  obtain⟨j,rfl⟩ : ∃j,i=j+1:=⟨i-1,by omega⟩
  rw[C7]at h2;have hm:=List.mem_of_getElem? h2
  have:r.all N0=false:=by
   rw[List.all_eq_false];exact⟨x,hm,by simp[h3]⟩
  show(S9 y&&(N3 (y::r)&&(r.all N0&&X3 (y::r))))=false
  rw[this];simp
def a5B(st:Rd):Prop:=∀l,X6 st=some l->K6 l=false
theorem M7{st st':Rd}(h:X6 st=X6 st')(hd:a5B st'):a5B st:=fun l hl=>hd l (h ▸ hl)
theorem N9{st:Rd}(h:X6 st=none):a5B st:=fun l hl=>by rw[h]at hl;cases hl
theorem a4u{st:Rd}(h:a2Y st.ns):a5B st:=fun l hl=>a7f (a9E (b3d hl) h)
def a2x(s:Rf):Prop:=s.bad=true∨a2Y s.ns
def L6(s s':Rf):Prop:=(s.bad=true->s'.bad=true)/\s.ns <+: s'.ns/\s'.rest <:+ s.rest
theorem L6.refl(s:Rf):L6 s s:=⟨id,List.prefix_refl _,List.suffix_refl _⟩
theorem L6.trans{a b c:Rf}(h:L6 a b)(h':L6 b c):L6 a c:=⟨fun e=>h'.1 (h.1 e),h.2.1.trans h'.2.1,h'.2.2.trans h.2.2⟩
theorem L6.mem{a b:Rf}(h:L6 a b){c:UInt8}(hc:c∉a.rest):c∉b.rest:=fun hm=>hc (h.2.2.subset hm)
theorem L6.len{a b:Rf}(h:L6 a b):b.rest.length<=a.rest.length:=h.2.2.length_le
theorem a2x.mono{a b:Rf}(h:a2x a)(hm:L6 a b):a2x b:=by
 rcases h with h|h
 ·exact .inl (hm.1 h)
 ·exact .inr (a9E hm.2.1 h)
theorem V1{p s r:List UInt8}(h:m9 p s=some r):r <:+ s:=⟨p,(I6 h).symm⟩
theorem b3N{p s q r:List UInt8}(h:K5 p s=some (q,r)):r <:+ s:=by
 obtain⟨n,_,_,_,rfl⟩:=a1a h;exact List.drop_suffix _ _
theorem b3P(s:List UInt8):n8 s <:+ s:=List.dropWhile_suffix _
theorem b1O(e s:List UInt8):J9 e s <:+ s:=List.dropWhile_suffix _
theorem Y0(s:Rf){r:List UInt8}(h:r <:+ s.rest):L6 s (s.to r):=⟨id,List.prefix_refl _,h⟩
theorem a0j(s:Rf)(b:Bool):L6 s (s.or b):=⟨fun h=>a1G h b,List.prefix_refl _,List.suffix_refl _⟩
theorem a3d(s:Rf):L6 s s.fail:=⟨fun _=>rfl,List.prefix_refl _,List.suffix_refl _⟩
theorem a0k(s:Rf)(x:Nd):L6 s (s.add x):=⟨id,F8 _ _,List.suffix_refl _⟩
theorem G8(p:List UInt8)(s:Rf):L6 s (D0 p s):=by
 unfold D0;split
 ·next r h=>exact Y0 _ (V1 h)
 ·exact a3d _
theorem V7(p:List UInt8)(s:Rf):L6 s (J3 p s).2:=by
 unfold J3;split
 ·next q r h=>exact Y0 _ (b3N h)
 ·exact a3d _
theorem I8(s:Rf):L6 s (C8 s):=Y0 _ (b3P _)
theorem a1g(s:Rf):L6 s (O5 s):=(Y0 _ (List.drop_suffix _ _)).trans (a0j _ _)
theorem X7(s:Rf):L6 s (K8 s).2:=by
 unfold K8;split
 ·next r h=>exact(a1g s).trans ((Y0 _ (V1 h)).trans (a1g _))
 ·exact a1g s
theorem a4X(s:Rf):L6 (D0 [61] (C8 s)) (M1 s).2:=by
 have h:L6 (D0 [61] (C8 s)) (C8 (D0 [61] (C8 s))):=I8 _;unfold M1;split
 ·next r hr=>exact h.trans ((Y0 _ (V1 hr)).trans (V7 _ _))
 ·split
  ·next r hr=>exact h.trans ((Y0 _ (V1 hr)).trans (V7 _ _))
  ·exact h.trans (a3d _)
theorem a6I(s:Rf):L6 s (M1 s).2:=(I8 s).trans ((G8 _ _).trans (a4X s))
theorem a1X(key:List UInt8)(s:Rf):L6 s (Q0 key s).2:=by
 unfold Q0;split
 ·exact L6.refl _
 ·exact(I8 s).trans ((G8 _ _).trans (a6I _))
theorem a4b(s:Rf):L6 s (a04 s):=by
 unfold a04;split
 ·exact(G8 _ s).trans (((a1X _ _).trans (a0j _ _)).trans (((a1X _ _).trans (a0j _ _)).trans (((a1X _ _).trans (a0j _ _)).trans ((I8 _).trans (G8 _ _)))))
 ·exact L6.refl _
theorem a4c(n:Int)(s:Rf):L6 s (a0d n s):=(G8 _ s).trans ((V7 _ _).trans (a0k _ _))
theorem a3c(s:Rf):L6 s (a0v s):=by
 unfold a0v;split
 ·exact L6.refl _
 ·exact(I8 s).trans (a0j _ _)
theorem a4a(n:Int)(s:Rf):L6 s (W5 n s):=(G8 _ s).trans ((a1g _).trans ((a3c _).trans ((V7 _ _).trans (a0k _ _))))
theorem X8:∀(k:Nat) (s:Rf),L6 s (a1t k s)
 |0,s=>L6.refl _
 |k+1,s=>by
  rw[a1t];split
  ·exact L6.refl _
  ·split
   ·exact(I8 s).trans ((a4c _ _).trans (X8 k _))
   ·split
    ·exact(I8 s).trans ((a4a _ _).trans (X8 k _))
    ·exact I8 s
theorem a3b(s:Rf):L6 s (a4Y s):=(X7 s).trans ((a6I _).trans (a0j _ _))
theorem a1h:∀(k:Nat) (s:Rf) (x:Nd),L6 s (Y4 k s x).1
 |0,s,x=>L6.refl _
 |k+1,s,x=>by
  rw[Y4];split
  ·exact L6.refl _
  ·split
   ·exact I8 s
   ·split
    ·exact(I8 s).trans (a3d _)
    ·exact(I8 s).trans ((a3b _).trans (a1h k _ _))
theorem a0i(n:Int)(t:List UInt8)(s:Rf):L6 s (J2 n t s):=by
 unfold J2;split
 ·exact L6.refl _
 ·exact a0k _ _
theorem Z6{E:Int->Rf->Rf}(hE:∀n s,L6 s (E n s)):∀(k:Nat) (n:Int) (t:List UInt8) (s:Rf),L6 s (M6 E k n t s)
 |0,n,t,s=>a0i n t s
 |k+1,n,t,s=>by
  rw[M6];split
  ·exact a0i n t s
  ·split
   ·exact(G8 _ s).trans ((V7 _ _).trans (Z6 hE k _ _ _))
   ·split
    ·exact(Y0 s (b1O _ _)).trans ((a0j _ _).trans (Z6 hE k _ _ _))
    ·split
     ·exact(a0i n t s).trans ((a4c _ _).trans (Z6 hE k _ _ _))
     ·split
      ·exact(a0i n t s).trans ((a4a _ _).trans (Z6 hE k _ _ _))
      ·exact(a0i n t s).trans ((hE _ _).trans (Z6 hE k _ _ _))
theorem a3e(n:Int)(s:Rf):L6 s (F6 n s).1:=(G8 _ s).trans ((X7 _).trans (a1h _ _ _))
theorem a3f(pl:List UInt8×List UInt8)(s:Rf):L6 s (a9s pl s):=(G8 _ s).trans ((X7 _).trans ((I8 _).trans ((G8 _ _).trans (a0j _ _))))
theorem a1i:∀(f:Nat) (n:Int) (s:Rf),L6 s (M0 f n s)
 |0,n,s=>L6.refl _
 |f+1,n,s=>by
  have hM:=a3e n s;rw[M0];split
  ·exact hM.trans (a0k _ _)
  ·split
   ·exact hM.trans ((a0k _ _).trans (G8 _ _))
   ·exact hM.trans ((a0k _ _).trans ((G8 _ _).trans ((Z6 (a1i f) _ _ _ _).trans (a3f _ _))))
end Go.Proofs.YteinegfbpfhflaaGreatDoor
