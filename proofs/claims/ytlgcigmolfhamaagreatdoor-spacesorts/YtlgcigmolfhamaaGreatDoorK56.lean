/-
  A text of ASCII: its document, reckoned by what the kernel reckons. Plain mathematics. Conditions: none.
  A row of bytes that a text has become. Conditions: none.
-/
import Derived.Test.YtlgcigmolfhamaaGreatDoorK37
namespace Go.Proofs.YtlgcigmolfhamaaGreatDoor
open Go.RowKit
set_option linter.unusedVariables false
set_option maxRecDepth 100000
theorem b3J{p:Prop}{d:Decidable p}(h:p):@decide p d=true:=i6 h
def a6Q(s:List UInt8):List Int:=s.map fun c=>(c.toNat:Int)
def b9k(s:List UInt8):Bool:=s.all fun c=>decide (c.toNat<128)
theorem a61:∀{s:List UInt8},b9k s=true->y9 (a6Q s)=s
 | [],_=>rfl
 |c::s,h=>by
  simp only[b9k,List.all_cons,i4,t8]at h
  show C3 (c.toNat:Int)++y9 (a6Q s)=_
  rw[a62 h.1,a61 (s:=s) h.2];rfl
def nmA(s:List UInt8):Bool:=b9k s&&(!s.isEmpty&&nmL (a6Q s))
theorem a9a{s:List UInt8}(h:nmA s=true):nm s:=by
 simp only[nmA,i4]at h;refine⟨a6Q s,fun e => ?_,h.2.2,(a61 h.1).symm⟩;have:s=[]:=by simpa [a6Q]using e
 rw[this]at h;simp at h
def txA(s:List UInt8):Bool:=b9k s&&(a6Q s).all P9
theorem a5E{s:List UInt8}(h:txA s=true):txt s:=by
 simp only[txA,i4]at h;exact⟨a6Q s,o9.2 fun r hr=>a3C (o9.1 h.2 r hr),h.2,(a61 h.1).symm⟩
def b2u:List UInt8->List UInt8->Bool
 | [],t=>t.isEmpty
 |c::s,t=>t.isPrefixOf (c::s)||b2u s t
theorem a9h:∀{s t:List UInt8},Ins s t->b2u s t=true
 | [],t,⟨a,b,e⟩=>by
  have:=congrArg List.length e;simp only[t7,e8]at this;have ht:t=[]:=j8 (by omega)
  rw[ht];rfl
 |c::s,t,h=>by
  rw[b2u,Bool.or_eq_true];rcases b0R.1 h with h|h
  ·exact .inl h
  ·exact .inr (a9h h)
theorem b0T{s t:List UInt8}(h:b2u s t=false):a0V s t=false:=by
 cases hb:a0V s t with
 |false=>rfl
 |true=>rw[a9h (a6R.1 hb)]at h;cases h
def b7j(s:List UInt8):Option (List UInt8):=if(txA s && !b2u s [93,93,62])=true then M9 false s else none
theorem b9e{s y:List UInt8}(h:b7j s=some y):J7 s=some y:=by
 unfold b7j at h
 split at h
 ·next h1 =>
  simp only[i4,Bool.not_eq_true']at h1;unfold J7;rw[g8 ⟨a5E h1.1,fun he=>by have:=a9h (t:=[93,93,62]) he;rw[h1.2]at this;cases this⟩];exact h
 ·cases h
def b9I(s:List UInt8):Option (List UInt8):=if txA s=true then M9 true s else none
theorem b9H{s y:List UInt8}(h:b9I s=some y):X5 s=some y:=by
 unfold b9I at h
 split at h
 ·next h1=>unfold X5;rw[g8 (a5E h1)];exact h
 ·cases h
theorem b3H:∀{s:List UInt8} {c:UInt8} {l:List UInt8},s.dropWhile (fun x => !(x==58))=c::l->c=58
 | [],c,l,h=>by cases h
 |x::s,c,l,h=>by
  rw[List.dropWhile_cons]at h
  split at h
  ·exact b3H h
  ·next hx=>cases h;simpa using hx
def a8F(s:List UInt8):Option (List UInt8×List UInt8):=if nmA s=true then some ([],s)else
 match s.dropWhile (fun x => !(x==58))with
 | []=>none
 |_::l=>if(nmA (s.takeWhile (fun x => !(x==58)))&&nmA l)=true then some (s.takeWhile (fun x => !(x==58)),l)else none
theorem b0b{s p l:List UInt8}(h:a8F s=some (p,l)):M4 s=some (p,l):=by
 unfold a8F at h
 split at h
 ·next h1=>cases h;exact Y8 (.inl ⟨rfl,rfl,a9a h1⟩)
 ·split at h
  ·cases h
  ·next c l' he =>
   split at h
   ·next h2 =>
    simp only[i4]at h2;cases h;refine Y8 (.inr ⟨a9a h2.1,a9a h2.2,?_⟩);have h3:=List.takeWhile_append_dropWhile (p:=fun x => !(x==58)) (l:=s);rw[he,b3H he]at h3;exact h3.symm
   ·cases h
def b6D(s:List UInt8)(x:Nd):Option (List UInt8×Nd) :=
 match a8F (G9 y8 s)with
 |none=>none
 |some (p,l)=>match V3 (J9 y8 s)with
  |none=>none
  |some r2=>match V0 r2 with
   |none=>none
   |some (q,r3)=>match b9I q with
    |none=>none
    |some v=>some (r3,V4 x p l (ba v))
theorem b8A{s:List UInt8}{x:Nd}{y:List UInt8×Nd}(h:b6D s x=some y):T5 s x=some y:=by
 unfold b6D at h
 split at h
 ·cases h
 ·next p l h1 =>
  rw[T5,b0b h1];dsimp only
  split at h
  ·cases h
  ·next r2 h2 =>
   rw[h2];dsimp only
   split at h
   ·cases h
   ·next q r3 h3 =>
    rw[h3];dsimp only
    split at h
    ·cases h
    ·next v h4=>rw[b9H h4];exact h
noncomputable def b25(full:List UInt8)(o:Po):Nat->Rd->Nd->Option Rd
 |0,_,_=>none
 |n+1,st,x =>
  match m9 [62] (n8 st.rest)with
  |some r=>some (a1s { st with rest:=r } o x full)
  |none=>match m9 [47,62] (n8 st.rest)with
   |some r=>some (a5z (a1s { st with rest:=r } o x full) st.op ⟨(Q1 { st with ds:=st.ds++x.ds } o).ns.length,full,st.ds.length⟩)
   |none=>if(n8 st.rest).length<st.rest.length then
    match b6D (n8 st.rest) x with
    |some (r,x')=>b25 full o n { st with rest:=r } x'
    |none=>none
    else none
theorem b24{full:List UInt8}{o:Po}{y:Rd}:∀{n:Nat} {st:Rd} {x:Nd},b25 full o n st x=some y->a2A full o n st x=some y
 |0,st,x,h=>by cases h
 |n+1,st,x,h=>by
  rw[b25]at h;rw[a2A]
  split at h
  ·next r h1=>rw[h1];exact h
  ·next h1 =>
   rw[h1];dsimp only
   split at h
   ·next r h2=>rw[h2];exact h
   ·next h2 =>
    rw[h2];dsimp only
    split at h
    ·next h3 =>
     rw[g8 h3]
     split at h
     ·next r x' h4=>rw[b8A h4];exact b24 h
     ·cases h
    ·cases h
noncomputable def b9L(st:Rd)(o:Po):Option Rd :=
 match a8F (G9 y8 st.rest)with
 |none=>none
 |some (p,l)=>b25 (G9 y8 st.rest) o ((J9 y8 st.rest).length+1) { st with rest:=J9 y8 st.rest } ⟨1,0,ba p,ba l,⟨#[]⟩,⟨#[]⟩,[],[]⟩
theorem b9K{st:Rd}{o:Po}{y:Rd}(h:b9L st o=some y):a1Q st o=some y:=by
 unfold b9L at h
 split at h
 ·cases h
 ·next p l h1=>rw[a1Q,b0b h1];exact b24 h
def b91(st:Rd):Option Rd :=
 if st.op.length=1 then(if a1O (G9 [60] st.rest)=[]then some { st with rest:=J9 [60] st.rest } else none)
 else match b7j (G9 [60] st.rest)with
  |none=>none
  |some y=>some { st with rest:=J9 [60] st.rest,tx:=st.tx++y }
theorem b90{st y:Rd}(h:b91 st=some y):a3t st=some y:=by
 unfold b91 at h;unfold a3t
 split at h
 ·next h1=>rw[g8 h1];exact h
 ·next h1 =>
  rw[f6 h1]
  split at h
  ·cases h
  ·next z h2=>rw[b9e h2];exact h
noncomputable def b6v(st:Rd)(fr:List Po)(o:Po):Option Rd :=
 match m9 [60,33,45,45] st.rest with
 |some r=>a3R { st with rest:=r } o
 |none=>match m9 [60,33,91,67,68,65,84,65,91] st.rest with
  |some r=>a4w { st with rest:=r }
  |none=>match m9 [60,63] st.rest with
   |some r=>a2v { st with rest:=r } o
   |none=>match m9 [60,47] st.rest with
    |some r=>Z8 { st with rest:=r } fr o
    |none=>match m9 [60] st.rest with
     |some r=>b9L { st with rest:=r } o
     |none=>b91 st
theorem b8y{st y:Rd}{fr:List Po}{o:Po}(h:b6v st fr o=some y):L0 st fr o=some y:=by
 unfold b6v at h;unfold L0
 split at h
 ·next r h1=>rw[h1];exact h
 ·next h1 =>
  rw[h1];dsimp only
  split at h
  ·next r h2=>rw[h2];exact h
  ·next h2 =>
   rw[h2];dsimp only
   split at h
   ·next r h3=>rw[h3];exact h
   ·next h3 =>
    rw[h3];dsimp only
    split at h
    ·next r h4=>rw[h4];exact h
    ·next h4 =>
     rw[h4];dsimp only
     split at h
     ·next r h5=>rw[h5];exact b9K h
     ·next h5=>rw[h5];exact b90 h
noncomputable def b29:Nat->Rd->Option (List Nd)
 |0,_=>none
 |n+1,st=>if st.rest=[]then(if st.op.length=1 then some st.ns else none)else
  match st.op.getLast? with
  |none=>none
  |some o=>match b6v st st.op.dropLast o with
   |none=>none
   |some st'=>b29 n st'
theorem b28:∀{n:Nat} {st:Rd} {l:List Nd},b29 n st=some l->Q7 n st=some l
 |0,st,l,h=>by cases h
 |n+1,st,l,h=>by
  rw[b29]at h;rw[Q7]
  split at h
  ·next h1=>rw[g8 h1];exact h
  ·next h1 =>
   rw[f6 h1]
   split at h
   ·cases h
   ·next o h2 =>
    rw[h2];dsimp only
    split at h
    ·cases h
    ·next st' h3=>rw[b8y h3];exact b28 h
noncomputable def c0y(bs:List UInt8):Option (List Nd):=if txA bs=true then b29 ((L1 (C4 bs)).length+1) (rd0 (L1 (C4 bs)))else none
theorem c0x{bs:List UInt8}{l:List Nd}(h:c0y bs=some l):a2Q L1 bs=some l:=by
 unfold c0y at h
 split at h
 ·next h1=>rw[a2Q,g8 (U6.2 (a5E h1))];exact b28 h
 ·cases h
def chF(l:List Nd):Nat->Nat->List Nat
 |0,n => [n]
 |f+1,n=>n::(if 0<=pa l n/\(pa l n).toNat<n then chF l f (pa l n).toNat else[])
theorem a7a(l:List Nd):∀(f n:Nat),n<=f->chF l f n=T4 l n
 |0,n,h=>by
  obtain rfl:n=0:=by omega
  rw[a0N (by omega)];rfl
 |f+1,n,h=>by
  rw[chF];by_cases hp:0<=pa l n/\(pa l n).toNat<n
  ·rw[g8 hp,a0q hp,a7a l f _ (by omega)]
  ·rw[f6 hp,a0N hp]
def b94(l:List Nd)(i:Nat):Bool:=(decide (0<=pa l i)&&decide ((pa l i).toNat∈chF l i (i-1))&&(kd l (pa l i).toNat==0||kd l (pa l i).toNat==1))&&(!R8 l i&&(!(pa l i==0)||(kd l i==1||(kd l i==3||kd l i==4))))
theorem b8u(l:List Nd)(i:Nat):b94 l i=okP l i:=by
 unfold b94 okP S4;rw[a7a l i (i-1) (by omega)]
def b6c(l:List Nd):Bool:=(List.range l.length).all (fun i=>i==0||b94 l i)&&decide (S8 l l.length=1)
theorem b8r{l:List Nd}(h:b6c l=true):N3 l=true:=by
 simp only[b6c,i4,o9,List.mem_range,t8,Bool.or_eq_true,x8]at h;unfold N3;refine b3J ⟨fun i h1 h2 => ?_,h.2⟩;rcases h.1 i h2 with h3|h3
 ·omega
 ·rw[<-b8u];exact h3
def c0c(l:List Nd):Bool:=(List.range l.length).all fun j=>match l[j]? with|some x => !(x.k==1)||a2P ((chF l j j).flatMap fun m=>(dsA l m).reverse) x|none=>true
theorem c0b{l:List Nd}(h:c0c l=true):X3 l=true:=by
 simp only[c0c,o9,List.mem_range]at h;unfold X3;rw[t8];intro j hj;have h1:=h j hj;rw[a7a l j j (c9 _)]at h1;exact h1
def b4b(S:ByteArray):Bool:=txA S.data.toList
def b6o(S:ByteArray):Bool:=nmA S.data.toList
theorem a3V{S:ByteArray}(h:b4b S=true):tx S=true:=U6.2 (a5E h)
theorem a5I{S:ByteArray}(h:b6o S=true):nmS S=true:=a37 (a9a h)
def b0r(S:ByteArray):Bool:=N4 S []||b6o S
theorem a8S{S:ByteArray}(h:b0r S=true):a0g S=true:=by
 unfold b0r at h;unfold a0g;rw[Bool.or_eq_true]at h ⊢;rcases h with h|h
 ·exact .inl h
 ·exact .inr (a5I h)
def c0F(d:Dc):Bool:=b0r d.p&&(!N4 d.p L2&&(b4b d.u&&(!N4 d.u a4K&&(!(N4 d.u [] && !N4 d.p [])&&(N4 d.p a1K==N4 d.u a3T)))))
theorem c0E{d:Dc}(h:c0F d=true):T6 d=true:=by
 unfold c0F at h;unfold T6;rw[i4,i4,i4]at h ⊢;exact⟨a8S h.1,h.2.1,a3V h.2.2.1,h.2.2.2⟩
def c0K(a:At):Bool:=!(N4 a.p []&&N4 a.l L2)&&(b6o a.l&&(b0r a.p&&b4b a.v))
theorem c0J{a:At}(h:c0K a=true):a0y a=true:=by
 unfold c0K at h;unfold a0y;rw[i4,i4,i4]at h ⊢;exact⟨h.1,a5I h.2.1,a8S h.2.2.1,a3V h.2.2.2⟩
def b8w(L:List (List UInt8)):Bool:=decide L.Nodup
theorem b6n{α:Type}{L:List α}(f:α->List UInt8)(h:b8w (L.map f)=true):(!a0c (L.map fun x=>Lit.string (f x)))=true:=by
 unfold a0c b8w at *;rw[Bool.not_not];refine b3J ?_;have h1:=of_decide_eq_true h;unfold List.Nodup at h1 ⊢;rw[List.pairwise_iff_getElem]at h1 ⊢;intro i j hi hj D0 e;simp only[C9]at hi hj;refine h1 i j (by simpa using hi) (by simpa using hj) D0 ?_
 simp only[List.getElem_map]at e ⊢
 injection e
def b65(x:Nd):Bool:=b6o x.l&&(b0r x.p&&(N4 x.t []&&(x.ds.all c0F&&(x.ats.all c0K&&(b8w (x.ds.map fun d=>d.p.data.toList)&&b8w (x.ats.map fun a=>keyBytes [.string a.l.data.toList,.string a.u.data.toList]))))))
theorem b81{x:Nd}(h:b65 x=true):a1z x=true:=by
 unfold b65 at h;unfold a1z;simp only[i4]at h;obtain⟨h1,h2,h3,h4,h5,h6,h7⟩:=h;simp only[o9]at h4 h5;rw[i4,i4,i4,i4,i4,i4];exact⟨a5I h1,a8S h2,h3,o9.2 fun d hd=>c0E (h4 d hd),o9.2 fun a ha=>c0J (h5 a ha),b6n (fun d:Dc=>d.p.data.toList) h6,b6n (fun a:At=>keyBytes [.string a.l.data.toList,.string a.u.data.toList]) h7⟩
def b6m(x:Nd):Bool :=
 bif x.k==1 then b65 x else bif x.k==2 then Q8 x&&(N4 x.l []&&(!N4 x.t []&&b4b x.t))else bif x.k==3 then Q8 x&&(N4 x.l []&&(b4b x.t&&(!b2u x.t.data.toList [45,45] && !Lib.hasSuffix x.t.data.toList [45])))else
 bif x.k==4 then Q8 x&&((b6o x.l && !Lib.equalFold x.l.data.toList [120,109,108])&&(b4b x.t&&(!b2u x.t.data.toList [63,62]&&(N4 x.t [] || !fb x.t))))else false
theorem b8v{x:Nd}(h:b6m x=true):N0 x=true:=by
 unfold b6m at h;unfold N0;cases h1:x.k==1<;>rw[h1]at h
 ·cases h2:x.k==2<;>rw[h2]at h
  ·cases h3:x.k==3<;>rw[h3]at h
   ·cases h4:x.k==4<;>rw[h4]at h
    ·cases h
    ·simp only[cond_true,cond_false,i4,Bool.not_eq_true']at h ⊢
     unfold a6f b2d;rw[a5I h.2.1.1,h.2.1.2,a3V h.2.2.1,b0T h.2.2.2.1];exact⟨h.1,rfl,by simpa using h.2.2.2.2⟩
   ·simp only[cond_true,cond_false,i4,Bool.not_eq_true']at h ⊢
    unfold b2L;rw[a3V h.2.2.1,b0T h.2.2.2.1,h.2.2.2.2];exact⟨h.1,h.2.1,rfl⟩
  ·simp only[cond_true,cond_false,i4]at h ⊢
   exact⟨h.1,h.2.1,h.2.2.1,a3V h.2.2.2⟩
 ·exact b81 h
def b6Q:List Nd->Bool
 | []=>false
 |x::r=>S9 x&&(b6c (x::r)&&(r.all b6m&&c0c (x::r)))
theorem b8P:∀{l:List Nd},b6Q l=true->K6 l=true
 |x::r,h=>by
  rw[b6Q]at h;rw[K6];simp only[i4]at h;obtain⟨h1,h2,h3,h4⟩:=h;rw[o9]at h3;rw[h1,b8r h2,c0b h4,o9.2 fun y hy=>b8v (h3 y hy)]
  rfl
def b5B(l:List Nd):Bool:=decide (l.length<=4000)&&(List.range l.length).all fun i=>decide ((chF l i i).length-1<=64)&&decide (mks l i<=64)
theorem b5A(l:List Nd):J6 l=b5B l:=by
 rw[A8];unfold J6 b5B dp;rw[t8,i4,t8,o9]
 constructor
 ·rintro⟨h1,h⟩
  refine⟨h1,fun i hi => ?_⟩;have:=h i (List.mem_range.1 hi);rw[a7a l i i (c9 _)];simpa using this
 ·rintro⟨h1,h⟩
  refine⟨h1,fun i hi => ?_⟩;have:=h i (List.mem_range.2 hi);rw[a7a l i i (c9 _)]at this;simpa using this
theorem a1l{bs:List UInt8}{l:List Nd}(h:c0y bs=some l)(hf:b6Q l=true):X4 bs=bif b5B l then .inr l else .inl 3:=by
 unfold X4;rw[c0x h];dsimp only;rw[b8P hf,b5A];rfl
theorem b4S(bs:List UInt8)(w:World)(fr:Nat×Nat):Q3 (w.alloc (.cells (P6 bs).toArray 5 fr)) (w.alloc (.cells (P6 bs).toArray 5 fr)).heap.size (some ⟨w.heap.size,0,none⟩) (P6 bs):=fun _=>by
 have h:=g9 w (.cells (P6 bs).toArray 5 fr);refine⟨w.heap.size,0,rfl,i3 h,fun j hj => ?_⟩;rw[d9 _ _ _ _ _ _ h,F5];simp
theorem b7i(w:World)(C:Array Value)(l c:Nat):(convert 22 22 (.slice (some ⟨w.heap.size,0,none⟩) l c)).run Tryz.prog (w.alloc (.cells C 5))=.ok (.slice (some ⟨w.heap.size,0,none⟩) l c) (w.alloc (.cells C 5 (C.size,C.size+1))):=by
 have D0:(w.alloc (.cells C 5)).shape? w.heap.size=some (5,C.size):=by
  have:(w.alloc (.cells C 5)).heap[w.heap.size]? = some (.cells C 5):=by
   show(w.heap.push (.cells C 5))[w.heap.size]? = _
   simp
  unfold World.shape?;rw[this]
 have D1:(w.alloc (.cells C 5)).freeze ⟨w.heap.size,C.size,none⟩ 1=w.alloc (.cells C 5 (C.size,C.size+1)):=by
  have hm:∀(a:Array Obj) (x:Obj) (f:Obj->Obj),(a.push x).modify a.size f=a.push (f x):=by
   intro a x f
   apply Array.ext
   ·simp
   ·intro i h1 h2
    simp only[Array.getElem_modify,Array.getElem_push];by_cases h:a.size=i
    ·subst h
     simp
    ·have hi:i<a.size:=by simp at h1;omega
     simp[h,hi]
  unfold World.freeze;rw[f6 (by decide)]
  show({ w.alloc (.cells C 5)with heap:=(w.heap.push (.cells C 5)).modify w.heap.size _ }:World)=_
  rw[hm]
  rfl
 simp[convert,run_underlying Tryz.underlying22,run_underlying Tryz.underlying5,markStringish,D0];exact D1
end Go.Proofs.YtlgcigmolfhamaaGreatDoor
