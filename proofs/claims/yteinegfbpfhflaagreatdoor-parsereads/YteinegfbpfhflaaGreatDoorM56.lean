/-
  A text of ASCII: its document, reckoned by what the kernel reckons. Plain mathematics. Conditions: none.
  A row of bytes that a text has become. Conditions: none.
  (*Doc).Nodes and Node of a document: copies in new memory. Conditions: the document lies as it is; there are not too many nodes, the texts are not too long.
  apostillelaw08.awake. Conditions: the tables lie as they are laid.
-/
import Derived.Test.YteinegfbpfhflaaGreatDoorM37
import Derived.Test.YteinegfbpfhflaaGreatDoorM20
namespace Go.Proofs.YteinegfbpfhflaaGreatDoor
open Go.RowKit
set_option linter.unusedVariables false
set_option maxRecDepth 100000
set_option maxHeartbeats 8000000
theorem Kv{p:Prop}{d:Decidable p}(h:p):@decide p d=true:=ax h
def Jt(s:List UInt8):List Int:=s.map fun c=>(c.toNat:Int)
def J2(s:List UInt8):Bool:=s.all fun c=>decide (c.toNat<128)
theorem Ju:∀{s:List UInt8},J2 s=true->bg (Jt s)=s
 | [],_=>rfl
 |c::s,h=>by
  simp only[J2,List.all_cons,aO,bj]at h
  show bD (c.toNat:Int)++bg (Jt s)=_
  rw[JQ h.1,Ju (s:=s) h.2];rfl
def Kl(s:List UInt8):Bool:=J2 s&&(!s.isEmpty&&oq (Jt s))
theorem Jx{s:List UInt8}(h:Kl s=true):nm s:=by
 simp only[Kl,aO]at h;refine⟨Jt s,fun e => ?_,h.2.2,(Ju h.1).symm⟩;have:s=[]:=by simpa [Jt]using e
 rw[this]at h;simp at h
def Kk(s:List UInt8):Bool:=J2 s&&(Jt s).all ep
theorem Js{s:List UInt8}(h:Kk s=true):mZ s:=by
 simp only[Kk,aO]at h;exact⟨Jt s,bK.2 fun r hr=>oW (bK.1 h.2 r hr),h.2,(Ju h.1).symm⟩
def JY:List UInt8->List UInt8->Bool
 | [],t=>t.isEmpty
 |c::s,t=>t.isPrefixOf (c::s)||JY s t
theorem Jy:∀{s t:List UInt8},Hq s t->JY s t=true
 | [],t,⟨a,b,e⟩=>by
  have:=congrArg List.length e;simp only[bb,aj]at this;have ht:t=[]:=aD (by omega)
  rw[ht];rfl
 |c::s,t,h=>by
  rw[JY,Bool.or_eq_true];rcases C5.1 h with h|h
  ·exact .inl h
  ·exact .inr (Jy h)
theorem JB{s t:List UInt8}(h:JY s t=false):jg s t=false:=by
 cases hb:jg s t with
 |false=>rfl
 |true=>rw[Jy (vv.1 hb)]at h;cases h
def JS(s:List UInt8):Option (List UInt8):=if(Kk s && !JY s [93,93,62])=true then dI false s else none
theorem J1{s y:List UInt8}(h:JS s=some y):cT s=some y:=by
 unfold JS at h
 split at h
 ·next h1 =>
  simp only[aO,Bool.not_eq_true']at h1;unfold cT;rw[av ⟨Js h1.1,fun he=>by have:=Jy (t:=[93,93,62]) he;rw[h1.2]at this;cases this⟩];exact h
 ·cases h
def J4(s:List UInt8):Option (List UInt8):=if Kk s=true then dI true s else none
theorem J3{s y:List UInt8}(h:J4 s=some y):fA s=some y:=by
 unfold J4 at h
 split at h
 ·next h1=>unfold fA;rw[av (Js h1)];exact h
 ·cases h
theorem JH:∀{s:List UInt8} {c:UInt8} {l:List UInt8},s.dropWhile (fun x => !(x==58))=c::l->c=58
 | [],c,l,h=>by cases h
 |x::s,c,l,h=>by
  rw[List.dropWhile_cons]at h
  split at h
  ·exact JH h
  ·next hx=>cases h;simpa using hx
def Jw(s:List UInt8):Option (List UInt8×List UInt8):=if Kl s=true then some ([],s)else
 match s.dropWhile (fun x => !(x==58))with
 | []=>none
 |_::l=>if(Kl (s.takeWhile (fun x => !(x==58)))&&Kl l)=true then some (s.takeWhile (fun x => !(x==58)),l)else none
theorem JA{s p l:List UInt8}(h:Jw s=some (p,l)):dL s=some (p,l):=by
 unfold Jw at h
 split at h
 ·next h1=>cases h;exact iE (.inl ⟨rfl,rfl,Jx h1⟩)
 ·split at h
  ·cases h
  ·next c l' he =>
   split at h
   ·next h2 =>
    simp only[aO]at h2;cases h;refine iE (.inr ⟨Jx h2.1,Jx h2.2,?_⟩);have h3:=List.takeWhile_append_dropWhile (p:=fun x => !(x==58)) (l:=s);rw[he,JH he]at h3;exact h3.symm
   ·cases h
def JO(s:List UInt8)(x:Nd):Option (List UInt8×Nd) :=
 match Jw (cE bd s)with
 |none=>none
 |some (p,l)=>match fe (c9 bd s)with
  |none=>none
  |some r2=>match e9 r2 with
   |none=>none
   |some (q,r3)=>match J4 q with
    |none=>none
    |some v=>some (r3,fj x p l (ba v))
theorem JX{s:List UInt8}{x:Nd}{y:List UInt8×Nd}(h:JO s x=some y):eV s x=some y:=by
 unfold JO at h
 split at h
 ·cases h
 ·next p l h1 =>
  rw[eV,JA h1];dsimp only
  split at h
  ·cases h
  ·next r2 h2 =>
   rw[h2];dsimp only
   split at h
   ·cases h
   ·next q r3 h3 =>
    rw[h3];dsimp only
    split at h
    ·cases h
    ·next v h4=>rw[J3 h4];exact h
noncomputable def JD(full:List UInt8)(o:Po):Nat->Rd->Nd->Option Rd
 |0,_,_=>none
 |n+1,st,x =>
  match aH [62] (aI st.rest)with
  |some r=>some (jp { st with rest:=r } o x full)
  |none=>match aH [47,62] (aI st.rest)with
   |some r=>some (qi (jp { st with rest:=r } o x full) st.op ⟨(ed { st with ds:=st.ds++x.ds } o).ns.length,full,st.ds.length⟩)
   |none=>if(aI st.rest).length<st.rest.length then
    match JO (aI st.rest) x with
    |some (r,x')=>JD full o n { st with rest:=r } x'
    |none=>none
    else none
theorem JC{full:List UInt8}{o:Po}{y:Rd}:∀{n:Nat} {st:Rd} {x:Nd},JD full o n st x=some y->lr full o n st x=some y
 |0,st,x,h=>by cases h
 |n+1,st,x,h=>by
  rw[JD]at h;rw[lr]
  split at h
  ·next r h1=>rw[h1];exact h
  ·next h1 =>
   rw[h1];dsimp only
   split at h
   ·next r h2=>rw[h2];exact h
   ·next h2 =>
    rw[h2];dsimp only
    split at h
    ·next h3 =>
     rw[av h3]
     split at h
     ·next r x' h4=>rw[JX h4];exact JC h
     ·cases h
    ·cases h
noncomputable def J6(st:Rd)(o:Po):Option Rd :=
 match Jw (cE bd st.rest)with
 |none=>none
 |some (p,l)=>JD (cE bd st.rest) o ((c9 bd st.rest).length+1) { st with rest:=c9 bd st.rest } ⟨1,0,ba p,ba l,⟨#[]⟩,⟨#[]⟩,[],[]⟩
theorem J5{st:Rd}{o:Po}{y:Rd}(h:J6 st o=some y):lq st o=some y:=by
 unfold J6 at h
 split at h
 ·cases h
 ·next p l h1=>rw[lq,JA h1];exact JC h
def J8(st:Rd):Option Rd :=
 if st.op.length=1 then(if jz (cE [60] st.rest)=[]then some { st with rest:=c9 [60] st.rest } else none)
 else match JS (cE [60] st.rest)with
  |none=>none
  |some y=>some { st with rest:=c9 [60] st.rest,tx:=st.tx++y }
theorem J7{st y:Rd}(h:J8 st=some y):lS st=some y:=by
 unfold J8 at h;unfold lS
 split at h
 ·next h1=>rw[av h1];exact h
 ·next h1 =>
  rw[am h1]
  split at h
  ·cases h
  ·next z h2=>rw[J1 h2];exact h
noncomputable def JN(st:Rd)(fr:List Po)(o:Po):Option Rd :=
 match aH [60,33,45,45] st.rest with
 |some r=>mG { st with rest:=r } o
 |none=>match aH [60,33,91,67,68,65,84,65,91] st.rest with
  |some r=>nB { st with rest:=r }
  |none=>match aH [60,63] st.rest with
   |some r=>kh { st with rest:=r } o
   |none=>match aH [60,47] st.rest with
    |some r=>gd { st with rest:=r } fr o
    |none=>match aH [60] st.rest with
     |some r=>J6 { st with rest:=r } o
     |none=>J8 st
theorem JW{st y:Rd}{fr:List Po}{o:Po}(h:JN st fr o=some y):dC st fr o=some y:=by
 unfold JN at h;unfold dC
 split at h
 ·next r h1=>rw[h1];exact h
 ·next h1 =>
  rw[h1];dsimp only
  split at h
  ·next r h2=>rw[h2];exact h
  ·next h2 =>
   rw[h2];dsimp only
   split at h
   ·next r h3=>rw[h3];exact h
   ·next h3 =>
    rw[h3];dsimp only
    split at h
    ·next r h4=>rw[h4];exact h
    ·next h4 =>
     rw[h4];dsimp only
     split at h
     ·next r h5=>rw[h5];exact J5 h
     ·next h5=>rw[h5];exact J7 h
noncomputable def JF:Nat->Rd->Option (List Nd)
 |0,_=>none
 |n+1,st=>if st.rest=[]then(if st.op.length=1 then some st.ns else none)else
  match st.op.getLast? with
  |none=>none
  |some o=>match JN st st.op.dropLast o with
   |none=>none
   |some st'=>JF n st'
theorem JE:∀{n:Nat} {st:Rd} {l:List Nd},JF n st=some l->fC n st=some l
 |0,st,l,h=>by cases h
 |n+1,st,l,h=>by
  rw[JF]at h;rw[fC]
  split at h
  ·next h1=>rw[av h1];exact h
  ·next h1 =>
   rw[am h1]
   split at h
   ·cases h
   ·next o h2 =>
    rw[h2];dsimp only
    split at h
    ·cases h
    ·next st' h3=>rw[JW h3];exact JE h
noncomputable def Kf(bs:List UInt8):Option (List Nd):=if Kk bs=true then JF ((dG (bJ bs)).length+1) (oa (dG (bJ bs)))else none
theorem Ke{bs:List UInt8}{l:List Nd}(h:Kf bs=some l):qh dG bs=some l:=by
 unfold Kf at h
 split at h
 ·next h1=>rw[qh,av (eS.2 (Js h1))];exact JE h
 ·cases h
def Km(l:List Nd):Nat->Nat->List Nat
 |0,n => [n]
 |f+1,n=>n::(if 0<=pa l n/\(pa l n).toNat<n then Km l f (pa l n).toNat else[])
theorem Jv(l:List Nd):∀(f n:Nat),n<=f->Km l f n=gQ l n
 |0,n,h=>by
  obtain rfl:n=0:=by omega
  rw[iu (by omega)];rfl
 |f+1,n,h=>by
  rw[Km];by_cases hp:0<=pa l n/\(pa l n).toNat<n
  ·rw[av hp,fh hp,Jv l f _ (by omega)]
  ·rw[am hp,iu hp]
def Ky(l:List Nd)(i:Nat):Bool:=(decide (0<=pa l i)&&decide ((pa l i).toNat∈Km l i (i-1))&&(kd l (pa l i).toNat==0||kd l (pa l i).toNat==1))&&(!fs l i&&(!(pa l i==0)||(kd l i==1||(kd l i==3||kd l i==4))))
theorem Kx(l:List Nd)(i:Nat):Ky l i=sT l i:=by
 unfold Ky sT ej;rw[Jv l i (i-1) (by omega)]
def JK(l:List Nd):Bool:=(List.range l.length).all (fun i=>i==0||Ky l i)&&decide (eK l l.length=1)
theorem JT{l:List Nd}(h:JK l=true):dT l=true:=by
 simp only[JK,aO,bK,List.mem_range,bj,Bool.or_eq_true,bc]at h;unfold dT;refine Kv ⟨fun i h1 h2 => ?_,h.2⟩;rcases h.1 i h2 with h3|h3
 ·omega
 ·rw[<-Kx];exact h3
def Kc(l:List Nd):Bool:=(List.range l.length).all fun j=>match l[j]? with|some x => !(x.k==1)||jO ((Km l j j).flatMap fun m=>(Ba l m).reverse) x|none=>true
theorem Kb{l:List Nd}(h:Kc l=true):fZ l=true:=by
 simp only[Kc,bK,List.mem_range]at h;unfold fZ;rw[bj];intro j hj;have h1:=h j hj;rw[Jv l j j (af _)]at h1;exact h1
def Ks(S:ByteArray):Bool:=Kk S.data.toList
def Kt(S:ByteArray):Bool:=Kl S.data.toList
theorem Kn{S:ByteArray}(h:Ks S=true):tx S=true:=eS.2 (Js h)
theorem Ko{S:ByteArray}(h:Kt S=true):ic S=true:=kL (Jx h)
def Kr(S:ByteArray):Bool:=dZ S []||Kt S
theorem Kq{S:ByteArray}(h:Kr S=true):fX S=true:=by
 unfold Kr at h;unfold fX;rw[Bool.or_eq_true]at h ⊢;exact h.imp id Ko
def Kh(d:Dc):Bool:=Kr d.p&&(!dZ d.p dy&&(Ks d.u&&(!dZ d.u oV&&(!(dZ d.u [] && !dZ d.p [])&&(dZ d.p iA==dZ d.u mV)))))
theorem Kg{d:Dc}(h:Kh d=true):eW d=true:=by
 unfold Kh at h;unfold eW;rw[aO,aO,aO]at h ⊢;exact⟨Kq h.1,h.2.1,Kn h.2.2.1,h.2.2.2⟩
def Kj(a:At):Bool:=!(dZ a.p []&&dZ a.l dy)&&(Kt a.l&&(Kr a.p&&Ks a.v))
theorem Ki{a:At}(h:Kj a=true):gu a=true:=by
 unfold Kj at h;unfold gu;rw[aO,aO,aO]at h ⊢;exact⟨h.1,Ko h.2.1,Kq h.2.2.1,Kn h.2.2.2⟩
def JV(L:List (List UInt8)):Bool:=decide L.Nodup
theorem JM{α:Type}{L:List α}(f:α->List UInt8)(h:JV (L.map f)=true):(!mA (L.map fun x=>Lit.string (f x)))=true:=by
 unfold mA JV at *;rw[Bool.not_not];refine Kv ?_;have h1:=of_decide_eq_true h;unfold List.Nodup at h1 ⊢;rw[List.pairwise_map]at h1 ⊢;exact h1.imp fun hne e=>hne (by injection e)
def JR(x:Nd):Bool:=Kt x.l&&(Kr x.p&&(dZ x.t []&&(x.ds.all Kh&&(x.ats.all Kj&&(JV (x.ds.map fun d=>d.p.data.toList)&&JV (x.ats.map fun a=>keyBytes [.string a.l.data.toList,.string a.u.data.toList]))))))
theorem J0{x:Nd}(h:JR x=true):iJ x=true:=by
 unfold JR at h;unfold iJ;simp only[aO]at h;obtain⟨h1,h2,h3,h4,h5,h6,h7⟩:=h;simp only[bK]at h4 h5;rw[aO,aO,aO,aO,aO,aO];exact⟨Ko h1,Kq h2,h3,bK.2 fun d hd=>Kg (h4 d hd),bK.2 fun a ha=>Ki (h5 a ha),JM (fun d:Dc=>d.p.data.toList) h6,JM (fun a:At=>keyBytes [.string a.l.data.toList,.string a.u.data.toList]) h7⟩
def JL(x:Nd):Bool :=
 bif x.k==1 then JR x else bif x.k==2 then d9 x&&(dZ x.l []&&(!dZ x.t []&&Ks x.t))else bif x.k==3 then d9 x&&(dZ x.l []&&(Ks x.t&&(!JY x.t.data.toList [45,45] && !Lib.hasSuffix x.t.data.toList [45])))else
 bif x.k==4 then d9 x&&((Kt x.l && !Lib.equalFold x.l.data.toList [120,109,108])&&(Ks x.t&&(!JY x.t.data.toList [63,62]&&(dZ x.t [] || !fb x.t))))else false
theorem JU{x:Nd}(h:JL x=true):dg x=true:=by
 unfold JL at h;unfold dg;cases h1:x.k==1<;>rw[h1]at h
 ·cases h2:x.k==2<;>rw[h2]at h
  ·cases h3:x.k==3<;>rw[h3]at h
   ·cases h4:x.k==4<;>rw[h4]at h
    ·cases h
    ·simp only[cond_true,cond_false,aO,Bool.not_eq_true']at h ⊢
     unfold qz zW;rw[Ko h.2.1.1,h.2.1.2,Kn h.2.2.1,JB h.2.2.2.1];exact⟨h.1,rfl,by simpa using h.2.2.2.2⟩
   ·simp only[cond_true,cond_false,aO,Bool.not_eq_true']at h ⊢
    unfold tR;rw[Kn h.2.2.1,JB h.2.2.2.1,h.2.2.2.2];exact⟨h.1,h.2.1,rfl⟩
  ·simp only[cond_true,cond_false,aO]at h ⊢
   exact⟨h.1,h.2.1,h.2.2.1,Kn h.2.2.2⟩
 ·exact J0 h
def JP:List Nd->Bool
 | []=>false
 |x::r=>eE x&&(JK (x::r)&&(r.all JL&&Kc (x::r)))
theorem JZ:∀{l:List Nd},JP l=true->db l=true
 |x::r,h=>by
  rw[JP]at h;rw[db];simp only[aO]at h;obtain⟨h1,h2,h3,h4⟩:=h;rw[bK]at h3;rw[h1,JT h2,Kb h4,bK.2 fun y hy=>JU (h3 y hy)]
  rfl
def JJ(l:List Nd):Bool:=decide (l.length<=4000)&&(List.range l.length).all fun i=>decide ((Km l i i).length-1<=64)&&decide (Ap l i<=64)
theorem JI(l:List Nd):cX l=JJ l:=by
 rw[bm];unfold cX JJ dp;rw[bj,aO,bj,bK]
 constructor
 ·rintro⟨h1,h⟩
  refine⟨h1,fun i hi => ?_⟩;have:=h i (List.mem_range.1 hi);rw[Jv l i i (af _)];simpa using this
 ·rintro⟨h1,h⟩
  refine⟨h1,fun i hi => ?_⟩;have:=h i (List.mem_range.2 hi);rw[Jv l i i (af _)]at this;simpa using this
theorem Kd{bs:List UInt8}{l:List Nd}(h:Kf bs=some l)(hf:JP l=true):lG bs=bif JJ l then .inr l else .inl 3:=by
 unfold lG;rw[Ke h];dsimp only;rw[JZ hf,JI];rfl
theorem AH(bs:List UInt8)(w:World)(fr:Nat×Nat):en (w.alloc (.cells (ec bs).toArray 5 fr)) (w.alloc (.cells (ec bs).toArray 5 fr)).heap.size (some ⟨w.heap.size,0,none⟩) (ec bs):=fun _=>by
 have h:=ar w (.cells (ec bs).toArray 5 fr);refine⟨w.heap.size,0,rfl,au h,fun j hj => ?_⟩;rw[ai _ _ _ _ _ _ h,ci];simp
theorem DA(w:World)(C:Array Value)(l c:Nat):(convert 22 22 (.slice (some ⟨w.heap.size,0,none⟩) l c)).run Tryz.prog (w.alloc (.cells C 5))=.ok (.slice (some ⟨w.heap.size,0,none⟩) l c) (w.alloc (.cells C 5 (C.size,C.size+1))):=by
 have hsh:(w.alloc (.cells C 5)).shape? w.heap.size=some (5,C.size):=by
  have:(w.alloc (.cells C 5)).heap[w.heap.size]? = some (.cells C 5):=by
   show(w.heap.push (.cells C 5))[w.heap.size]? = _
   simp
  unfold World.shape?;rw[this]
 have hfr:(w.alloc (.cells C 5)).freeze ⟨w.heap.size,C.size,none⟩ 1=w.alloc (.cells C 5 (C.size,C.size+1)):=by
  have hm:∀(a:Array Obj) (x:Obj) (f:Obj->Obj),(a.push x).modify a.size f=a.push (f x):=by
   intro a x f
   apply Array.ext
   ·simp
   ·intro i h1 h2
    simp only[Array.getElem_modify,Array.getElem_push];by_cases h:a.size=i
    ·subst h
     simp
    ·have hi:i<a.size:=by simp at h1;omega
     simp[h,hi]
  unfold World.freeze;rw[am (by decide)]
  show({ w.alloc (.cells C 5)with heap:=(w.heap.push (.cells C 5)).modify w.heap.size _ }:World)=_
  rw[hm]
  rfl
 simp[convert,run_underlying Tryz.underlying22,run_underlying Tryz.underlying5,markStringish,hsh];exact hfr
def Gd:Prop:=∀w:World,8<=w.heap.size->Wd w->Calls Tryz.prog 11 #[] w fun e w'=>e=.returned (.bool true)/\Below w.heap.size w w'
theorem gV.form{w:World}{B:Nat}{v:Value}{l:List Nd}(h:gV w B v l):∃A c,v=.slice A l.length c:=by
 rcases h with⟨rfl,rfl⟩|⟨g,cur,rfl,_⟩
 ·exact⟨_,_,rfl⟩
 ·exact⟨_,_,rfl⟩
theorem Ag{B d:Nat}{l:List Nd}(w:World)(h:iy w B d l)(hn:l.length<=100000)(hs:∀x∈l,Sm x):Calls Tryz.prog 15 #[.pointer (some ⟨d,0,none⟩)] w fun e w' => ∃v',e=.returned v'/\gV w' w.heap.size v' l/\Below w.heap.size w w':=by
 obtain⟨v,hc,hv,_⟩:=h.list hn hs;have HL:=aa (vi d v w hc);have HC:=aa (j8 l v w hv (by omega) hs)
 obtain⟨A,cap,rfl,_,_⟩:=hv.slice;clear hc hv h;go_enter Tryz.func15,Tryz.ntmps15
 go_wp2_with fail
 refine HL.out.mono ?_;rintro e w1⟨rfl,hw⟩;rw[hw];clear hw
 go_wp2_with fail
 refine HC.out.mono ?_;rintro e w2⟨v',rfl,ho,hb⟩;have HO:=aa ho;obtain⟨A',c',rfl⟩:=ho.form;clear ho;go_wp2;go_ret;exact⟨_,rfl,HO.out,hb⟩
theorem xR{w2:World}{b:Nat}{cs:Array Value}{t:TypeId}{fz:Nat×Nat}(v0 v1 v2 v3 v4 v5 v6 v7:Value)(h:w2.heap[b]? = some (.cells cs t fz))(h8:cs.size=8) :
 ∃W8,W8=((((((((w2.setCell ⟨b,0,none⟩ v0).setCell ⟨b,1,none⟩ v1).setCell ⟨b,2,none⟩ v2).setCell ⟨b,3,none⟩ v3).setCell ⟨b,4,none⟩ v4).setCell ⟨b,5,none⟩ v5).setCell ⟨b,6,none⟩ v6).setCell ⟨b,7,none⟩ v7)/\(∀g,g≠b->W8.heap[g]? = w2.heap[g]?)/\(∀(B:Nat) (a:World),Below B a w2->B<=b->Below B a W8)/\W8.cell? ⟨b,0,none⟩=some v0/\W8.cell? ⟨b,1,none⟩=some v1/\W8.cell? ⟨b,2,none⟩=some v2/\W8.cell? ⟨b,3,none⟩=some v3/\W8.cell? ⟨b,4,none⟩=some v4/\W8.cell? ⟨b,5,none⟩=some v5/\W8.cell? ⟨b,6,none⟩=some v6/\W8.cell? ⟨b,7,none⟩=some v7:=by
 have hb:(((((((((w2.setCell ⟨b,0,none⟩ v0).setCell ⟨b,1,none⟩ v1).setCell ⟨b,2,none⟩ v2).setCell ⟨b,3,none⟩ v3).setCell ⟨b,4,none⟩ v4).setCell ⟨b,5,none⟩ v5).setCell ⟨b,6,none⟩ v6).setCell ⟨b,7,none⟩ v7)).heap[b]? = some (.cells ((((((((cs.setIfInBounds 0 v0).setIfInBounds 1 v1).setIfInBounds 2 v2).setIfInBounds 3 v3).setIfInBounds 4 v4).setIfInBounds 5 v5).setIfInBounds 6 v6).setIfInBounds 7 v7) t fz):=(aL (aL (aL (aL (aL (aL (aL (aL h))))))));refine⟨_,rfl,fun g hg=>((ao _ _ _ _ hg).trans ((ao _ _ _ _ hg).trans ((ao _ _ _ _ hg).trans ((ao _ _ _ _ hg).trans ((ao _ _ _ _ hg).trans ((ao _ _ _ _ hg).trans ((ao _ _ _ _ hg).trans ((ao _ _ _ _ hg).trans rfl)))))))),fun B a hB hle=>((((((((hB.setCell (p:=⟨b,0,none⟩) hle v0).setCell (p:=⟨b,1,none⟩) hle v1).setCell (p:=⟨b,2,none⟩) hle v2).setCell (p:=⟨b,3,none⟩) hle v3).setCell (p:=⟨b,4,none⟩) hle v4).setCell (p:=⟨b,5,none⟩) hle v5).setCell (p:=⟨b,6,none⟩) hle v6).setCell (p:=⟨b,7,none⟩) hle v7),?_⟩;have hc:=fun j=>ai _ b j _ _ _ hb;refine⟨?_,?_,?_,?_,?_,?_,?_,?_⟩<;>rw[hc]<;>simp[h8]
theorem CG{B d:Nat}{l:List Nd}(n:Nat)(w:World)(h:iy w B d l)(hn:l.length<=100000)(hs:∀x∈l,Sm x)(hnl:n<l.length):Calls Tryz.prog 18 #[.pointer (some ⟨d,0,none⟩),.int .i64 (n:Int)] w fun e w' => ∃vd va,e=.returned (.agg #[.int .i64 l[n].k,.int .i64 l[n].n,.string l[n].p,.string l[n].l,.string l[n].u,.string l[n].t,vd,va])/\iK w' w.heap.size vd l[n].ds/\iL w' w.heap.size va l[n].ats/\Below w.heap.size w w':=by
 have HH:Hid (∀w',Below w.heap.size w w'->Calls Tryz.prog 40 #[.pointer (some ⟨d,0,none⟩),.int .i64 (n:Int)] w' fun e w''=>e=.returned (.bool true)/\w''=w'):=fun w' hb=>by
  have:=Fe (n:Int) w' (h.later hb) hn hs;rw[ax (by omega)]at this
  exact this
 obtain⟨v,hc,hv,hd⟩:=h.list hn hs;obtain⟨b,o,cap,rfl,hc1,hc2,hbB,hnd⟩:=hv.open (by intro h;rw[h]at hnl;simp at hnl)
 obtain⟨vd,va,d0,d1,d2,d3,d4,d5,d6,d7,hds,has⟩:=(hnd n hnl).cells;have HX:Hid (nH w w.heap.size (.agg #[.int .i64 l[n].k,.int .i64 l[n].n,.string l[n].p,.string l[n].l,.string l[n].u,.string l[n].t,vd,va]) l[n]):=⟨vd,va,rfl,hds,has⟩;obtain⟨A1,c1,rfl,_⟩:=hds;obtain⟨A2,c2,rfl,_⟩:=has;have hsx:=hs _ (aJ hnl)
 have HCP:Hid (∀w',Below w.heap.size w w'->Calls Tryz.prog 39 #[.agg #[.int .i64 l[n].k,.int .i64 l[n].n,.string l[n].p,.string l[n].l,.string l[n].u,.string l[n].t,.slice A1 l[n].ds.length c1,.slice A2 l[n].ats.length c2]] w' fun e w'' => ∃vd va,e=.returned (.agg #[.int .i64 l[n].k,.int .i64 l[n].n,.string l[n].p,.string l[n].l,.string l[n].u,.string l[n].t,vd,va])/\iK w'' w'.heap.size vd l[n].ds/\iL w'' w'.heap.size va l[n].ats/\Below w'.heap.size w' w''):=fun w' hb' =>
  lX l[n] _ hsx w' (HX.out.later hb')
 obtain⟨m,hmE⟩ : ∃m,l.length=m:=⟨_,rfl⟩;rw[hmE]at hn hc1 hnl hc;generalize l[n]=x at *;clear hnd hv h hmE;go_enter Tryz.func18,Tryz.ntmps18
 go_wp2_with fail
 refine(HH.out _ (by first|exact ae _ _|exact(ae _ _).alloc (af _) _)).mono ?_
 rintro e w1⟨rfl,hw⟩;rw[hw];clear hw
 go_wp2_with fail
 refine(HCP.out _ (by first|exact ae _ _|exact(ae _ _).alloc (af _) _)).mono ?_
 rintro e w2⟨vd',va',rfl,ho1,ho2,hb1⟩;obtain⟨A3,c3,rfl⟩:=cU.form ho1;obtain⟨A4,c4,rfl⟩:=cU.form ho2;have HO1:Hid (iK w2 w.heap.size (.slice A3 x.ds.length c3) x.ds):=cU.mono ho1 (by simp)
 have HO2:Hid (iL w2 w.heap.size (.slice A4 x.ats.length c4) x.ats):=cU.mono ho2 (by simp)
 have hbw:=bR hb1;have hcur:w2.heap[w.heap.size]? = some (.cells #[.int .i64 0,.int .i64 0,.string ⟨#[]⟩,.string ⟨#[]⟩,.string ⟨#[]⟩,.string ⟨#[]⟩,.slice none 0 0,.slice none 0 0] 42 (0,0)):=(hb1.block _ (by simp)).trans (ar w _)
 have hfz:∀j,w2.frozen? ⟨w.heap.size,j,none⟩=false:=fun j=>by unfold World.frozen?;rw[hcur];simp
 have g0:w2.cell? ⟨w.heap.size,0,none⟩=some (.int .i64 0):=by rw[ai w2 w.heap.size _ _ _ _ hcur];rfl
 have g1:w2.cell? ⟨w.heap.size,1,none⟩=some (.int .i64 0):=by rw[ai w2 w.heap.size _ _ _ _ hcur];rfl
 have g2:w2.cell? ⟨w.heap.size,2,none⟩=some (.string ⟨#[]⟩):=by rw[ai w2 w.heap.size _ _ _ _ hcur];rfl
 have g3:w2.cell? ⟨w.heap.size,3,none⟩=some (.string ⟨#[]⟩):=by rw[ai w2 w.heap.size _ _ _ _ hcur];rfl
 have g4:w2.cell? ⟨w.heap.size,4,none⟩=some (.string ⟨#[]⟩):=by rw[ai w2 w.heap.size _ _ _ _ hcur];rfl
 have g5:w2.cell? ⟨w.heap.size,5,none⟩=some (.string ⟨#[]⟩):=by rw[ai w2 w.heap.size _ _ _ _ hcur];rfl
 have g6:w2.cell? ⟨w.heap.size,6,none⟩=some (.slice none 0 0):=by rw[ai w2 w.heap.size _ _ _ _ hcur];rfl
 have g7:w2.cell? ⟨w.heap.size,7,none⟩=some (.slice none 0 0):=by rw[ai w2 w.heap.size _ _ _ _ hcur];rfl
 obtain⟨W8,hW8,hoth,hbel,q0,q1,q2,q3,q4,q5,q6,q7⟩:=xR (.int .i64 x.k) (.int .i64 x.n) (.string x.p) (.string x.l) (.string x.u) (.string x.t) (.slice A3 x.ds.length c3) (.slice A4 x.ats.length c4) hcur rfl;have HO8:Hid (iK W8 w.heap.size (.slice A3 x.ds.length c3) x.ds):=cU.aside HO1.out hcur (by decide) hoth
 have HA8:Hid (iL W8 w.heap.size (.slice A4 x.ats.length c4) x.ats):=cU.aside HO2.out hcur (by decide) hoth
 have HB8:Hid (Below w.heap.size w W8):=hbel _ _ hbw (af _);have HW8:=aa hW8;clear ho1 ho2 hcur hbw hb1 hW8 hoth hbel;go_wp2;rw[<-HW8.out];refine bodyPost_ret (v:=.agg #[.int .i64 x.k,.int .i64 x.n,.string x.p,.string x.l,.string x.u,.string x.t,.slice A3 x.ds.length c3,.slice A4 x.ats.length c4]) (by simp[results,Tryz.results18,go_sem,q0,q1,q2,q3,q4,q5,q6,q7]) rfl ⟨_,_,rfl,HO8.out,HA8.out,HB8.out⟩
def qy:List UInt8:=[60,97,32,98,61,39,49,39,62,120,60,33,45,45,121,45,45,62,60,47,97,62]
def mJ:Nd:=⟨1,0,⟨#[]⟩,⟨#[97]⟩,⟨#[]⟩,⟨#[]⟩,[],[⟨⟨#[]⟩,⟨#[98]⟩,⟨#[]⟩,⟨#[49]⟩⟩]⟩
def Eg:Nd:=⟨2,1,⟨#[]⟩,⟨#[]⟩,⟨#[]⟩,⟨#[120]⟩,[],[]⟩
def BR:Nd:=⟨3,1,⟨#[]⟩,⟨#[]⟩,⟨#[]⟩,⟨#[121]⟩,[],[]⟩
def mI:List Nd:=[cM,mJ,Eg,BR]
theorem DM:lG qy=.inr mI:=Kd (l:=mI) (by kernel_rfl) (by kernel_rfl)
theorem F4:∀x∈mI,Sm x:=tI (bs:=qy) (by decide) (vU DM).1
theorem Hb:Gd:=fun w hB hW=>by
 have HC:Hid (Calls Tryz.prog 12 #[.slice (some ⟨w.heap.size,0,none⟩) 22 22] (w.alloc (.cells #[.int .u8 60,.int .u8 97,.int .u8 32,.int .u8 98,.int .u8 61,.int .u8 39,.int .u8 49,.int .u8 39,.int .u8 62,.int .u8 120,.int .u8 60,.int .u8 33,.int .u8 45,.int .u8 45,.int .u8 121,.int .u8 45,.int .u8 45,.int .u8 62,.int .u8 60,.int .u8 47,.int .u8 97,.int .u8 62] 5 (22,23))) fun e w'=>(∃d B',e=.returned (.tuple #[.pointer (some ⟨d,0,none⟩),.int .i64 0])/\iy w' B' d mI)/\Below w.heap.size w w'):=by
  have hba:Below w.heap.size w (w.alloc (.cells (ec qy).toArray 5 (22,23))):=(ae _ _).alloc (af _) _;have h:=yz (some ⟨w.heap.size,0,none⟩) 22 qy (w.alloc (.cells (ec qy).toArray 5 (22,23))) (ag hB hba.size) (hW.low hB hba) (AH qy w (22,23)) (by decide) (by decide) (by decide)
  refine Calls.mono h fun e w' ⟨h1,h2⟩=>⟨?_,hba.trans (h2.mono hba.size)⟩;rw[DM]at h1;obtain⟨d,B',_,he,hd⟩:=h1;exact⟨d,B',he,hd⟩
 have hcv:∀W:World,(convert 22 22 (.slice (some ⟨W.heap.size,0,none⟩) 22 22)).run Tryz.prog (W.alloc (.cells #[.int .u8 60,.int .u8 97,.int .u8 32,.int .u8 98,.int .u8 61,.int .u8 39,.int .u8 49,.int .u8 39,.int .u8 62,.int .u8 120,.int .u8 60,.int .u8 33,.int .u8 45,.int .u8 45,.int .u8 121,.int .u8 45,.int .u8 45,.int .u8 62,.int .u8 60,.int .u8 47,.int .u8 97,.int .u8 62] 5))=.ok (.slice (some ⟨W.heap.size,0,none⟩) 22 22) (W.alloc (.cells #[.int .u8 60,.int .u8 97,.int .u8 32,.int .u8 98,.int .u8 61,.int .u8 39,.int .u8 49,.int .u8 39,.int .u8 62,.int .u8 120,.int .u8 60,.int .u8 33,.int .u8 45,.int .u8 45,.int .u8 121,.int .u8 45,.int .u8 45,.int .u8 62,.int .u8 60,.int .u8 47,.int .u8 97,.int .u8 62] 5 (22,23))):=fun W=>DA W _ 22 22
 have hfl:∀(vd va:Value) (W:World),(Instr.field 42 (.agg #[.int .i64 1,.int .i64 0,.string ⟨#[]⟩,.string ⟨#[97]⟩,.string ⟨#[]⟩,.string ⟨#[]⟩,vd,va]) 3).run Tryz.prog W=.ok (.string ⟨#[97]⟩) W:=fun vd va W=>by
  first
   |rfl
   |kernel_rfl
 clear hB hW;go_enter Tryz.func11,Tryz.ntmps11
 go_wp2_with fail
 refine HC.out.mono ?_;rintro e w1⟨⟨d,B',rfl,hd⟩,hb1⟩;have HB1:=aa hb1;have HD:=aa hd;have HL:Hid (Calls Tryz.prog 16 #[.pointer (some ⟨d,0,none⟩)] w1 fun e w'=>e=.returned (.int .i64 4)/\w'=w1):=yK w1 hd (by decide) F4
 have HN:Hid (Calls Tryz.prog 18 #[.pointer (some ⟨d,0,none⟩),.int .i64 1] w1 fun e w' => ∃vd va,e=.returned (.agg #[.int .i64 1,.int .i64 0,.string ⟨#[]⟩,.string ⟨#[97]⟩,.string ⟨#[]⟩,.string ⟨#[]⟩,vd,va])/\Below w1.heap.size w1 w'):=(CG 1 w1 hd (by decide) F4 (by decide)).mono fun e w' ⟨vd,va,h1,_,_,h2⟩=>⟨vd,va,h1,h2⟩
 clear hb1 hd
 go_wp2_with fail
 refine HL.out.mono ?_;rintro e w2⟨rfl,hw⟩;rw[hw];clear hw
 go_wp2_with fail
 refine HN.out.mono ?_;rintro e w3⟨vd,va,rfl,hb3⟩;have HB3:=aa (HB1.out.trans (hb3.mono HB1.out.size));clear hb3;go_wp2;go_ret;exact⟨rfl,HB3.out⟩
end Go.Proofs.YteinegfbpfhflaaGreatDoor
